import PyProof.Rows.All
import Wide.All
import OpenK.AllK
import Wide.FinOn
import KE.HD2
import KE.KNestM
import HandS.ForMost
import HandS.IsInst
import HandS.TupAny
import HandS.TupMul
import HandS.Style
import HandS.Flow
import HandS.Walk
import KE.GoesMore
import HandS.FStrTup
import HandS.ExcValue
import HandS.ExcIs
import HandS.ExcField
import KE.KExcIs
import HandS.ExcInit
import HandS.WordsExc
import HandS.SortKw
import KE.DataMinMax
import KE.KeyNested
import KE.KDictKeyed
import HandS.Dict
import HandS.Lambda
import HandS.Zip
import HandS.RevTup
import HandS.More
import HandS.TryOnly
import HandS.IterVal
import PyProof.NeKinds
import HandS.Conv
import HandS.Deep
import PyProof.SliceSyntax
import HandS.WordsDict
import HandS.Replace
import HandS.OwnEq
import KE.KFmtOwn
import KE.KDictPairs
import HandS.TupLen
import KE.SortData
import KE.SortKeyHeap
import HandS.TupLe
import HandS.SuiteRaise
import HandS.RaiseFrom
import HandS.ExcInitHot
import HandS.SetFor
import HandS.List
import PyProof.EqKinds
import PyProof.FactsAll.dict
import HandS.DictComp
import PySem.Challenge.RW_treelore_k15_handles_begun
set_option Elab.async false
set_option linter.all false
set_option maxRecDepth 100000
namespace Tl
open PySem PySem.W PyProof.Rows HeadRun
/-- the head of a law whose top asks one row of the world: the machine's run over the tree, once for each answer; nothing of the way is written out -/
theorem head_k {H : Hook} {K : Params → Frag} {as : List Addr} {ek : ∀ P, as = (K P).map (·.1)} (hH : H = kHook K as ek) {r : OpenRow} {q : Program} {M : Nat} {loose : List PySem.Str} {d : DefRec} {kwd : List (PySem.Str × PySem.Expr)}
    (hdef : defOf q r.name = some (d, kwd)) (hp : r.prog.theDef r.name = some (d.params, d.body, d.scope)) (hk : kwWritten? d.params.kwonlyargs d.params.kw_defaults = some kwd)
    (run : ∀ w, RunEq r q (kHook K as ek) (fun s => as.map (getT s)) M loose w)
    (e : opening r.prog = plainProg r.prog.main.scope.names) (f : ∀ s, fenceModules? r.prog s = some s)
    (hwr : (!r.writes || r.records.isEmpty) = true) (k1 : r.wellSaid = true) (ok : (chainsOk q && opensWell r.prog && (frees r.toRowW && r.within.isEmpty)) = true) (hb : r.prog.bare) (hw : r.toRowW.promised)
    (call : WalkO q loose (XL q []) H.says r.toRowW d kwd fun f vs => PySem.call f vs) : r.Holds := by
  subst hH
  exact head_any (H := kHook K as ek) (ob := fun s => as.map (getT s)) (M := M) (loose := loose) (fun s => List.map_congr_left fun a _ => getT_eq s a) e f run hdef hp hk hwr k1 ok hb hw call
/-- the same of a law that makes lambdas -/
theorem head_km {H : Hook} {K : Params → Frag} {as ts : List Addr} {ek : ∀ P, as = (K P).map (·.1)} (hH : H = kmHook K as ek ts) {r : OpenRow} {q : Program} {M : Nat} {loose : List PySem.Str} {d : DefRec} {kwd : List (PySem.Str × PySem.Expr)}
    (hdef : defOf q r.name = some (d, kwd)) (hp : r.prog.theDef r.name = some (d.params, d.body, d.scope)) (hk : kwWritten? d.params.kwonlyargs d.params.kw_defaults = some kwd)
    (run : ∀ w, RunEq r q (kmHook K as ek ts) (fun s => (as.map (getT s), ts.map (getT s))) M loose w)
    (e : opening r.prog = plainProg r.prog.main.scope.names) (f : ∀ s, fenceModules? r.prog s = some s)
    (hwr : (!r.writes || r.records.isEmpty) = true) (k1 : r.wellSaid = true) (ok : (chainsOk q && opensWell r.prog && (frees r.toRowW && r.within.isEmpty)) = true) (hb : r.prog.bare) (hw : r.toRowW.promised)
    (call : WalkO q loose (XL q []) H.says r.toRowW d kwd fun f vs => PySem.call f vs) : r.Holds := by
  subst hH
  exact head_any (H := kmHook K as ek ts) (ob := fun s => (as.map (getT s), ts.map (getT s))) (M := M) (loose := loose) (fun s => Prod.ext (List.map_congr_left fun a _ => getT_eq s a) (List.map_congr_left fun a _ => getT_eq s a)) e f run hdef hp hk hwr k1 ok hb hw call
end Tl
section
open PySem PySem.W PyProof.Rows
set_option Elab.async false
set_option maxRecDepth 100000
set_option maxHeartbeats 0
def Tl.qv : Program := view PySem.Challenge.pw_treelore_k15_handles_begun [93]
def Tl.loose0 : List PySem.Str := ["_wall", "TreeError", "NoThing", "NoFit", "Cut", "NoTree", "NoPath", "NoDeed", "NoHandle", "NoPlace", "Root", "Within", "TooMany", "TooDeep", "Gone", "Stopped", "Busy", "is_within", "behind_out", "behind_put"]
def Tl.loose1 : List PySem.Str := ["behind_move", "behind_swap", "behind_wrap", "behind_unwrap", "SIZE", "DEPTH", "SIGNS", "is_count", "is_number", "is_tag", "is_path", "is_tree", "room_behind", "is_tag_and_kids", "size_of", "depth_of", "has_place", "part_of", "places_of", "check_tree"]
def Tl.loose2 : List PySem.Str := ["check_path", "check_place", "count_places", "count_levels", "part_at", "paths_from", "FORMS", "is_deed", "has_word", "is_of_form", "done", "check_places", "check_roots", "check_apart", "check_at", "check_reach", "check_bounds", "changed", "with_part", "with_run"]
def Tl.loose3 : List PySem.Str := ["with_run_at", "named", "put_in", "taken_out", "moved", "swapped", "wrapped", "unwrapped", "CHANGES", "places_led", "place_behind", "all_done", "text_of", "text_within", "Make", "HandleTree", "_law_state", "_law_next", "_law_alike", "_law_tree"]
def Tl.loose4 : List PySem.Str := ["_law_places", "_law_reach", "_law_told", "_law_refused_so"]
def Tl.loose : List PySem.Str := Tl.loose0 ++ Tl.loose1 ++ Tl.loose2 ++ Tl.loose3 ++ Tl.loose4
local macro_rules | `(tactic| o_head $H) => `(tactic| (
  first | refine Tl.head_k (rfl : $H = kHook _ _ _) (q := Tl.qv) (loose := Tl.loose) (M := 7594) (by rfl) (by rfl) (by rfl) (byRow2 "special-get-raises" ?h1 ?h2) (by kernel_rfl) (fun s => by kernel_rfl) (by rfl) (by first | assumption | decide +kernel) (by decide +kernel) ⟨rfl, rfl, rfl, rfl, rfl, by decide +kernel⟩ ?hw ?hc
        | refine Tl.head_km (rfl : $H = kmHook _ _ _ _) (q := Tl.qv) (loose := Tl.loose) (M := 7594) (by rfl) (by rfl) (by rfl) (byRow2 "special-get-raises" ?h1 ?h2) (by kernel_rfl) (fun s => by kernel_rfl) (by rfl) (by first | assumption | decide +kernel) (by decide +kernel) ⟨rfl, rfl, rfl, rfl, rfl, by decide +kernel⟩ ?hw ?hc
  (case h1 => (intro w os; kernel_rfl))
  (case h2 => (intro w os; kernel_rfl))))
open_top tl_head for PySem.Challenge.rw_treelore_k15_handles_begun
end
set_option Elab.async false
set_option linter.all false
set_option maxRecDepth 100000
set_option maxHeartbeats 4000000
/-! Data in the heap, by value: what stays when the heap grows, what isinstance and len answer of it. -/
namespace Tl
open PySem L2
theorem same_new {H : Hp} {p : Addr} {o : HO} (h : H p = none) : Same H (upd H p o) := fun b u q => by
  rw [upd_ne (ne_of_none q h)]
  exact q
/-- what F does not know may change -/
theorem same_mut {F H : Hp} {p : Addr} {o : HO} (e : Same F H) (h : F p = none) : Same F (upd H p o) := fun b u q => by
  rw [upd_ne (ne_of_none q h)]
  exact e b u q
theorem same_rd {H H' : Hp} {a : Addr} {u : HO} (e : Same H H') (h : Rd H a u) : Rd H' a u := by
  rcases h with h | ⟨o, h⟩
  · exact .inl (e a _ h)
  · exact .inr ⟨o, e a _ h⟩
theorem same_t {K : PySem.W.Frag} {H H' : Hp} {a : Addr} {xs : List V} (e : Same H H') (h : SqT K H a xs) : SqT K H' a xs := by
  rcases h with h | h
  · exact .inl (same_rd e h)
  · exact .inr h
theorem same_l {K : PySem.W.Frag} {H H' : Hp} {a : Addr} {xs : List V} (e : Same H H') (h : SqL K H a xs) : SqL K H' a xs := by
  rcases h with h | h
  · exact .inl (same_rd e h)
  · exact .inr h
mutual
theorem dp_mono {K : PySem.W.Frag} {H H' : Hp} (e : Same H H') : ∀ (d : PyData) (v : V), Dp K H v d → Dp K H' v d
  | .none, _, h => by cases h; exact .non
  | .bool b, _, h => by cases h; exact .bl b
  | .int i, _, h => by cases h; exact .int i
  | .str x, _, h => by cases h; exact .str x
  | .list ds, _, h => by
    cases h with
    | lst hs ha => exact .lst (same_l e hs) (dpAll_mono e ds _ ha)
  | .tuple ds, _, h => by
    cases h with
    | tup hs ha => exact .tup (same_t e hs) (dpAll_mono e ds _ ha)
  | .dict _, _, h => by cases h
theorem dpAll_mono {K : PySem.W.Frag} {H H' : Hp} (e : Same H H') : ∀ (ds : List PyData) (vs : List V), DpAll K H vs ds → DpAll K H' vs ds
  | [], _, h => by cases h; exact .nil
  | d :: ds, _, h => by
    cases h with
    | cons h1 h2 => exact .cons (dp_mono e d _ h1) (dpAll_mono e ds _ h2)
end
/-- a thing of the law: data, or the empty dict -/
inductive Dt (K : PySem.W.Frag) (H : Hp) : V → PyData → Prop
  | d {v : V} {d : PyData} : Dp K H v d → Dt K H v d
  | e {a : Addr} : H a = some (.dK []) → Dt K H (.ref a) (.dict [])
theorem Dt.mono {K : PySem.W.Frag} {H H' : Hp} {v : V} {d : PyData} (e : Same H H') (h : Dt K H v d) : Dt K H' v d := by
  cases h with
  | d h => exact .d (dp_mono e _ _ h)
  | e h => exact .e (e _ _ h)
theorem DpAll.len {K : PySem.W.Frag} {H : Hp} : ∀ {vs : List V} {ds : List PyData}, DpAll K H vs ds → vs.length = ds.length
  | _, _, .nil => rfl
  | _, _, .cons _ h => by rw [List.length_cons, List.length_cons, DpAll.len h]
theorem DpAll.get {K : PySem.W.Frag} {H : Hp} : ∀ {vs : List V} {ds : List PyData} {i : Nat} {v : V}, DpAll K H vs ds → vs[i]? = some v → ∃ d, ds[i]? = some d ∧ Dp K H v d
  | _, _, _, _, .nil, e => by simp at e
  | _, _, 0, _, .cons h _, e => by simp at e; subst e; exact ⟨_, rfl, h⟩
  | _, _, i + 1, v, .cons _ h, e => by
    obtain ⟨d, h1, h2⟩ := DpAll.get (i := i) (v := v) h (by simpa using e)
    exact ⟨d, by simpa using h1, h2⟩
theorem DpAll.got {K : PySem.W.Frag} {H : Hp} : ∀ {vs : List V} {ds : List PyData} {i : Nat} {d : PyData}, DpAll K H vs ds → ds[i]? = some d → ∃ v, vs[i]? = some v ∧ Dp K H v d
  | _, _, _, _, .nil, e => by simp at e
  | _, _, 0, _, .cons h _, e => by simp at e; subst e; exact ⟨_, rfl, h⟩
  | _, _, i + 1, d, .cons _ h, e => by
    obtain ⟨v, h1, h2⟩ := DpAll.got (i := i) (d := d) h (by simpa using e)
    exact ⟨v, by simpa using h1, h2⟩
theorem DpAll.app {K : PySem.W.Frag} {H : Hp} : ∀ {vs ws : List V} {ds es : List PyData}, DpAll K H vs ds → DpAll K H ws es → DpAll K H (vs ++ ws) (ds ++ es)
  | _, _, _, _, .nil, h => h
  | _, _, _, _, .cons a b, h => .cons a (DpAll.app b h)
theorem DpAll.take {K : PySem.W.Frag} {H : Hp} : ∀ {vs : List V} {ds : List PyData} (n : Nat), DpAll K H vs ds → DpAll K H (vs.take n) (ds.take n)
  | _, _, 0, _ => .nil
  | _, _, _ + 1, .nil => .nil
  | _, _, n + 1, .cons a b => .cons a (DpAll.take n b)
theorem DpAll.drop {K : PySem.W.Frag} {H : Hp} : ∀ {vs : List V} {ds : List PyData} (n : Nat), DpAll K H vs ds → DpAll K H (vs.drop n) (ds.drop n)
  | _, _, 0, h => h
  | _, _, _ + 1, .nil => .nil
  | _, _, n + 1, .cons a b => DpAll.drop n b
theorem DpAll.rev {K : PySem.W.Frag} {H : Hp} : ∀ {vs : List V} {ds : List PyData}, DpAll K H vs ds → DpAll K H vs.reverse ds.reverse
  | _, _, .nil => .nil
  | _, _, .cons a b => by rw [List.reverse_cons, List.reverse_cons]; exact DpAll.app (DpAll.rev b) (.cons a .nil)
theorem DpAll.rep {K : PySem.W.Frag} {H : Hp} {vs : List V} {ds : List PyData} (h : DpAll K H vs ds) : ∀ n : Nat, DpAll K H (List.replicate n vs).flatten (List.replicate n ds).flatten
  | 0 => .nil
  | n + 1 => by
    rw [List.replicate_succ, List.replicate_succ, List.flatten_cons, List.flatten_cons]
    exact DpAll.app h (DpAll.rep h n)
theorem DpAll.two {K : PySem.W.Frag} {H : Hp} : ∀ {vs : List V} {ds : List PyData}, DpAll K H vs ds → vs.length = 2 → ∃ x y a b, vs = [x, y] ∧ ds = [a, b] ∧ Dp K H x a ∧ Dp K H y b
  | _, _, .nil, e => by simp at e
  | _, _, .cons _ .nil, e => by simp at e
  | _, _, .cons h1 (.cons h2 .nil), _ => ⟨_, _, _, _, rfl, rfl, h1, h2⟩
  | _, _, .cons _ (.cons _ (.cons _ _)), e => by simp at e
/-! ### what isinstance answers -/
def tyName : PyData → String
  | .none => "NoneType"
  | .bool _ => "bool"
  | .int _ => "int"
  | .str _ => "str"
  | .list _ => "list"
  | .tuple _ => "tuple"
  | .dict _ => "dict"
@[reducible] def isStr : PyData → Bool
  | .str _ => true
  | _ => false
@[reducible] def isTup : PyData → Bool
  | .tuple _ => true
  | _ => false
@[reducible] def isInt : PyData → Bool
  | .int _ => true
  | .bool _ => true
  | _ => false
@[reducible] def isBl : PyData → Bool
  | .bool _ => true
  | _ => false
theorem kit_str (d : PyData) : kitB (tyName d) "str" = some (isStr d) := by cases d <;> (simp only [tyName, isStr]; decide +kernel)
theorem kit_tup (d : PyData) : kitB (tyName d) "tuple" = some (isTup d) := by cases d <;> (simp only [tyName, isTup]; decide +kernel)
theorem kit_int (d : PyData) : kitB (tyName d) "int" = some (isInt d) := by cases d <;> (simp only [tyName, isInt]; decide +kernel)
theorem kit_bl (d : PyData) : kitB (tyName d) "bool" = some (isBl d) := by cases d <;> (simp only [tyName, isBl]; decide +kernel)
/-! ### texts within are short -/
mutual
def txt : PyData → Bool
  | .str s => decide (s.length ≤ 1000) && PyData.strOk s
  | .list ds => txtAll ds
  | .tuple ds => txtAll ds
  | _ => true
def txtAll : List PyData → Bool
  | [] => true
  | d :: ds => txt d && txtAll ds
end
theorem txtAll_get : ∀ {ds : List PyData} {i : Nat} {d : PyData}, txtAll ds = true → ds[i]? = some d → txt d = true
  | [], _, _, _, e => by simp at e
  | a :: r, 0, d, h, e => by
    rw [txtAll, Bool.and_eq_true] at h
    simp at e
    subst e
    exact h.1
  | a :: r, i + 1, d, h, e => by
    rw [txtAll, Bool.and_eq_true] at h
    exact txtAll_get h.2 (by simpa using e)
theorem txt_str {s : Str} (h : txt (.str s) = true) : s.length ≤ 1000 ∧ PyData.strOk s = true := by
  rw [txt, Bool.and_eq_true] at h
  exact ⟨of_decide_eq_true h.1, h.2⟩
theorem sz1000 {n : Nat} (h : n ≤ 1000) : n ≤ sizeLine := Nat.le_of_lt (small1000 h)
/-- the built-in names that are still the built-in's -/
structure Bl (mg : Str → Option Value) : Prop where
  isi : mg "isinstance" = none
  int : mg "int" = none
  bool : mg "bool" = none
  str : mg "str" = none
  tuple : mg "tuple" = none
  list : mg "list" = none
  len : mg "len" = none
  all : mg "all" = none
  repr : mg "repr" = none
  max : mg "max" = none
  range : mg "range" = none
  enum : mg "enumerate" = none
section
variable {X : Cx}
theorem b_int (T : Bl X.mg) {p : Pos} (hg : Gl X "int" := by rfl) : PE X (.Name "int" p) (tC (.ty "int")) := pe_bltn hg T.int PyProof.Rows.boot_int rfl
theorem b_bool (T : Bl X.mg) {p : Pos} (hg : Gl X "bool" := by rfl) : PE X (.Name "bool" p) (tC (.ty "bool")) := pe_bltn hg T.bool PyProof.Rows.boot_bool rfl
theorem b_str (T : Bl X.mg) {p : Pos} (hg : Gl X "str" := by rfl) : PE X (.Name "str" p) (tC (.ty "str")) := pe_bltn hg T.str PyProof.Rows.boot_str rfl
theorem b_tuple (T : Bl X.mg) {p : Pos} (hg : Gl X "tuple" := by rfl) : PE X (.Name "tuple" p) (tC (.ty "tuple")) := pe_bltn hg T.tuple PyProof.Rows.boot_tuple rfl
end
theorem iteD {p A B : Prop} [Decidable p] (h1 : p → A) (h2 : ¬ p → B) : if decide p = true then A else B := by
  by_cases h : p
  · rw [if_pos (decide_eq_true h)]
    exact h1 h
  · rw [if_neg (by rw [decide_eq_false h]; exact Bool.false_ne_true)]
    exact h2 h
/-! ### comprehensions whose parts leave all as it was -/
/-- a def of the program that is called: where it stands, and what it promises -/
structure Use (P : Program) (w : World) (K : PySem.W.Frag) (mg : Str → Option Value) (base : Heap) (x : Str) (ps : List Str) (k : Nat) (sp : Sp) where
  f : Addr
  fd : FuncData
  ok : FnOk P w K mg base CX0 k f fd ps sp
  m : mg x = some (.ref f)
  kp : PySem.W.keepIn K (.ref f) = true
  b : Binds K fd ps []
end Tl
set_option Elab.async false
set_option linter.all false
set_option maxRecDepth 100000
set_option maxHeartbeats 4000000
/-! Rules of our own: tuple * int of any small count, text * int, enumerate of a tuple, repr of data. -/
namespace Tl
open PySem PySem.Spec PyProof.Rows L2
open AutoSeq1 (wpAny_loadPart')
/-- one way through tuple.__mul__ where the tuple itself comes back -/
theorem mulSame (l : Addr) (items : Array Value) (n : Nat) (dd : Option Addr) (sl : Array (Option Value)) (x : Int) (u : Tok)
    (c0 : (decide (x < -(2 ^ 63)) || decide (x ≥ 2 ^ 63)) = false) (c1 : (items.isEmpty || x == 1) = true) :
    Meets (Builtin.«tuple.__mul__» ⟨[.ref l, .int x u], []⟩) (fun _ R s =>
      s.heap.get? l = some { cls := .type "tuple", dict := dd, data := .seq items n, slots := sl } ∧
        R (.ok (.ret (Value.ref l))) s) :=
  .of_wp fun prog w A R s h => by
    obtain ⟨hp, g, d, tk, os⟩ := s
    obtain ⟨hl, h⟩ := h
    have f1 := AutoSeq1.idx_int
    wp_walk using wpAny_loadPart' hl
    refine wpAny_ite_false (decide_eq_false (by rw [c0]; exact Bool.false_ne_true)) ?_
    wp_walk using wpAny_loadPart' hl
    exact ⟨_, rfl, h⟩
theorem mulNone (l : Addr) (items : Array Value) (n : Nat) (dd : Option Addr) (sl : Array (Option Value)) (x : Int) (u : Tok)
    (c0 : (decide (x < -(2 ^ 63)) || decide (x ≥ 2 ^ 63)) = false) (c1 : (items.isEmpty || x == 1) = false) (c2 : (decide (x ≤ 0) || items.isEmpty) = true) :
    Meets (Builtin.«tuple.__mul__» ⟨[.ref l, .int x u], []⟩) (fun _ R s =>
      s.heap.get? l = some { cls := .type "tuple", dict := dd, data := .seq items n, slots := sl } ∧
        R (.ok (.ret (Value.ref s.heap.objs.size))) { s with heap := s.heap.push { cls := Value.type "tuple", data := Data.seq #[] }, toks := s.toks }) :=
  .of_wp fun prog w A R s h => by
    obtain ⟨hp, g, d, tk, os⟩ := s
    obtain ⟨hl, h⟩ := h
    have f1 := AutoSeq1.idx_int
    wp_walk using wpAny_loadPart' hl
    refine wpAny_ite_false (decide_eq_false (by rw [c0]; exact Bool.false_ne_true)) ?_
    wp_walk using wpAny_loadPart' hl
    exact ⟨_, rfl, h⟩
def rRepA (K : PySem.W.Frag) : R2 := fun x y H Q => ∃ l k xs, x = .ref l ∧ y = .int k ∧ SqT K H l xs ∧ 0 ≤ k ∧ k ≤ 1000 ∧ xs.length ≤ 1000 ∧ (xs = [] ∨ k = 1 → Q (.ref l) H) ∧
  (¬ (xs = [] ∨ k = 1) → ∀ p, H p = none → Q (.ref p) (upd H p (.tup (List.replicate k.toNat xs).flatten)))
theorem op_repA {X : Cx} : OpR X (binaryOp .Mult) (rRepA X.K) := by
  intro pins s σ H x y v u Q I rx ry h
  obtain ⟨l, k, xs, rfl, rfl, hT, h1, h2, hz, q0, q1⟩ := h
  by_cases hc : xs = [] ∨ k = 1
  · cases rx
    obtain ⟨t, rfl⟩ := ry
    obtain ⟨its, r, ⟨⟨cls, dd, data, sl⟩, ho, hcl, n, hd⟩, hs⟩ := I.tuple hT
    simp only at hcl hd
    subst hcl hd
    have c0 : (decide (k < -(2 ^ 63)) || decide (k ≥ 2 ^ 63)) = false := by
      rw [decide_eq_false (by omega), decide_eq_false (by omega)]
      rfl
    have c1 : (its.toArray.isEmpty || k == 1) = true := by
      rcases hc with e | e
      · subst e
        cases r
        rfl
      · rw [e, Bool.or_eq_true]
        exact .inr rfl
    refine wpAny_binaryOp_repeat_ref (T := "tuple") (U := "int") (by decide) ⟨_, ho, rfl⟩ (fun s' => typeIs_int s' k t)
      noFill_tuple_mul F.fills_int_mul F.slot_int_rmul repeat_tuple F.slot_int_index.lookup
      (call_meets F.slot_int_rmul (typeIs_int s k t) F.entry_int_rmul (F.args_int_rmul_2 _ _)
        (int_rmul_tuple k t l its.toArray n dd sl) ⟨ho, rfl, ⟨_, ho, rfl⟩, call_meets F.slot_tuple_mul ⟨_, ho, rfl⟩ F.entry_tuple_mul (F.args_tuple_mul_2 _ _) (mulSame l its.toArray n dd sl k t c0 c1) ⟨ho, ?_⟩⟩)
    exact ⟨.ref l, H, I, rfl, q0 hc⟩
  · by_cases hk : 2 ≤ k
    · exact op_repT pins s σ H _ _ v u Q I rx ry ⟨l, k, xs, rfl, rfl, hT, fun e => hc (.inl e), hk, h2, hz, q1 hc⟩
    · have hk0 : k = 0 := by
        have : ¬ k = 1 := fun e => hc (.inr e)
        omega
      subst hk0
      cases rx
      obtain ⟨t, rfl⟩ := ry
      obtain ⟨its, r, ⟨⟨cls, dd, data, sl⟩, ho, hcl, n, hd⟩, hs⟩ := I.tuple hT
      simp only at hcl hd
      subst hcl hd
      have hi : its.toArray.isEmpty = false := by
        cases r with
        | nil => exact absurd (.inl rfl) hc
        | cons a b => rfl
      have c1 : (its.toArray.isEmpty || (0 : Int) == 1) = false := by rw [hi]; rfl
      refine wpAny_binaryOp_repeat_ref (T := "tuple") (U := "int") (by decide) ⟨_, ho, rfl⟩ (fun s' => typeIs_int s' 0 t)
        noFill_tuple_mul F.fills_int_mul F.slot_int_rmul repeat_tuple F.slot_int_index.lookup
        (call_meets F.slot_int_rmul (typeIs_int s 0 t) F.entry_int_rmul (F.args_int_rmul_2 _ _)
          (int_rmul_tuple 0 t l its.toArray n dd sl) ⟨ho, rfl, ⟨_, ho, rfl⟩, call_meets F.slot_tuple_mul ⟨_, ho, rfl⟩ F.entry_tuple_mul (F.args_tuple_mul_2 _ _) (mulNone l its.toArray n dd sl 0 t (by decide) c1 (by rfl)) ⟨ho, ?_⟩⟩)
      refine ⟨.ref s.heap.objs.size, _, I.laid (t' := s.toks) (o := .tup []) (fun b ob q => Heap.get?_push_of_some _ q) (Nat.le_refl _) ?_, rfl, q1 hc _ (I.hok.fresh (Nat.le_refl _))⟩
      exact ⟨Nat.zero_le _, [], .nil, IsTup.new _ _⟩
/-! ### enumerate(t), t a tuple -/
set_option maxHeartbeats 4000000 in
theorem enumNew {v : Value} {o : Obj} {Hh : Heap → Prop} (B : Begins v o Hh) :
    Meets (Builtin.«enumerate.__new__» ⟨[.type "enumerate", v], []⟩) (fun _ R s => Hh s.heap ∧
      R (.ok (.ret (.ref (s.heap.push o).objs.size)))
        { s with heap := (s.heap.push o).push { cls := .type "enumerate", data := .fields #[.none, .bool false, .ref s.heap.objs.size, rawInt 0, .none, .none] } }) :=
  .of_wp fun prog w A R s h => by
    obtain ⟨hp, g, d, tk, os⟩ := s
    obtain ⟨h1, h⟩ := h
    have hsub := sub_enumerate
    have it : ∀ {A' : Around} {E : Value → Shared → Prop} {Q : Value → Shared → Prop}, Q (.ref hp.objs.size) ⟨hp.push o, g, d, tk, os⟩ →
        wpAny (model prog w) A' (pyIter v) Q E ⟨hp, g, d, tk, os⟩ := fun q => B.iter prog w _ _ ⟨hp, g, d, tk, os⟩ _ h1 q
    wp_walk using it
    refine wpAny_stack_any fun st => wpAny_pure ?_
    split
    · rename_i c _ _ _ _ _
      cases (c == Value.type "enumerate")
      · wp_walk using it
        exact ⟨_, rfl, h⟩
      · wp_walk using it
        exact ⟨_, rfl, h⟩
    · wp_walk using it
      exact ⟨_, rfl, h⟩
theorem enumTup {prog : Program} {w : World} {A : Around} {E : Value → Shared → Prop} {s : Shared} {l : Addr} {items : Array Value} {Q : Value → Shared → Prop} (hL : s.heap.IsTuple l items)
    (h : ∀ h', IsEnum h' (s.heap.objs.size + 1) s.heap.objs.size 0 .none → h'.IsTupleIter s.heap.objs.size l 0 →
      (∀ b o, s.heap.get? b = some o → h'.get? b = some o) → Q (.ref (s.heap.objs.size + 1)) { s with heap := h' }) :
    wpAny (model prog w) A (call (.type "enumerate") [.ref l]) Q E s := by
  refine callType_new F.called_enumerate (by decide) (F.typeCall_enumerate_1 _) (F.newCall_enumerate_1 _)
    (fun obj => F.args_object_init_2 obj _) F.entry_enumerate_new (enumNew (begins_tuple l items)) ⟨hL, ?_⟩
  have hz : (s.heap.push { cls := .type "tuple_iterator", data := .fields #[.ref l, .int 0 0] }).objs.size = s.heap.objs.size + 1 := Heap.size_push ..
  show _ ∧ _
  rw [hz]
  generalize hk : (s.heap.push { cls := .type "tuple_iterator", data := .fields #[.ref l, .int 0 0] }) = h1 at hz ⊢
  have g0 : h1.get? s.heap.objs.size = some { cls := .type "tuple_iterator", data := .fields #[.ref l, .int 0 0] } := by rw [← hk]; exact Heap.get?_push_size _ rfl
  have g1 := Heap.get?_push_size h1 (o := { cls := .type "enumerate", data := .fields #[.none, .bool false, .ref s.heap.objs.size, rawInt 0, .none, .none] }) rfl
  rw [hz] at g1
  refine ⟨⟨_, g1, rfl⟩, h _ g1 ⟨_, Heap.get?_push_of_some _ g0, rfl, rfl⟩ fun b o x => Heap.get?_push_of_some _ ?_⟩
  rw [← hk]
  exact Heap.get?_push_of_some _ x
def Iet (K : PySem.W.Frag) (a : Addr) : It where
  go := fun i H => ∃ (xs : List V) (x : V), SqT K H a xs ∧ xs[i]? = some x
  yld := fun i H v H' => ∃ T x, v = .ref T ∧ H T = none ∧ H' = upd H T (.tup [.int (i : Nat), x]) ∧ ∀ xs, SqT K H a xs → xs[i]? = some x
  stop := fun i H => ∃ xs : List V, SqT K H a xs ∧ xs.length = i
theorem turnET {P : Program} {w : World} {K : PySem.W.Frag} {elts : List Expr} {kk : Nat} {tpos : Pos} (a e it : Addr) :
    Turn P w K (.Tuple elts kk tpos) (Iet K a) [e, it] e
      (fun i h => (∃ old, IsEnum h e it ((i : Nat) : Int) old) ∧ h.IsTupleIter it a i ∧ e ≠ it) where
  mem := by simp
  obj := fun i h st b hb => by
    obtain ⟨⟨old, he⟩, ⟨o, ho, hc, hd⟩, _⟩ := st
    have hb2 : b = e ∨ b = it := by simpa using hb
    rcases hb2 with rfl | rfl
    · exact ⟨_, he, fun v q => nomatch q⟩
    · exact ⟨o, ho, fun v q => by rw [hd] at q; cases q⟩
  keep := fun i h h' st k => by
    obtain ⟨⟨old, he⟩, hi, hne⟩ := st
    exact ⟨⟨old, k e (by simp) _ he⟩, hi.at fun o q => k it (by simp) o q, hne⟩
  item := by
    intro X hP hw hK hc i pins s σ H E I hf st hg
    subst hP hw hK
    obtain ⟨⟨old, he⟩, hit, hne⟩ := st
    obtain ⟨xs, x, hq, hx⟩ := hg
    obtain ⟨its, rv, p, hz⟩ := I.tuple hq
    obtain ⟨u, hu, ru⟩ := rv.get hx
    have hel : e < s.heap.objs.size := Heap.lt_size he
    have hil : it < s.heap.objs.size := by
      obtain ⟨_, q, _⟩ := hit
      exact Heap.lt_size q
    have hae : a ≠ e := fun z => by
      obtain ⟨o, ho, hcl, _⟩ := p
      rw [z, he] at ho
      cases ho
      have h9 : Value.type "enumerate" = Value.type "tuple" := hcl
      exact absurd h9 (by decide)
    have hai : a ≠ it := fun z => by
      obtain ⟨o, ho, hcl, _⟩ := p
      obtain ⟨o', ho', hcl', _⟩ := hit
      rw [z, ho'] at ho
      cases ho
      rw [hcl'] at hcl
      exact absurd hcl (by decide)
    have hlt : i < its.toArray.size := by
      rw [List.size_toArray]
      exact (List.getElem?_eq_some_iff.mp hu).1
    refine wpAny_pyNext_enum_itemD (Draws.tuple (prog := X.prog) (w := X.w) (A := X.A.in1) (I.ok.hd hc) it a hai its.toArray) he ⟨hit, p⟩ hlt hne (by simp [hne, Ne.symm hae]) fun y h' tk hy ho hst hT hsz hk => ?_
    have ey : y = u := by
      have hu' : its.toArray[i]? = some u := by simpa using hu
      rw [hu'] at hy
      exact (Option.some.inj hy).symm
    subst ey
    refine ⟨_, rfl, wpAny_letOwnedTupleGo_enum (s := { s with heap := h', toks := tk + 1 }) ho fun h'' he' sb => ?_⟩
    have hT2 := (sb.2 _ (Nat.ne_of_gt hel)).trans hT
    have new : ObjOk X.prog X.w (upd H s.heap.objs.size (.tup [.int (i : Nat), x])) h'' s.heap.objs.size (.tup [.int (i : Nat), x]) :=
      ⟨by show 2 ≤ sizeLine; decide, [.int i tk, y], .cons ⟨_, rfl⟩ (.cons ru .nil), ⟨_, hT2, rfl, _, rfl⟩⟩
    have I1 : Inv X pins σ (upd H s.heap.objs.size (.tup [.int (i : Nat), x])) { s with heap := h'', toks := tk + 1 } :=
      I.turnedNew (ch := [e, it]) (fun b ob hb q => (sb.2 b fun z => hb (by simp [z])).trans
        (hk b ob (fun z => hb (by simp [z])) (fun z => hb (by simp [z])) q)) hf (Nat.le_refl _) new
    refine ⟨.ref s.heap.objs.size, _, I1, rfl, ⟨_, x, rfl, I.hok.fresh (Nat.le_refl _), rfl, fun ys hy => by rw [I.tuple_inj hy hq]; exact hx⟩, ⟨⟨y, ?_⟩, hst.1.at fun o q => (sb.2 it (Ne.symm hne)).trans q, hne⟩, fun b hb => ?_⟩
    · rw [show ((i + 1 : Nat) : Int) = (i : Int) + 1 by omega]
      exact he'
    · have hb2 : b = e ∨ b = it := by simpa using hb
      have hb3 : b < s.heap.objs.size := by
        rcases hb2 with rfl | rfl
        · exact hel
        · exact hil
      rw [upd_ne (Nat.ne_of_lt hb3)]
      exact (hf b hb).1
  done := by
    intro X hP hw hK hc i pins s σ H E I hf st hg
    subst hP hw hK
    obtain ⟨⟨old, he⟩, hit, hne⟩ := st
    obtain ⟨xs, hq, hx⟩ := hg
    obtain ⟨its, rv, p, hz⟩ := I.tuple hq
    obtain ⟨f0, f1, f2, f3, f4, f5⟩ := hf it (by simp)
    have hai : a ≠ it := fun z => by
      obtain ⟨o, ho, hcl, _⟩ := p
      obtain ⟨o', ho', hcl', _⟩ := hit
      rw [z, ho'] at ho
      cases ho
      rw [hcl'] at hcl
      exact absurd hcl (by decide)
    have hn : its.toArray.size = i := by rw [List.size_toArray, ← rv.length, hx]
    have hst : s.heap.IsTupleIter it a its.toArray.size ∧ s.heap.IsTuple a its.toArray := ⟨by rw [hn]; exact hit, p⟩
    exact wpAny_pyNext_enum_endD (Draws.tuple (prog := X.prog) (w := X.w) (A := X.A.in1) (I.ok.hd hc) it a hai its.toArray) he hst fun h' eb => ⟨rfl, I.turned (t' := s.toks) (fun b o hb q => eb b o hb q) f0 f1 f3 f4 f5⟩
  self := fun A i s Q E st h => by
    obtain ⟨⟨_, he⟩, _⟩ := st
    exact wpAny_pyIter_enum he h
def iEnumT (K : PySem.W.Frag) (ta : TA) : TI := fun σ H R => ta σ H fun vs H1 => ∃ a xs, vs = [.ref a] ∧ SqT K H1 a xs ∧ R (Iet K a) H1
theorem pi_enumT {X : Cx} {e : Expr} {ta : TA} {p pos tpos : Pos} {elts : List Expr} {kk : Nat} (hg : Gl X "enumerate") (hm : X.mg "enumerate" = none)
    (ha : PA X [e] ta) (hs : starEach [e] X.env = [(false, eval e X.env)] := by rfl) : PI X (.Tuple elts kk tpos) (.Call (.Name "enumerate" p) [e] [] pos) (iEnumT X.K ta) := by
  refine ⟨fun pins s σ H R I h => ?_⟩
  refine Call_ (ld_blt I hg hm boot_enumerate (callWith_type1
    (thn (ha.run pos pins s σ H _ I h) fun us s1 ⟨vs, H1, I1, r1, q1⟩ => ?_) hs rfl))
  obtain ⟨a, xs, ex, hq, q⟩ := q1
  subst ex
  cases r1 with
  | cons r rr =>
    cases rr
    cases r
    obtain ⟨its, rv, p', hz⟩ := I1.tuple hq
    refine enumTup p' fun h' he hit hk => wpAny_pyIter_enum he ?_
    have I2 : Inv X pins σ H1 { s1 with heap := h' } := I1.kept (t' := s1.toks) hk
    refine ⟨s1.heap.objs.size + 1, [s1.heap.objs.size + 1, s1.heap.objs.size], _, _, H1, rfl, I2,
      turnET a (s1.heap.objs.size + 1) s1.heap.objs.size, ⟨⟨.none, he⟩, hit, Nat.succ_ne_self _⟩, fun b hb => ?_, q⟩
    have hle : s1.heap.objs.size ≤ b := by
      have hb2 : b = s1.heap.objs.size + 1 ∨ b = s1.heap.objs.size := by simpa using hb
      rcases hb2 with z | z
      · rw [z]
        exact Nat.le_add_right _ _
      · rw [z]
        exact Nat.le_refl _
    exact I1.fpOk hle (I1.hok.fresh hle)
theorem walk_enumT {K : PySem.W.Frag} {a : Addr} {xs : List V} : Walk (Iet K a) xs.length (fun H => SqT K H a xs)
    (fun i H v H' => ∃ T x, v = .ref T ∧ H T = none ∧ H' = upd H T (.tup [.int (i : Nat), x]) ∧ xs[i]? = some x) := by
  refine ⟨fun i _ hi q => ⟨xs, xs[i], q, by simp [hi]⟩, fun _ q => ⟨xs, q, rfl⟩, fun i H v H' _ q y => ?_⟩
  obtain ⟨T, x, h1, h2, h3, h4⟩ := y
  exact ⟨T, x, h1, h2, h3, h4 xs q⟩
/-! ### repr of data -/
def rReprD (K : PySem.W.Frag) : List V → Hp → VK → Prop := fun vs H Q => ∃ (v : V) (d : PyData), vs = [v] ∧ Dt K H v d ∧ d.showable = true ∧ d.depth ≤ 100 ∧ d.shown.length ≤ sizeLine ∧ Q (.str d.shown) H
mutual
theorem noD {K : PySem.W.Frag} {H : Hp} : ∀ (d : PyData) {v : V}, Dp K H v d → d.hasDict = false
  | .none, _, _ => rfl
  | .bool _, _, _ => rfl
  | .int _, _, _ => rfl
  | .str _, _, _ => rfl
  | .list ds, _, h => by
    cases h with
    | lst _ ha => rw [PyData.hasDict]; exact noDAll ds ha
  | .tuple ds, _, h => by
    cases h with
    | tup _ ha => rw [PyData.hasDict]; exact noDAll ds ha
  | .dict _, _, h => by cases h
theorem noDAll {K : PySem.W.Frag} {H : Hp} : ∀ (ds : List PyData) {vs : List V}, DpAll K H vs ds → PyData.hasDictAll ds = false
  | [], _, _ => rfl
  | d :: ds, _, h => by
    cases h with
    | cons h1 h2 => rw [PyData.hasDictAll, noD d h1, noDAll ds h2]; rfl
end
theorem call_reprD {X : Cx} (hg : X.A.guards = some []) (hu : X.A.units + 200 < cLine) : CallR X (.builtin "repr") (rReprD X.K) := by
  intro pins s σ H vs us Q I r h
  obtain ⟨v, d, rfl, hd, hs, hdp, hz, q⟩ := h
  cases r with
  | cons r1 rr =>
    cases rr
    rename_i u
    cases hd with
    | d hd =>
      obtain ⟨as, hR⟩ := Dp.reads I d v u hd r1
      have fin : ∀ (t' : Tok) (k : Nat), EP X pins σ Q (.str d.shown t') { s with toks := k } := fun t' k => ⟨.str _, H, I.tok k, ⟨t', rfl⟩, q⟩
      cases hd with
      | non =>
        cases (show u = Value.none from r1)
        exact PySem.P.repr_of_none (fin _ _)
      | bl b =>
        cases (show u = Value.bool b from r1)
        refine PySem.P.repr_of_bool ?_
        have := fin s.toks (s.toks + 1)
        cases b <;> exact this
      | int i =>
        obtain ⟨t', rfl⟩ := r1
        exact PySem.P.repr_of_int (of_decide_eq_true hs) (fin _ _)
      | str x =>
        obtain ⟨t', rfl⟩ := r1
        exact PySem.P.repr_of_str (fin _ _) hz
      | @lst a xs ds hs2 ha =>
        cases (show u = Value.ref a from r1)
        have hnd : (PyData.list ds).hasDict = true → sysModules ∉ as := PyData.noDict_hsm (noD _ (.lst hs2 ha))
        exact repr_of_reads' hR hs hnd hg (by omega) (fun b o e => e) (fun h' t' tk hk => ⟨.str _, H, I.kept (t' := tk) hk, ⟨t', rfl⟩, q⟩) hz
      | @tup a xs ds hs2 ha =>
        cases (show u = Value.ref a from r1)
        have hnd : (PyData.tuple ds).hasDict = true → sysModules ∉ as := PyData.noDict_hsm (noD _ (.tup hs2 ha))
        exact repr_of_reads' hR hs hnd hg (by omega) (fun b o e => e) (fun h' t' tk hk => ⟨.str _, H, I.kept (t' := tk) hk, ⟨t', rfl⟩, q⟩) hz
    | @e a hd =>
      cases (show u = Value.ref a from r1)
      obtain ⟨hz2, hsm, vs, hkv, o, es, ep, h1, h2, h3⟩ := (show ObjOk X.prog X.w H s.heap a (.dK []) from I.hok a _ hd)
      cases hkv
      have hes : es.toList = [] := by
        have hp := h3.2.2.1
        generalize es.toList = l at hp
        cases hp
        rfl
      have hR : Reads s.heap (.ref a) (.dict []) (a :: [] ++ []) := Reads.dict h1 h2.1 h3.1 (by rw [hes]; exact .nil) (by rw [hes]; exact .nil)
      have hne : ¬ a = sysModules := fun z => by rw [z] at hsm; simp at hsm
      exact repr_of_reads' hR hs (fun _ z => hne (by simpa using Eq.symm (by simpa using z))) hg (by omega) (fun b o e => e) (fun h' t' tk hk => ⟨.str _, H, I.kept (t' := tk) hk, ⟨t', rfl⟩, q⟩) hz
end Tl
set_option Elab.async false
set_option linter.all false
set_option maxRecDepth 100000
set_option maxHeartbeats 4000000
/-! Data that is good to be shown: short texts, small numbers; how long its text can be. -/
namespace Tl
open PySem L2
mutual
def wt : PyData → Nat
  | .none => 4
  | .bool _ => 5
  | .int _ => 1930
  | .str s => 10 * s.length + 4
  | .list ds => 3 + wtAll ds
  | .tuple ds => 3 + wtAll ds
  | .dict _ => 2
def wtAll : List PyData → Nat
  | [] => 0
  | d :: ds => wt d + 2 + wtAll ds
end
mutual
def gd : PyData → Bool
  | .none => true
  | .bool _ => true
  | .int i => decide (i.natAbs < 10 ^ 41)
  | .str s => decide (s.length ≤ 1000) && PyData.strOk s
  | .list ds => gdAll ds
  | .tuple ds => gdAll ds
  | .dict _ => false
def gdAll : List PyData → Bool
  | [] => true
  | d :: ds => gd d && gdAll ds
end
mutual
theorem gd_txt : ∀ d : PyData, gd d = true → txt d = true
  | .none, _ => rfl
  | .bool _, _ => rfl
  | .int _, _ => rfl
  | .str s, h => by rw [gd] at h; rw [txt]; exact h
  | .list ds, h => by rw [gd] at h; rw [txt]; exact gdAll_txt ds h
  | .tuple ds, h => by rw [gd] at h; rw [txt]; exact gdAll_txt ds h
  | .dict _, h => Bool.noConfusion h
theorem gdAll_txt : ∀ ds : List PyData, gdAll ds = true → txtAll ds = true
  | [], _ => rfl
  | d :: ds, h => by
    rw [gdAll, Bool.and_eq_true] at h
    rw [txtAll, gd_txt d h.1, gdAll_txt ds h.2]
    rfl
end
theorem big41 : (10 : Nat) ^ 41 ≤ 2 ^ 1920 := Nat.le_trans (show (10 : Nat) ^ 41 ≤ 2 ^ 200 by decide) (Nat.pow_le_pow_right (by decide) (by decide))
mutual
theorem gd_show : ∀ d : PyData, gd d = true → d.showable = true
  | .none, _ => rfl
  | .bool _, _ => rfl
  | .int i, h => by
    rw [gd] at h
    have h2 : i.natAbs < 10 ^ 41 := of_decide_eq_true h
    rw [PyData.showable]
    apply decide_eq_true
    by_cases h0 : i.natAbs = 0
    · rw [h0]; decide
    · exact (Nat.log2_lt h0).mpr (Nat.lt_of_lt_of_le h2 big41)
  | .str s, h => rfl
  | .list ds, h => by rw [gd] at h; rw [PyData.showable]; exact gdAll_show ds h
  | .tuple ds, h => by rw [gd] at h; rw [PyData.showable]; exact gdAll_show ds h
  | .dict _, h => Bool.noConfusion h
theorem gdAll_show : ∀ ds : List PyData, gdAll ds = true → PyData.showableAll ds = true
  | [], _ => rfl
  | d :: ds, h => by
    rw [gdAll, Bool.and_eq_true] at h
    rw [PyData.showableAll, gd_show d h.1, gdAll_show ds h.2]
    rfl
end
theorem textFrom_le : ∀ (ts : List Str) (k : Nat) (acc : Str), (textFrom k acc ts).length ≤ acc.length + piled ts
  | [], k, acc => by rw [piled_nil]; exact Nat.le_refl _
  | t :: r, k, acc => by
    have ih := textFrom_le r (k + 1) (acc ++ (if k > 0 then ", " else "" : String) ++ t)
    have e : (acc ++ (if k > 0 then ", " else "" : String) ++ t).length ≤ acc.length + 2 + t.length := by
      rw [strLen_append, strLen_append]
      have : ((if k > 0 then ", " else "" : String) : Str).length ≤ 2 := by split <;> decide +kernel
      omega
    show (textFrom (k + 1) _ r).length ≤ _
    rw [piled_cons]
    omega
theorem listText_le (ts : List Str) : (listText ts).length ≤ piled ts + 2 := by
  unfold listText
  rw [strLen_append]
  have h := textFrom_le ts 0 "["
  have e1 : ((("[" : String) : Str)).length = 1 := rfl
  have e2 : ((("]" : String) : Str)).length = 1 := rfl
  rw [e1] at h
  rw [e2]
  omega
mutual
theorem shown_le : ∀ d : PyData, gd d = true → d.shown.length ≤ wt d
  | .none, _ => by decide +kernel
  | .bool true, _ => by decide +kernel
  | .bool false, _ => by decide +kernel
  | .int i, h => by
    rw [gd] at h
    have h2 : i.natAbs < 10 ^ 41 := of_decide_eq_true h
    have h4 : i.natAbs.log2 < 1920 := by
      by_cases h0 : i.natAbs = 0
      · rw [h0]; decide
      · exact (Nat.log2_lt h0).mpr (Nat.lt_of_lt_of_le h2 big41)
    have h3 := PyProof.Rows.int_text_len_1921 h4
    show (Str.ofString (toString i)).length ≤ 1930
    omega
  | .str s, h => by
    rw [gd, Bool.and_eq_true] at h
    have h2 := h.2
    rw [PyData.strOk, ← Array.all_toList, List.all_eq_true] at h2
    have h3 := StrLaws.reprText_len s fun c hc => Nat.lt_of_lt_of_le (of_decide_eq_true (h2 c hc)) (by decide)
    show (reprText s).length ≤ 10 * s.length + 4
    omega
  | .list ds, h => by
    rw [gd] at h
    have h2 := shownAll_le ds h
    have h3 := listText_le (PyData.shownAll ds)
    show (listText (PyData.shownAll ds)).length ≤ 3 + wtAll ds
    omega
  | .tuple ds, h => by
    rw [gd] at h
    have h2 := shownAll_le ds h
    have h3 := fmt_text (PyData.shownAll ds)
    show (tupleText (PyData.shownAll ds)).length ≤ 3 + wtAll ds
    omega
  | .dict _, h => Bool.noConfusion h
theorem shownAll_le : ∀ ds : List PyData, gdAll ds = true → piled (PyData.shownAll ds) ≤ wtAll ds
  | [], _ => Nat.le_refl _
  | d :: ds, h => by
    rw [gdAll, Bool.and_eq_true] at h
    have h1 := shown_le d h.1
    have h2 := shownAll_le ds h.2
    rw [PyData.shownAll, piled_cons, wtAll]
    omega
end
theorem gdAll_get : ∀ {ds : List PyData} {i : Nat} {d : PyData}, gdAll ds = true → ds[i]? = some d → gd d = true ∧ wt d + 2 ≤ wtAll ds ∧ d.depth ≤ PyData.depthAll ds
  | [], _, _, _, e => by simp at e
  | a :: r, 0, d, h, e => by
    rw [gdAll, Bool.and_eq_true] at h
    simp at e
    subst e
    rw [wtAll, PyData.depthAll]
    exact ⟨h.1, by omega, Nat.le_max_left _ _⟩
  | a :: r, i + 1, d, h, e => by
    rw [gdAll, Bool.and_eq_true] at h
    obtain ⟨h1, h2, h3⟩ := gdAll_get (i := i) h.2 (by simpa using e)
    rw [wtAll, PyData.depthAll]
    exact ⟨h1, by omega, Nat.le_trans h3 (Nat.le_max_right _ _)⟩
theorem gdAll_app : ∀ {ds es : List PyData}, gdAll (ds ++ es) = (gdAll ds && gdAll es)
  | [], es => by rw [List.nil_append, gdAll, Bool.true_and]
  | a :: r, es => by rw [List.cons_append, gdAll, gdAll, gdAll_app, Bool.and_assoc]
theorem wtAll_app : ∀ {ds es : List PyData}, wtAll (ds ++ es) = wtAll ds + wtAll es
  | [], es => by rw [List.nil_append, wtAll, Nat.zero_add]
  | a :: r, es => by rw [List.cons_append, wtAll, wtAll, wtAll_app]; omega
theorem depthAll_app : ∀ {ds es : List PyData}, PyData.depthAll (ds ++ es) = max (PyData.depthAll ds) (PyData.depthAll es)
  | [], es => by rw [List.nil_append, PyData.depthAll]; omega
  | a :: r, es => by rw [List.cons_append, PyData.depthAll, PyData.depthAll, depthAll_app]; omega
theorem len_wt : ∀ ds : List PyData, 2 * ds.length ≤ wtAll ds
  | [] => Nat.zero_le _
  | a :: r => by
    have := len_wt r
    rw [wtAll, List.length_cons]
    omega
/-! ### trees -/
def tags6 : List Str := ["a", "b", "ab", "zz", "abcdefgh", "z"]
def tagOk (s : Str) : Prop := 1 ≤ s.length ∧ s.length ≤ 8 ∧ (PyData.strOk s = true ∧ s ∈ tags6)
def TrD : Nat → PyData → Prop
  | 0, _ => False
  | h + 1, d => ∃ (s : Str) (ks : List PyData), d = .tuple [.str s, .tuple ks] ∧ tagOk s ∧ ∀ k ∈ ks, TrD h k
theorem TrD.mono : ∀ {h h' : Nat} {d : PyData}, h ≤ h' → TrD h d → TrD h' d
  | 0, _, _, _, t => t.elim
  | h + 1, 0, _, e, _ => by omega
  | h + 1, h' + 1, d, e, t => by
    obtain ⟨s, ks, rfl, a, b⟩ := t
    exact ⟨s, ks, rfl, a, fun k hk => TrD.mono (by omega) (b k hk)⟩
theorem wt_node (s : Str) (ks : List PyData) : wt (.tuple [.str s, .tuple ks]) = 10 * s.length + 14 + wtAll ks := by
  simp only [wt, wtAll]
  omega
/-! ### the heap: data in F within H, the source of numbers at st -/
structure Gw (F H F' H' : Hp) : Prop where
  ff : Same F F'
  fh : Same F' H'
  hh : Same H H'
  nw : ∀ b, H b ≠ none → F b = none → F' b = none
theorem Gw.refl {F H : Hp} (e : Same F H) : Gw F H F H := ⟨Same.refl _, e, Same.refl _, fun _ _ h => h⟩
theorem Gw.trans {F H F1 H1 F2 H2 : Hp} (a : Gw F H F1 H1) (b : Gw F1 H1 F2 H2) : Gw F H F2 H2 :=
  ⟨a.ff.trans b.ff, b.fh, a.hh.trans b.hh, fun x h1 h2 => b.nw x (fun z => h1 (a.hh.free z)) (a.nw x h1 h2)⟩
theorem Gw.new {F H : Hp} {p : Addr} {o : HO} (e : Same F H) (h : H p = none) : Gw F H (upd F p o) (upd H p o) := by
  refine ⟨same_new (e.free h), fun b u q => ?_, same_new h, fun b h1 h2 => ?_⟩
  · by_cases z : b = p
    · subst z
      rw [upd_same] at q ⊢
      exact q
    · rw [upd_ne z] at q ⊢
      exact e b u q
  · rw [upd_ne (fun z => h1 (by rw [z]; exact h))]
    exact h2
end Tl
set_option Elab.async false
set_option linter.all false
set_option maxRecDepth 100000
set_option maxHeartbeats 4000000
namespace Tl
open PySem PySem.Spec PyProof.Rows L2
/-! An exception that a suite has put into another name, and that is looked at behind the try. -/
/-- the caught thing at a, of the class cls, its dict d -/
def CgO (cls : Value) (d : Option Addr) (a : Addr) : HO := .ext fun h => ∃ (oe : Obj) (vs : Array Value), h.get? a = some oe ∧ Zc cls d oe ∧ oe.data = .fields vs
theorem cg_ok {P : Program} {w : World} {H : Hp} {h : Heap} {a : Addr} {cls : Value} {d : Option Addr} {oe : Obj} {vs : Array Value} (e : h.get? a = some oe) (z : Zc cls d oe) (q : oe.data = .fields vs) : ObjOk P w H h a (CgO cls d a) :=
  ⟨⟨oe, vs, e, z, q⟩, ⟨oe, e⟩, fun _ _ ⟨o, v, p, r⟩ k => ⟨o, v, k o p, r⟩⟩
/-- what was there, and not ours to track, is tracked from now on -/
theorem take_up {X : Cx} {pins : List (Addr × Obj)} {σ : L2.St} {H : Hp} {s : Shared} {a : Addr} {o : HO} {oe : Obj} {vs : Array Value} (J : Inv X pins σ H s) (hn : H a = none) (h0 : X.s_0.heap.get? a = none) (nL : a ≠ X.env.locals)
    (np : ∀ p ∈ X.pn ++ pins, p.1 ≠ a) (ho : s.heap.get? a = some oe) (hd : oe.data = .fields vs) (new : ObjOk X.prog X.w (upd H a o) s.heap a o) : Inv X pins σ (upd H a o) s where
  ok := J.ok
  os := J.os
  bare := J.bare
  base := ⟨J.base.keep, J.base.slot, fun b u q n x => by rw [upd_ne (fun z => by rw [z, h0] at q; cases q)]; exact J.base.free b u q n x, J.base.there,
    fun b xs q => by rw [upd_ne (ne_of_none (J.base.tups b xs q) hn)]; exact J.base.tups b xs q,
    fun b u xs q => by rw [upd_ne (ne_of_none (J.base.frzs b u xs q) hn)]; exact J.base.frzs b u xs q,
    fun b ps q => by
      obtain ⟨m, e⟩ := J.base.tbls b ps q
      exact ⟨m, by rw [upd_ne (ne_of_none e hn)]; exact e⟩⟩
  loc := J.loc
  cell := J.cell
  free := by rw [upd_ne (Ne.symm nL)]; exact J.free
  freeC := fun x c q => by
    obtain ⟨v, hv⟩ := J.cell x c q
    rw [upd_ne]
    · exact J.freeC x c q
    · rintro rfl
      obtain ⟨oc, e1, e2⟩ := hv
      rw [ho] at e1
      cases e1
      simp_all
  pin := fun p hp => by
    obtain ⟨q1, q2, q3⟩ := J.pin p hp
    exact ⟨q1, by rw [upd_ne (np p hp)]; exact q2, q3⟩
  hok := J.hok.laidN (fun _ _ q => q) hn new
  len := J.len
/-- what 'except x as n' wishes of the body, the caught thing looked at behind -/
def wKeep (K : PySem.W.Frag) (c : Value) (i : Nat) (ts : Addr → Value → Option Addr → TS) (Wout : WX) (D : Ends) : WX := fun cls d σ H =>
  ∃ yes, PySem.W.exmOne K cls c = some yes ∧
    (yes = true → ∀ a, H a = none →
      ts a cls d ⟨fun σ' H' => D.nx (σ'.set i none) (upd H' a (CgO cls d a)), D.rt, fun σ' H' => D.bk (σ'.set i none) H', fun σ' H' => D.ct (σ'.set i none) H'⟩ (σ.set i (some (.ref a))) H) ∧
    (yes = false → Wout cls d σ H)
section
variable {X : Cx} {x n : Str} {c : Value} {i : Nat} {bd su : List Stmt} {s0 : Stmt} {np ps pt : Pos} {tb : WX → TS} {ts : Addr → Value → Option Addr → TS} {Wout : WX}
/-- the end of the try where its body has raised -/
theorem keep_catch (hs : X.stack = X.env :: X.outer) (hf : X.env.frame = some X.env.locals) (hex : X.ex = []) (hN : X.N.Nodup) (hi : X.N[i]? = some n) (hln : X.env.kindOf n = some .local) (hc : Names X x c) (tk : Takes X Wout)
    (hsu : ∀ (a : Addr) (oe : Obj) (cls : Value) (d : Option Addr) (pn : List (Addr × Obj)), Zc cls d oe → (∃ vs, oe.data = .fields vs) → PSs (X.suite a ((a, oe) :: pn)) (s0 :: su) (ts a cls d))
    {pins pn' : List (Addr × Obj)} {xe' : Value → Shared → Prop} {D : Ends} {u : Value} {t : Shared} (ok : X.Ok) (xx : XE (X.tr (X.pn ++ pins) xe') (wKeep X.K c i ts Wout D) u t) :
    wpAny (model X.prog X.w) X.A (noteFrame u X.env) (fun _ t2 => wpAny (model X.prog X.w) X.A (setFlight u none) (fun _ t3 =>
      wpAny (model X.prog X.w) X.A (handleBy u X.env [.ExceptHandler (some (.Name x np)) (some n) (s0 :: su) ps]) (SP X pins D) X.xe t3) X.xe t2) X.xe t := by
  obtain ⟨a, B, t0, _, τ, G, cls, d, rfl, J0, nb, up, sky, na, os, ag, yes, hy, hyes, hno⟩ := xx
  have J : Inv X pins τ G t0 := by
    have := J0.ofTry ok
    exact this
  have frames : X.A.frames = some (X.env :: X.outer) := by rw [ok.frames, hs]
  have sky1 : Sky B (X.env :: X.outer) a (Zc cls d) X.env.locals t.heap := hs ▸ sky
  have nB : B.get? a = none := by
    rcases sky1 with q | q | q
    · exact q.2.1
    · exact q.2.1
    · exact q.2.1
  refine Sky.land Zc.steady frames hf sky1 fun hA flA upA => ?_
  have JA : Inv X pins τ G { t with heap := hA } := J.landed nb flA.1 (up.trans upA) os ag
  obtain ⟨oA, vA, gA, zA, dA⟩ := flA.there
  -- no frame, so no object of the state ahead
  have far : a ∉ frs (X.env :: X.outer) := fun m => by
    obtain ⟨_, o2, g2, no⟩ := flA.2.2.1.mem m
    have e2 : oA = o2 := Option.some.inj (gA.symm.trans g2)
    exact no _ (e2 ▸ dA)
  have nL : a ≠ X.env.locals := fun z => far (List.mem_filterMap.mpr ⟨_, List.mem_cons_self, by rw [hf, z]⟩)
  have nF : a ∉ X.fs := fun m => by
    obtain ⟨e, me, qe⟩ := List.mem_filterMap.mp m
    exact far (List.mem_filterMap.mpr ⟨e, .tail _ me, qe⟩)
  have n0 : t0.heap.get? a = none := by
    cases e : t0.heap.get? a with
    | none => rfl
    | some o =>
      have := nb a o e (by show a ∉ frs X.stack; rw [hs]; exact far)
      rw [nB] at this
      cases this
  have ns : X.s_0.heap.get? a = none := by
    cases e : X.s_0.heap.get? a with
    | none => rfl
    | some o =>
      obtain ⟨o', e'⟩ := J.base.there a o e (by rw [hex]; exact List.not_mem_nil)
      rw [n0] at e'
      cases e'
  have npin : ∀ p ∈ X.pn ++ pins, p.1 ≠ a := fun p hp z => by
    have := (J.pin p hp).1
    rw [z, n0] at this
    cases this
  have SA := JA.suite gA dA na nL nF
  refine wpAny_handleBy_cons (codeAny_handlers_test ?_) (fun q => nomatch q)
  have fits := PySem.W.exm_one (M := model X.prog X.w) JA.kIn (fun A Q E r k q => wpAny_typeOf_ref (k _ _ gA) (by rw [zA.1]; exact q)) hy
  have name : ∀ {Q : Value → Shared → Prop} {E : Value → Shared → Prop}, Q c { t with heap := hA } → wpAny (model X.prog X.w) (X.A.mark (some (.ref a))) (eval (.Name x np) X.env) Q E { t with heap := hA } := by
    intro Q E q
    rcases hc with ⟨g, db, m | ⟨m, v, nn⟩⟩
    · exact ld_glob (X := X.suite a ((a, oA) :: (X.pn ++ pins))) SA g m q db
    · exact ld_blt (X := X.suite a ((a, oA) :: (X.pn ++ pins))) SA g m v q nn db
  refine name (fits.here ?_)
  cases yes with
  | false =>
    show wpAny _ X.A (handleBy (.ref a) X.env []) _ _ _
    refine wpAny_handleBy_nil ?_
    obtain ⟨_, _, _, o5, v5, tr, _, _, g5, _, d5, h5, _⟩ := id flA
    unfold PySem.passOn
    refine wpAny_bind (wpAny_field g5 d5 h5 ?_)
    rw [if_neg (by simp)]
    have last : wpAny (model X.prog X.w) X.A (setFlight (.ref a) X.env.frame) (fun _ t4 => wpAny (model X.prog X.w) X.A (throw (.ref a) : Sem Flow) (SP X pins D) X.xe t4) X.xe { t with heap := hA } := by
      rw [hf]
      refine HandSPX.setFlight_upZ flA fun h6 hl6 up6 => wpAny_throw (tk _ _ ⟨a, B, t0, pins, τ, G, cls, d, rfl, J, nb, (up.trans upA).trans up6, ?_, na, os, ag, hno rfl⟩)
      rw [hs]
      exact .inr (.inr hl6)
    first
      | exact wpAny_bind (wpAny_pure (wpAny_bind last))
      | exact wpAny_bind last
  | true =>
    refine codeAny_handlers_suite_as (HandSPX.lands_againZ flA fun hC flC upC => ?_)
    have JC : Inv X pins τ G { t with heap := hC } := J.landed nb flC.1 ((up.trans upA).trans upC) os ag
    obtain ⟨oC, vC, gC, zC, dC⟩ := flC.there
    refine store_ok (X := X.suite a ((a, oC) :: (X.pn ++ pins))) (v := .ref a) (JC.suite gC dC na nL nF) hN hi (.inl hln) rfl (fun t5 S5 => ?_) (.inr hln)
    refine wpAny_mono ((hsu a oC cls d (X.pn ++ pins) zC ⟨_, dC⟩).run [] t5 _ G _ S5 (hyes rfl a na)) (fun f t6 got => ?_) (fun _ _ z => z.elim)
    have plain : ∀ {τ6 : L2.St} {G6 : Hp} {Q : Shared → Prop}, Inv (X.suite a ((a, oC) :: (X.pn ++ pins))) [] τ6 G6 t6 → (∀ t7, Inv X pins (τ6.set i none) G6 t7 → Q t7) →
        wpAny (model X.prog X.w) X.A (do bindName X.env n .none; unbindBehindTheSuite X.env n ps) (fun _ t7 => Q t7) X.xe t6 := fun S q => gone_ok (S.unsuite ok) hN hi hln q
    cases f with
    | next =>
      obtain ⟨τ6, G6, S6, q6⟩ := got
      obtain ⟨p1, p2, _⟩ := S6.pin (a, oC) (List.mem_append_left _ List.mem_cons_self)
      have T6 := take_up (o := CgO cls d a) (S6.unsuite ok) p2 ns nL npin p1 dC (cg_ok p1 zC dC)
      exact gone_ok T6 hN hi hln fun t7 J7 => ⟨_, _, J7, q6⟩
    | brk =>
      obtain ⟨_, _, S6, q6⟩ := got
      exact plain S6 fun _ J7 => ⟨_, _, J7, q6⟩
    | cont =>
      obtain ⟨_, _, S6, q6⟩ := got
      exact plain S6 fun _ J7 => ⟨_, _, J7, q6⟩
    | ret v =>
      obtain ⟨_, _, _, S6, r6, q6⟩ := got
      exact plain S6 fun _ J7 => ⟨_, _, _, J7, r6, q6⟩
/-- try: body / except x as n: suite, the caught thing looked at behind -/
theorem ps_try_keep (hs : X.stack = X.env :: X.outer) (hf : X.env.frame = some X.env.locals) (hex : X.ex = []) (hN : X.N.Nodup) (hi : X.N[i]? = some n) (hln : X.env.kindOf n = some .local) (hc : Names X x c) (tk : Takes X Wout)
    (hb : ∀ (W : WX) (pn : List (Addr × Obj)) (xe : Value → Shared → Prop), Takes (X.tr pn xe) W → PassesOwn (model X.prog X.w) X.A X.env xe → PSs (X.tr pn xe) bd (tb W))
    (hsu : ∀ (a : Addr) (oe : Obj) (cls : Value) (d : Option Addr) (pn : List (Addr × Obj)), Zc cls d oe → (∃ vs, oe.data = .fields vs) → PSs (X.suite a ((a, oe) :: pn)) (s0 :: su) (ts a cls d)) :
    PS X (.Try bd [.ExceptHandler (some (.Name x np)) (some n) (s0 :: su) ps] [] [] pt) (fun D σ H => tb (wKeep X.K c i ts Wout D) D σ H) := by
  refine ⟨fun pins s σ H D I h => wpAny_Try_except ?_⟩
  have ok := I.ok
  refine wpAny_mono ((hb _ (X.pn ++ pins) _ (fun u t xx => keep_catch (pn' := []) hs hf hex hN hi hln hc tk hsu ok xx) PassesOwn.looking).run [] s σ H D (I.toTry _) h) (fun f t got => ?_) (fun _ _ z => z)
  cases f with
  | next =>
    obtain ⟨_, _, S, q⟩ := got
    exact wpAny_execs_nil ⟨_, _, S.ofTry ok, q⟩
  | brk =>
    obtain ⟨_, _, S, q⟩ := got
    exact ⟨_, _, S.ofTry ok, q⟩
  | cont =>
    obtain ⟨_, _, S, q⟩ := got
    exact ⟨_, _, S.ofTry ok, q⟩
  | ret v =>
    obtain ⟨_, _, _, S, r, q⟩ := got
    exact ⟨_, _, _, S.ofTry ok, r, q⟩
end
/-- a dict that is tracked, where there is one -/
def DxO (H : Hp) : Option Addr → Prop
  | none => True
  | some dd => ∃ fs, H dd = some (.xd fs)
section
variable {X : Cx}
/-- X(), an own error without a word -/
theorem pmk_own0 {C : Addr} {bmB : List Value} {B newId initId : String} {x : Str} {p pos : Pos} (F : ExcBaseFacts B newId initId bmB) (q : PySem.W.excIn X.K C bmB newId = true) (gC : X.mg x = some (.ref C)) (kC : PySem.W.keepIn X.K (.ref C) = true) (r : Raises X (.ref C)) (hg : Gl X x)
    (hdb : (x == ("__debug__" : Str)) = false := by decide) : PMk X (.Call (.Name x p) [] [] pos) (fun _ H Q => Q (.ref C) none H) := by
  intro pins s σ H Q I h
  refine wpAny_Call_Name_kw (ld_glob I hg gC ?_ hdb)
  refine PySem.W.callWith_K0 I.kIn kC ?_
  obtain ⟨bm, N, nm, qn, bs, hdct, sn, sub, ab, col, dd, k0, k1, k2, k3, k5, mN, hC, hN, hni, T⟩ := exc_obj I.kIn q
  exact wpAny_call_exc_subT F T hC hN hni (fun h' e hm => mk_of I hm r h (I.hok.gone hm.new)) (Nat.zero_le _)
end
end Tl
set_option Elab.async false
set_option linter.all false
set_option maxRecDepth 100000
set_option maxHeartbeats 4000000
set_option Elab.async false
set_option linter.all false
set_option maxRecDepth 100000
set_option maxHeartbeats 4000000
/-! Dicts whose keys are tuples of numbers, nested: kept as one object; the keys' own objects are told of by others. -/
namespace Tl
open PySem PySem.Spec PyProof.Rows L2
/-! ### keys -/
mutual
/-- numbers, and tuples of such -/
def noTxt : NestedKey → Bool
  | .num _ => true
  | .tup ks => noTxts ks
  | _ => false
def noTxts : List NestedKey → Bool
  | [] => true
  | k :: ks => noTxt k && noTxts ks
end
mutual
theorem hash_any : ∀ (k : NestedKey) (w w' : World), noTxt k = true → k.hash w = k.hash w'
  | .num i, _, _, _ => rfl
  | .tup ks, w, w', h => by rw [NestedKey.hash, NestedKey.hash, hashes_any ks w w' (by simpa [noTxt] using h)]
  | .none, _, _, h => by simp [noTxt] at h
  | .text _, _, _, h => by simp [noTxt] at h
theorem hashes_any : ∀ (ks : List NestedKey) (w w' : World), noTxts ks = true → NestedKey.hashes w ks = NestedKey.hashes w' ks
  | [], _, _, _ => rfl
  | k :: ks, w, w', h => by
    rw [noTxts, Bool.and_eq_true] at h
    rw [NestedKey.hashes, NestedKey.hashes, hash_any k w w' h.1, hashes_any ks w w' h.2]
end
mutual
/-- the value v is the key k -/
inductive KeyV (K : PySem.W.Frag) (H : Hp) : V → NestedKey → Prop
  | int (i : Int) : KeyV K H (.int i) (.num i)
  | tup {a : Addr} {xs : List V} {ks : List NestedKey} (h : SqT K H a xs) (r : KeyVs K H xs ks) : KeyV K H (.ref a) (.tup ks)
inductive KeyVs (K : PySem.W.Frag) (H : Hp) : List V → List NestedKey → Prop
  | nil : KeyVs K H [] []
  | cons {x : V} {k : NestedKey} {xs : List V} {ks : List NestedKey} (h : KeyV K H x k) (r : KeyVs K H xs ks) : KeyVs K H (x :: xs) (k :: ks)
end
section
variable {X : Cx} {pins : List (Addr × Obj)} {σ : L2.St} {H : Hp} {s : Shared}
mutual
theorem KeyV.is (I : Inv X pins σ H s) : ∀ {k : NestedKey} {v : V} {u : Value}, KeyV X.K H v k → RelV v u → NestedIs s.heap k u
  | .num i, v, u, h, r => by
    cases h
    obtain ⟨t, rfl⟩ := r
    exact .int i t
  | .tup ks, v, u, h, r => by
    cases h with
    | tup hs hr =>
      cases r
      obtain ⟨its, rv, ⟨o, h1, h2, n, h3⟩, _⟩ := I.tuple hs
      exact .tup h1 h2 h3 (by simpa using KeyVs.is I hr rv)
  | .none, _, _, h, _ => by cases h
  | .text _, _, _, h, _ => by cases h
theorem KeyVs.is (I : Inv X pins σ H s) : ∀ {ks : List NestedKey} {vs : List V} {us : List Value}, KeyVs X.K H vs ks → Vals vs us → NestedAll s.heap ks us
  | [], _, _, h, r => by cases h; cases r; exact .nil
  | k :: ks, _, _, h, r => by
    cases h with
    | cons a b =>
      cases r with
      | cons ra rb => exact .cons (KeyV.is I a ra) (KeyVs.is I b rb)
end
end
/-! ### the object -/
abbrev DU1 := NestedKey × Addr × V
abbrev DU2 := NestedKey × Addr × Value
def RelU (x : DU1) (y : DU2) : Prop := x.1 = y.1 ∧ x.2.1 = y.2.1 ∧ RelV x.2.2 y.2.2
def entU (w : World) (y : DU2) : DictEntry := ⟨y.1.hash w, .ref y.2.1, y.2.2⟩
def phiU (a : Addr) (xs : List DU1) (h : Heap) : Prop := ∃ (ys : List DU2) (o : Obj) (es : Array DictEntry) (ep : Nat), Paired RelU xs ys ∧ h.get? a = some o ∧ o.ExactDict ∧ o.data = .dict es ep ∧ ∀ w : World, es.toList = ys.map (entU w)
def DU (a : Addr) (xs : List DU1) : HO := .ext (phiU a xs)
theorem phiU_ok {P : Program} {w : World} {H : Hp} {h : Heap} {a : Addr} {xs : List DU1} (p : phiU a xs h) : ObjOk P w H h a (DU a xs) := by
  obtain ⟨ys, o, es, ep, h1, h2, h3, h4, h5⟩ := p
  exact ⟨⟨ys, o, es, ep, h1, h2, h3, h4, h5⟩, ⟨o, h2⟩, fun h1' h2' ⟨ys', o', es', ep', g1, g2, g3, g4, g5⟩ k => ⟨ys', o', es', ep', g1, k _ g2, g3, g4, g5⟩⟩
theorem DU_get {P : Program} {w : World} {H : Hp} {h : Heap} {a : Addr} {xs : List DU1} (x : HOk P w H h) (e : H a = some (DU a xs)) : phiU a xs h := (show ObjOk P w H h a (DU a xs) from x a _ e).1
/-- what else is known of such a dict -/
structure KeysU (K : PySem.W.Frag) (H : Hp) (a : Addr) (xs : List DU1) : Prop where
  sm : (a == sysModules) = false
  sz : xs.length ≤ sizeLine
  nd : (xs.map (·.1)).Nodup
  ks : ∀ x ∈ xs, KeyV K H (.ref x.2.1) x.1 ∧ x.1.depth ≤ 8 ∧ noTxt x.1 = true
theorem Paired.fst {xs : List DU1} {ys : List DU2} (h : Paired RelU xs ys) : xs.map (·.1) = ys.map (·.1) := by
  induction h with
  | nil => rfl
  | cons r t ih => rw [List.map_cons, List.map_cons, ih, r.1]
theorem Paired.memU {xs : List DU1} {ys : List DU2} (h : Paired RelU xs ys) : ∀ y ∈ ys, ∃ x ∈ xs, RelU x y := by
  induction h with
  | nil => intro y hy; cases hy
  | cons r t ih =>
    intro y hy
    rcases List.mem_cons.mp hy with rfl | hy
    · exact ⟨_, .head _, r⟩
    · obtain ⟨x, hx, e⟩ := ih y hy
      exact ⟨x, .tail _ hx, e⟩
def findU {α : Type} (xs : List (NestedKey × Addr × α)) (k : NestedKey) : Option α := (xs.find? fun x => decide (x.1 = k)).map (·.2.2)
def putU {α : Type} (xs : List (NestedKey × Addr × α)) (k : NestedKey) (b : Addr) (v : α) : List (NestedKey × Addr × α) :=
  if (findU xs k).isSome then xs.map (fun x => if x.1 = k then (x.1, x.2.1, v) else x) else xs ++ [(k, b, v)]
theorem Paired.findU {xs : List DU1} {ys : List DU2} (h : Paired RelU xs ys) (k : NestedKey) : RelO (Tl.findU xs k) ((atKey ys k).map (·.2)) := by
  induction h with
  | nil => exact True.intro
  | @cons x y xs ys r t ih =>
    obtain ⟨kx, ax, vx⟩ := x
    obtain ⟨ky, ay, vy⟩ := y
    obtain ⟨r1, r2, r3⟩ := r
    simp only at r1 r2 r3
    subst r1 r2
    unfold Tl.findU atKey at ih ⊢
    by_cases e : kx = k
    · rw [List.find?_cons_of_pos (by simpa using e), List.find?_cons_of_pos (by simpa using e)]
      exact r3
    · rw [List.find?_cons_of_neg (by simpa using e), List.find?_cons_of_neg (by simpa using e)]
      exact ih
theorem Paired.putU {xs : List DU1} {ys : List DU2} (h : Paired RelU xs ys) (k : NestedKey) (b : Addr) {v : V} {u : Value} (r : RelV v u) : Paired RelU (Tl.putU xs k b v) (storedH ys k b u) := by
  have f := Paired.findU h k
  have e : (Tl.findU xs k).isSome = (atKey ys k).isSome := by
    have := f.isSome_eq
    rw [Option.isSome_map] at this
    exact this
  unfold Tl.putU storedH
  rw [e]
  split
  · rename_i hc
    clear f e hc
    induction h with
    | nil => exact .nil
    | @cons x y xs ys r1 t ih =>
      obtain ⟨kx, ax, vx⟩ := x
      obtain ⟨ky, ay, vy⟩ := y
      obtain ⟨r1, r2, r3⟩ := r1
      simp only at r1 r2 r3
      subst r1 r2
      rw [List.map_cons, List.map_cons]
      refine .cons ?_ ih
      unfold putAt
      by_cases e : kx = k
      · rw [if_pos e, if_pos e]
        exact ⟨rfl, rfl, r⟩
      · rw [if_neg e, if_neg e]
        exact ⟨rfl, rfl, r3⟩
  · rename_i hc
    clear f e hc
    induction h with
    | nil => exact .cons ⟨rfl, rfl, r⟩ .nil
    | cons r1 t ih => exact .cons r1 ih
section
variable {X : Cx} {pins : List (Addr × Obj)} {σ : L2.St} {H : Hp} {s : Shared} {a b : Addr} {xs : List DU1} {k : NestedKey} {A : Around} {E : Value → Shared → Prop}
theorem DU_of (I : Inv X pins σ H s) (e : H a = some (DU a xs)) (ku : KeysU X.K H a xs) : ∃ ys, Paired RelU xs ys ∧ s.heap.DictOfH (nestedKind X.prog X.w) a ys ∧ ∀ y ∈ ys, noTxt y.1 = true := by
  obtain ⟨ys, o, es, ep, h1, h2, h3, h4, h5⟩ := DU_get I.hok e
  refine ⟨ys, h1, ⟨o, es, ep, h2, h3, h4, h5 X.w, fun y hy => ?_, by rw [← Paired.fst h1]; exact ku.nd⟩, fun y hy => ?_⟩
  · obtain ⟨x, hx, r1, r2, _⟩ := Paired.memU h1 y hy
    obtain ⟨q1, q2, _⟩ := ku.ks x hx
    rw [← r1, ← r2]
    exact ⟨q1.is I rfl, q2⟩
  · obtain ⟨x, hx, r1, r2, _⟩ := Paired.memU h1 y hy
    rw [← r1]
    exact (ku.ks x hx).2.2
/-- d[k], there -/
theorem u_getItem {v : V} {Q : Value → Shared → Prop} (hu : A.units + 20 < cLine) (I : Inv X pins σ H s) (e : H a = some (DU a xs)) (ku : KeysU X.K H a xs) (hk : KeyV X.K H (.ref b) k) (hd : k.depth ≤ 8) (hf : findU xs k = some v) (h : ∀ w' s', Inv X pins σ H s' → RelV v w' → Q w' s') :
    wpAny (model X.prog X.w) A (getItem (.ref a) (.ref b)) Q E s := by
  obtain ⟨ys, h1, dd, _⟩ := DU_of I e ku
  obtain ⟨w', hw, rw'⟩ := RelO.some_of (v := v) (o := (atKey ys k).map (·.2)) (by rw [← hf]; exact Paired.findU h1 k)
  obtain ⟨p, hp, hp2⟩ := Option.map_eq_some_iff.mp hw
  refine wpAny_getItem_heap (knd := nestedKind X.prog X.w) (k := k) (show A.units + 1 + 8 < cLine by omega) ⟨hk.is I rfl, hd⟩ dd hp ?_
  rw [hp2]
  exact h w' _ (I.tok _) rw'
theorem u_notIn {Q : Value → Shared → Prop} (hu : A.units + 20 < cLine) (I : Inv X pins σ H s) (e : H a = some (DU a xs)) (ku : KeysU X.K H a xs) (hk : KeyV X.K H (.ref b) k) (hd : k.depth ≤ 8) (h : ∀ s', Inv X pins σ H s' → Q (.bool (!(findU xs k).isSome)) s') :
    wpAny (model X.prog X.w) A (compareOp .NotIn (.ref b) (.ref a)) Q E s := by
  obtain ⟨ys, h1, dd, _⟩ := DU_of I e ku
  refine wpAny_notIn_heap (knd := nestedKind X.prog X.w) (k := k) (show A.units + 1 + 8 < cLine by omega) ⟨hk.is I rfl, hd⟩ ku.sm dd ?_
  have q := (Paired.findU h1 k).isSome_eq
  rw [Option.isSome_map] at q
  rw [← q]
  exact h _ (I.tok _)
/-- d[k] = v -/
theorem u_setItem {v : V} {u : Value} {Q : Unit → Shared → Prop} (hu : A.units + 20 < cLine) (I : Inv X pins σ H s) (e : H a = some (DU a xs)) (ku : KeysU X.K H a xs) (hk : KeyV X.K H (.ref b) k) (hd : k.depth ≤ 8) (hn : noTxt k = true) (hz : xs.length < sizeLine) (r : RelV v u) (h : ∀ s', Inv X pins σ (upd H a (DU a (putU xs k b v))) s' → Q () s') :
    wpAny (model X.prog X.w) A (setItem (.ref a) (.ref b) u) Q E s := by
  obtain ⟨ys, h1, dd, hnt⟩ := DU_of I e ku
  have hz2 : ys.length ≤ sizeLine := by rw [← Paired.length h1]; omega
  refine wpAny_setItem_heap (knd := nestedKind X.prog X.w) (k := k) (hsz := hz2) (show A.units + 1 + 8 < cLine by omega) ⟨hk.is I rfl, hd⟩ dd fun h' dd' hs => h _ ?_
  obtain ⟨o, es, ep, g1, g2, g3, g4, g5, g6⟩ := dd'
  refine d_write I (by rw [e]; exact True.intro) hs ⟨o, g1⟩ (phiU_ok ⟨_, o, es, ep, Paired.putU h1 k b r, g1, g2, g3, fun w => ?_⟩)
  rw [g4]
  refine List.map_congr_left fun y hy => ?_
  have hy2 : noTxt y.1 = true := by
    unfold storedH at hy
    split at hy
    · obtain ⟨z, hz, rfl⟩ := List.mem_map.mp hy
      unfold putAt
      split
      · exact hnt z hz
      · exact hnt z hz
    · rcases List.mem_append.mp hy with hy | hy
      · exact hnt y hy
      · rw [List.mem_singleton.mp hy]; exact hn
  unfold entU
  show (⟨y.1.hash X.w, _, _⟩ : DictEntry) = _
  rw [hash_any y.1 X.w w hy2]
theorem du_empty {P : Program} {w : World} {H : Hp} (h : Heap) : ObjOk P w H (h.push { cls := .type "dict", data := .dict #[] }) h.objs.size (DU h.objs.size []) :=
  phiU_ok ⟨[], _, #[], 0, .nil, Heap.get?_push_size _ rfl, ⟨rfl, rfl, rfl⟩, rfl, fun _ => rfl⟩
end
/-! ### keys as data -/
mutual
def keyN : PyData → NestedKey
  | .int i => .num i
  | .tuple ds => .tup (keyNs ds)
  | _ => .none
def keyNs : List PyData → List NestedKey
  | [] => []
  | d :: ds => keyN d :: keyNs ds
end
mutual
/-- numbers, and tuples of such -/
def keyOk : PyData → Bool
  | .int _ => true
  | .tuple ds => keyOks ds
  | _ => false
def keyOks : List PyData → Bool
  | [] => true
  | d :: ds => keyOk d && keyOks ds
end
mutual
theorem keyN_inj : ∀ (a b : PyData), keyOk a = true → keyOk b = true → keyN a = keyN b → a = b
  | .int i, b, _, hb, e => by
    cases b with
    | int j => simp only [keyN, NestedKey.num.injEq] at e; rw [e]
    | tuple ds => simp [keyN] at e
    | _ => simp [keyOk] at hb
  | .tuple ds, b, ha, hb, e => by
    cases b with
    | int j => simp [keyN] at e
    | tuple es =>
      simp only [keyN, NestedKey.tup.injEq] at e
      rw [keyOk] at ha hb
      rw [keyNs_inj ds es ha hb e]
    | _ => simp [keyOk] at hb
  | .none, _, ha, _, _ => by simp [keyOk] at ha
  | .bool _, _, ha, _, _ => by simp [keyOk] at ha
  | .str _, _, ha, _, _ => by simp [keyOk] at ha
  | .list _, _, ha, _, _ => by simp [keyOk] at ha
  | .dict _, _, ha, _, _ => by simp [keyOk] at ha
theorem keyNs_inj : ∀ (a b : List PyData), keyOks a = true → keyOks b = true → keyNs a = keyNs b → a = b
  | [], [], _, _, _ => rfl
  | [], _ :: _, _, _, e => by simp [keyNs] at e
  | _ :: _, [], _, _, e => by simp [keyNs] at e
  | a :: as, b :: bs, ha, hb, e => by
    rw [keyOks, Bool.and_eq_true] at ha hb
    simp only [keyNs, List.cons.injEq] at e
    rw [keyN_inj a b ha.1 hb.1 e.1, keyNs_inj as bs ha.2 hb.2 e.2]
end
mutual
theorem keyN_noTxt : ∀ (d : PyData), keyOk d = true → noTxt (keyN d) = true
  | .int i, _ => by rw [keyN, noTxt]
  | .tuple ds, h => by rw [keyN, noTxt]; rw [keyOk] at h; exact keyNs_noTxt ds h
  | .none, h => by simp [keyOk] at h
  | .bool _, h => by simp [keyOk] at h
  | .str _, h => by simp [keyOk] at h
  | .list _, h => by simp [keyOk] at h
  | .dict _, h => by simp [keyOk] at h
theorem keyNs_noTxt : ∀ (ds : List PyData), keyOks ds = true → noTxts (keyNs ds) = true
  | [], _ => by rw [keyNs, noTxts]
  | d :: ds, h => by
    rw [keyOks, Bool.and_eq_true] at h
    rw [keyNs, noTxts, keyN_noTxt d h.1, keyNs_noTxt ds h.2]
    rfl
end
mutual
theorem keyN_depth : ∀ (d : PyData), (keyN d).depth ≤ d.depth
  | .int i => by rw [keyN, NestedKey.depth]; exact Nat.zero_le _
  | .tuple ds => by
    rw [keyN, NestedKey.depth, PyData.depth]
    have := keyNs_depth ds
    omega
  | .none => by rw [keyN, NestedKey.depth]; exact Nat.zero_le _; all_goals simp
  | .bool _ => by rw [keyN, NestedKey.depth]; exact Nat.zero_le _; all_goals simp
  | .str _ => by rw [keyN, NestedKey.depth]; exact Nat.zero_le _; all_goals simp
  | .list _ => by rw [keyN, NestedKey.depth]; exact Nat.zero_le _; all_goals simp
  | .dict _ => by rw [keyN, NestedKey.depth]; exact Nat.zero_le _; all_goals simp
theorem keyNs_depth : ∀ (ds : List PyData), NestedKey.depthAll (keyNs ds) ≤ PyData.depthAll ds
  | [] => by rw [keyNs, NestedKey.depthAll]; exact Nat.zero_le _
  | d :: ds => by
    have h1 := keyN_depth d
    have h2 := keyNs_depth ds
    rw [keyNs, NestedKey.depthAll, PyData.depthAll]
    omega
end
end Tl
set_option Elab.async false
set_option linter.all false
set_option maxRecDepth 100000
set_option maxHeartbeats 4000000
/-! A second layer over the hand layer: values are data or named objects; a memory M tells the objects that may change, all else is data for good. -/
namespace Tl
open PySem L2
mutual
/-- data at v, as F knows it; the empty dict may stand anywhere -/
inductive Dx (K : PySem.W.Frag) (F : Hp) : V → PyData → Prop
  | non : Dx K F .non .none
  | bl (b : Bool) : Dx K F (.bl b) (.bool b)
  | int (i : Int) : Dx K F (.int i) (.int i)
  | str (x : Str) : Dx K F (.str x) (.str x)
  | lst {a : Addr} {xs : List V} {ds : List PyData} : F a = some (.lst xs) → DxL K F xs ds → Dx K F (.ref a) (.list ds)
  | tup {a : Addr} {xs : List V} {ds : List PyData} : SqT K F a xs → DxL K F xs ds → Dx K F (.ref a) (.tuple ds)
  | dic {a : Addr} : F a = some (.dK []) → Dx K F (.ref a) (.dict [])
inductive DxL (K : PySem.W.Frag) (F : Hp) : List V → List PyData → Prop
  | nil : DxL K F [] []
  | cons {v : V} {vs : List V} {d : PyData} {ds : List PyData} : Dx K F v d → DxL K F vs ds → DxL K F (v :: vs) (d :: ds)
end
/-- one of two, by a truth -/
inductive IfB (c : Bool) (A B : Prop) : Prop where
  | t (h : c = true) (q : A) : IfB c A B
  | f (h : c = false) (q : B) : IfB c A B
theorem IfB.ite {c : Bool} {A B : Prop} (h : IfB c A B) : if c = true then A else B := by
  cases h with
  | t h q => rw [if_pos h]; exact q
  | f h q => rw [h, if_neg Bool.false_ne_true]; exact q
theorem IfB.of {c : Bool} {A B : Prop} (h1 : c = true → A) (h2 : c = false → B) : IfB c A B := by
  cases c with
  | true => exact .t rfl (h1 rfl)
  | false => exact .f rfl (h2 rfl)
theorem IfB.d {p A B : Prop} [Decidable p] (h1 : p → A) (h2 : ¬ p → B) : IfB (decide p) A B := IfB.of (fun h => h1 (of_decide_eq_true h)) fun h => h2 (of_decide_eq_false h)
theorem IfB.n {p A B : Prop} [Decidable p] (h1 : ¬ p → B) (h2 : p → A) : IfB (decide p) A B := IfB.d h2 h1
theorem IfB.not {c : Bool} {A B : Prop} (h : IfB c B A) : IfB (!c) A B := by
  cases h with
  | t h q => exact .f (by rw [h]; rfl) q
  | f h q => exact .t (by rw [h]; rfl) q
def ng : Bool → Bool → Bool
  | true, b => !b
  | false, b => b
theorem IfB.ngt {c : Bool} {A B : Prop} (h : IfB c B A) : IfB (ng true c) A B := h.not
theorem IfB.ngf {c : Bool} {A B : Prop} (h : IfB c A B) : IfB (ng false c) A B := h
theorem IfB.yes {p A B : Prop} [Decidable p] (h : p) (q : A) : IfB (decide p) A B := .t (decide_eq_true h) q
theorem IfB.no {p A B : Prop} [Decidable p] (h : ¬ p) (q : B) : IfB (decide p) A B := .f (decide_eq_false h) q
/-- a value -/
inductive W where
  | d (x : PyData)
  | r (a : Addr)
  | o (v : V)
  /-- a caught error: where it stands, its class, its dict, its fields -/
  | x (a C : Addr) (dd : Option Addr) (fs : List (Str × PyData))
/-- an object that may change -/
inductive MO where
  | lst (ws : List W)
  | src (b : Bool)
  | dK (kvs : List (Key × W))
  /-- a dict keyed by numbers in tuples -/
  | dT (kvs : List (PyData × W))
  | ins (C dx : Addr) (fs : List (Str × W))
  | exc (C : Addr) (dd : Option Addr)
  /-- a dict while it is walked -/
  | lkK (ob : Obj) (kv : List (Key × V)) (kvs : List (Key × W))
  /-- the table of a def's own code: what it tells bears the name q -/
  | tab (q : Str)
  /-- a dict keyed by numbers in tuples, while it is walked -/
  | lkT (ob : Obj) (xs : List DU1) (kvs : List (PyData × W))
  /-- a lambda that captures nothing -/
  | lam (q : Str) (params : Arguments) (body : Expr) (scope : Scope)
abbrev Mem := Addr → Option MO
abbrev EnvD := List (Option W)
def mset (M : Mem) (a : Addr) (o : MO) : Mem := fun b => if b = a then some o else M b
def mdel (M : Mem) (a : Addr) : Mem := fun b => if b = a then none else M b
theorem mset_same {M : Mem} {a : Addr} {o : MO} : mset M a o a = some o := if_pos rfl
theorem mset_ne {M : Mem} {a b : Addr} {o : MO} (h : b ≠ a) : mset M a o b = M b := if_neg h
theorem mdel_same {M : Mem} {a : Addr} : mdel M a a = none := if_pos rfl
theorem mdel_ne {M : Mem} {a b : Addr} (h : b ≠ a) : mdel M a b = M b := if_neg h
theorem mset_mset {M : Mem} {a : Addr} {o u : MO} : mset (mset M a o) a u = mset M a u := by
  funext b
  by_cases h : b = a
  · rw [h, mset_same, mset_same]
  · rw [mset_ne h, mset_ne h, mset_ne h]
theorem mdel_mset {M : Mem} {a : Addr} {o : MO} : mdel (mset M a o) a = mdel M a := by
  funext b
  by_cases h : b = a
  · rw [h, mdel_same, mdel_same]
  · rw [mdel_ne h, mdel_ne h, mset_ne h]
theorem mdel_none {M : Mem} {a : Addr} (h : M a = none) : mdel M a = M := by
  funext b; unfold mdel; split
  · rename_i e; rw [e, h]
  · rfl
theorem mset_id {M : Mem} {a : Addr} {o : MO} (h : M a = some o) : mset M a o = M := by
  funext b; unfold mset; split
  · rename_i e; rw [e, h]
  · rfl
mutual
theorem Dx.mono {K : PySem.W.Frag} {H H' : Hp} (e : Same H H') : ∀ (d : PyData) (v : V), Dx K H v d → Dx K H' v d
  | .none, _, h => by cases h; exact .non
  | .bool b, _, h => by cases h; exact .bl b
  | .int i, _, h => by cases h; exact .int i
  | .str x, _, h => by cases h; exact .str x
  | .list ds, _, h => by
    cases h with
    | lst hs ha => exact .lst (e _ _ hs) (DxL.mono e ds _ ha)
  | .tuple ds, _, h => by
    cases h with
    | tup hs ha => exact .tup (same_t e hs) (DxL.mono e ds _ ha)
  | .dict _, _, h => by cases h with | dic h => exact .dic (e _ _ h)
theorem DxL.mono {K : PySem.W.Frag} {H H' : Hp} (e : Same H H') : ∀ (ds : List PyData) (vs : List V), DxL K H vs ds → DxL K H' vs ds
  | [], _, h => by cases h; exact .nil
  | d :: ds, _, h => by
    cases h with
    | cons h1 h2 => exact .cons (Dx.mono e d _ h1) (DxL.mono e ds _ h2)
end
mutual
/-- no list within -/
def noL : PyData → Bool
  | .list _ => false
  | .tuple ds => noLs ds
  | _ => true
def noLs : List PyData → Bool
  | [] => true
  | d :: ds => noL d && noLs ds
end
mutual
theorem Dx.of {K : PySem.W.Frag} {H : Hp} : ∀ (d : PyData) (v : V), Dp K H v d → noL d = true → Dx K H v d
  | .none, _, h, _ => by cases h; exact .non
  | .bool b, _, h, _ => by cases h; exact .bl b
  | .int i, _, h, _ => by cases h; exact .int i
  | .str x, _, h, _ => by cases h; exact .str x
  | .list ds, _, h, n => by rw [noL] at n; cases n
  | .tuple ds, _, h, n => by
    cases h with
    | tup hs ha => exact .tup hs (DxL.of ds _ ha (by rw [noL] at n; exact n))
  | .dict _, _, h, _ => by cases h
theorem DxL.of {K : PySem.W.Frag} {H : Hp} : ∀ (ds : List PyData) (vs : List V), DpAll K H vs ds → noLs ds = true → DxL K H vs ds
  | [], _, h, _ => by cases h; exact .nil
  | d :: ds, _, h, n => by
    rw [noLs, Bool.and_eq_true] at n
    cases h with
    | cons h1 h2 => exact .cons (Dx.of d _ h1 n.1) (DxL.of ds _ h2 n.2)
end
mutual
theorem Dx.dp {K : PySem.W.Frag} {H : Hp} : ∀ (d : PyData) (v : V), Dx K H v d → d.hasDict = false → Dp K H v d
  | .none, _, h, _ => by cases h; exact .non
  | .bool b, _, h, _ => by cases h; exact .bl b
  | .int i, _, h, _ => by cases h; exact .int i
  | .str x, _, h, _ => by cases h; exact .str x
  | .list ds, _, h, n => by
    cases h with
    | lst hs ha => exact .lst (SqL.of hs) (DxL.dp ds _ ha (by rw [PyData.hasDict] at n; exact n))
  | .tuple ds, _, h, n => by
    cases h with
    | tup hs ha => exact .tup hs (DxL.dp ds _ ha (by rw [PyData.hasDict] at n; exact n))
  | .dict _, _, h, n => by rw [PyData.hasDict] at n; cases n
theorem DxL.dp {K : PySem.W.Frag} {H : Hp} : ∀ (ds : List PyData) (vs : List V), DxL K H vs ds → PyData.hasDictAll ds = false → DpAll K H vs ds
  | [], _, h, _ => by cases h; exact .nil
  | d :: ds, _, h, n => by
    rw [PyData.hasDictAll, Bool.or_eq_false_iff] at n
    cases h with
    | cons h1 h2 => exact .cons (Dx.dp d _ h1 n.1) (DxL.dp ds _ h2 n.2)
end
theorem DxL.len {K : PySem.W.Frag} {H : Hp} : ∀ {vs : List V} {ds : List PyData}, DxL K H vs ds → vs.length = ds.length
  | _, _, .nil => rfl
  | _, _, .cons _ h => by rw [List.length_cons, List.length_cons, DxL.len h]
theorem DxL.got {K : PySem.W.Frag} {H : Hp} : ∀ {vs : List V} {ds : List PyData} {i : Nat} {d : PyData}, DxL K H vs ds → ds[i]? = some d → ∃ v, vs[i]? = some v ∧ Dx K H v d
  | _, _, _, _, .nil, e => by simp at e
  | _, _, 0, _, .cons h _, e => by simp at e; subst e; exact ⟨_, rfl, h⟩
  | _, _, i + 1, d, .cons _ h, e => by
    obtain ⟨v, h1, h2⟩ := DxL.got (i := i) (d := d) h (by simpa using e)
    exact ⟨v, by simpa using h1, h2⟩
theorem DxL.get {K : PySem.W.Frag} {H : Hp} : ∀ {vs : List V} {ds : List PyData} {i : Nat} {v : V}, DxL K H vs ds → vs[i]? = some v → ∃ d, ds[i]? = some d ∧ Dx K H v d
  | _, _, _, _, .nil, e => by simp at e
  | _, _, 0, _, .cons h _, e => by simp at e; subst e; exact ⟨_, rfl, h⟩
  | _, _, i + 1, v, .cons _ h, e => by
    obtain ⟨d, h1, h2⟩ := DxL.get (i := i) (v := v) h (by simpa using e)
    exact ⟨d, by simpa using h1, h2⟩
theorem DxL.app {K : PySem.W.Frag} {H : Hp} : ∀ {vs ws : List V} {ds es : List PyData}, DxL K H vs ds → DxL K H ws es → DxL K H (vs ++ ws) (ds ++ es)
  | _, _, _, _, .nil, h => h
  | _, _, _, _, .cons a b, h => .cons a (DxL.app b h)
theorem DxL.take {K : PySem.W.Frag} {H : Hp} : ∀ {vs : List V} {ds : List PyData} (n : Nat), DxL K H vs ds → DxL K H (vs.take n) (ds.take n)
  | _, _, 0, _ => .nil
  | _, _, _ + 1, .nil => .nil
  | _, _, n + 1, .cons a b => .cons a (DxL.take n b)
theorem DxL.drop {K : PySem.W.Frag} {H : Hp} : ∀ {vs : List V} {ds : List PyData} (n : Nat), DxL K H vs ds → DxL K H (vs.drop n) (ds.drop n)
  | _, _, 0, h => h
  | _, _, _ + 1, .nil => .nil
  | _, _, n + 1, .cons a b => DxL.drop n b
theorem DxL.rev {K : PySem.W.Frag} {H : Hp} : ∀ {vs : List V} {ds : List PyData}, DxL K H vs ds → DxL K H vs.reverse ds.reverse
  | _, _, .nil => .nil
  | _, _, .cons a b => by rw [List.reverse_cons, List.reverse_cons]; exact DxL.app (DxL.rev b) (.cons a .nil)
theorem DxL.rep {K : PySem.W.Frag} {H : Hp} {vs : List V} {ds : List PyData} (h : DxL K H vs ds) : ∀ n : Nat, DxL K H (List.replicate n vs).flatten (List.replicate n ds).flatten
  | 0 => .nil
  | n + 1 => by
    rw [List.replicate_succ, List.replicate_succ, List.flatten_cons, List.flatten_cons]
    exact DxL.app h (DxL.rep h n)
/-- an error's fields stand in its dict -/
def FX (K : PySem.W.Frag) (F : Hp) (d : Option Addr) (fs : List (Str × PyData)) : Prop := match d with
  | none => fs = []
  | some dd => ∃ fv, F dd = some (.xd fv) ∧ fv.map (·.1) = fs.map (·.1) ∧ DxL K F (fv.map (·.2)) (fs.map (·.2))
theorem FX.mono {K : PySem.W.Frag} {F F' : Hp} (e : Same F F') {d : Option Addr} {fs : List (Str × PyData)} (h : FX K F d fs) : FX K F' d fs := by
  cases d with
  | none => exact h
  | some dd =>
    obtain ⟨fv, h1, h2, h3⟩ := h
    exact ⟨fv, e _ _ h1, h2, DxL.mono e _ _ h3⟩
/-- v is the value x -/
inductive RW (K : PySem.W.Frag) (F : Hp) : V → W → Prop
  | d {v : V} {x : PyData} : Dx K F v x → RW K F v (.d x)
  | r (a : Addr) : RW K F (.ref a) (.r a)
  | o (v : V) : RW K F v (.o v)
  | x {a C : Addr} {dd : Option Addr} {fs : List (Str × PyData)} : FX K F dd fs → RW K F (.ref a) (.x a C dd fs)
inductive RWs (K : PySem.W.Frag) (F : Hp) : List V → List W → Prop
  | nil : RWs K F [] []
  | cons {v : V} {vs : List V} {x : W} {xs : List W} : RW K F v x → RWs K F vs xs → RWs K F (v :: vs) (x :: xs)
section
variable {K : PySem.W.Frag} {F F' H H' : Hp}
theorem RW.mono (e : Same F F') {v : V} {x : W} (h : RW K F v x) : RW K F' v x := by
  cases h with
  | d h => exact .d (Dx.mono e _ _ h)
  | r a => exact .r a
  | o v => exact .o v
  | x h => exact .x (h.mono e)
theorem RWs.mono (e : Same F F') : ∀ {vs : List V} {xs : List W}, RWs K F vs xs → RWs K F' vs xs
  | _, _, .nil => .nil
  | _, _, .cons h t => .cons (h.mono e) (t.mono e)
theorem RWs.len : ∀ {vs : List V} {xs : List W}, RWs K F vs xs → vs.length = xs.length
  | _, _, .nil => rfl
  | _, _, .cons _ t => by rw [List.length_cons, List.length_cons, t.len]
theorem RWs.got : ∀ {vs : List V} {xs : List W} {i : Nat} {x : W}, RWs K F vs xs → xs[i]? = some x → ∃ v, vs[i]? = some v ∧ RW K F v x
  | _, _, _, _, .nil, e => by simp at e
  | _, _, 0, _, .cons h _, e => by simp at e; subst e; exact ⟨_, rfl, h⟩
  | _, _, i + 1, x, .cons _ h, e => by
    obtain ⟨v, h1, h2⟩ := RWs.got (i := i) (x := x) h (by simpa using e)
    exact ⟨v, by simpa using h1, h2⟩
theorem RWs.get : ∀ {vs : List V} {xs : List W} {i : Nat} {v : V}, RWs K F vs xs → vs[i]? = some v → ∃ x, xs[i]? = some x ∧ RW K F v x
  | _, _, _, _, .nil, e => by simp at e
  | _, _, 0, _, .cons h _, e => by simp at e; subst e; exact ⟨_, rfl, h⟩
  | _, _, i + 1, v, .cons _ h, e => by
    obtain ⟨x, h1, h2⟩ := RWs.get (i := i) (v := v) h (by simpa using e)
    exact ⟨x, by simpa using h1, h2⟩
theorem RWs.app : ∀ {vs ws : List V} {xs ys : List W}, RWs K F vs xs → RWs K F ws ys → RWs K F (vs ++ ws) (xs ++ ys)
  | _, _, _, _, .nil, h => h
  | _, _, _, _, .cons a b, h => .cons a (RWs.app b h)
theorem RWs.take : ∀ {vs : List V} {xs : List W} (n : Nat), RWs K F vs xs → RWs K F (vs.take n) (xs.take n)
  | _, _, 0, _ => .nil
  | _, _, _ + 1, .nil => .nil
  | _, _, n + 1, .cons a b => .cons a (RWs.take n b)
theorem RWs.drop : ∀ {vs : List V} {xs : List W} (n : Nat), RWs K F vs xs → RWs K F (vs.drop n) (xs.drop n)
  | _, _, 0, h => h
  | _, _, _ + 1, .nil => .nil
  | _, _, n + 1, .cons a b => RWs.drop n b
theorem RWs.rev : ∀ {vs : List V} {xs : List W}, RWs K F vs xs → RWs K F vs.reverse xs.reverse
  | _, _, .nil => .nil
  | _, _, .cons a b => by rw [List.reverse_cons, List.reverse_cons]; exact RWs.app (RWs.rev b) (.cons a .nil)
theorem RWs.set {v : V} {x : W} (h : RW K F v x) : ∀ {vs : List V} {xs : List W} (n : Nat), RWs K F vs xs → RWs K F (vs.set n v) (xs.set n x)
  | _, _, _, .nil => .nil
  | _, _, 0, .cons _ t => .cons h t
  | _, _, n + 1, .cons a t => .cons a (RWs.set h n t)
theorem RWs.dat : ∀ {vs : List V} {ds : List PyData}, DxL K F vs ds → RWs K F vs (ds.map W.d)
  | _, _, .nil => .nil
  | _, _, .cons a b => .cons (.d a) (RWs.dat b)
theorem RWs.undat : ∀ {ds : List PyData} {vs : List V}, RWs K F vs (ds.map W.d) → DxL K F vs ds
  | [], _, h => by cases h; exact .nil
  | d :: ds, _, h => by
    cases h with
    | cons a b =>
      cases a with
      | d a => exact .cons a (RWs.undat b)
end
/-- the law's own source of numbers: its cells, three numbers -/
def SrcV (K : PySem.W.Frag) (F : Hp) (b : Bool) (vs : List V) : Prop := ∃ (c : Addr) (cs : List Int) (i p z : Int), vs = [.ref c, .int i, .int p, .int z] ∧ SqL K F c (cs.map V.int) ∧ cs.length ≤ 63 ∧ (b = true → 0 < cs.length) ∧ 0 ≤ i ∧ 0 ≤ p ∧ 0 ≤ z ∧ z < (if b = true then 2147483647 else 2305843009213693951)
theorem SrcV.mono {K : PySem.W.Frag} {F F' : Hp} (e : Same F F') {b : Bool} {vs : List V} (h : SrcV K F b vs) : SrcV K F' b vs := by
  obtain ⟨c, cs, i, p, z, h1, h2, h3⟩ := h
  exact ⟨c, cs, i, p, z, h1, same_l e h2, h3⟩
def PrR {κ : Type} (K : PySem.W.Frag) (F : Hp) (kv : List (κ × V)) (kw : List (κ × W)) : Prop := kv.map (·.1) = kw.map (·.1) ∧ RWs K F (kv.map (·.2)) (kw.map (·.2))
theorem PrR.mono {κ : Type} {K : PySem.W.Frag} {F F' : Hp} (e : Same F F') {kv : List (κ × V)} {kw : List (κ × W)} (h : PrR K F kv kw) : PrR K F' kv kw := ⟨h.1, h.2.mono e⟩
mutual
theorem KeyV.mono {K : PySem.W.Frag} {F F' : Hp} (e : Same F F') : ∀ (k : NestedKey) (v : V), KeyV K F v k → KeyV K F' v k
  | .num i, _, h => by cases h; exact .int i
  | .tup ks, _, h => by
    cases h with
    | tup hs hr => exact .tup (same_t e hs) (KeyVs.mono e ks _ hr)
  | .none, _, h => by cases h
  | .text _, _, h => by cases h
theorem KeyVs.mono {K : PySem.W.Frag} {F F' : Hp} (e : Same F F') : ∀ (ks : List NestedKey) (vs : List V), KeyVs K F vs ks → KeyVs K F' vs ks
  | [], _, h => by cases h; exact .nil
  | k :: ks, _, h => by
    cases h with
    | cons a b => exact .cons (KeyV.mono e k _ a) (KeyVs.mono e ks _ b)
end
theorem KeysU.mono {K : PySem.W.Frag} {F F' : Hp} (e : Same F F') {a : Addr} {xs : List DU1} (h : KeysU K F a xs) : KeysU K F' a xs :=
  ⟨h.sm, h.sz, h.nd, fun x hx => ⟨KeyV.mono e _ _ (h.ks x hx).1, (h.ks x hx).2⟩⟩
mutual
theorem keyV_of {K : PySem.W.Frag} {F : Hp} : ∀ (d : PyData) (v : V), Dx K F v d → keyOk d = true → KeyV K F v (keyN d)
  | .int i, _, h, _ => by cases h; rw [keyN]; exact .int i
  | .tuple ds, _, h, k => by
    cases h with
    | tup hs hr => rw [keyN]; exact .tup hs (keyVs_of ds _ hr (by rw [keyOk] at k; exact k))
  | .none, _, _, h => by simp [keyOk] at h
  | .bool _, _, _, h => by simp [keyOk] at h
  | .str _, _, _, h => by simp [keyOk] at h
  | .list _, _, _, h => by simp [keyOk] at h
  | .dict _, _, _, h => by simp [keyOk] at h
theorem keyVs_of {K : PySem.W.Frag} {F : Hp} : ∀ (ds : List PyData) (vs : List V), DxL K F vs ds → keyOks ds = true → KeyVs K F vs (keyNs ds)
  | [], _, h, _ => by cases h; rw [keyNs]; exact .nil
  | d :: ds, _, h, k => by
    cases h with
    | cons a b =>
      rw [keyOks, Bool.and_eq_true] at k
      rw [keyNs]
      exact .cons (keyV_of d _ a k.1) (keyVs_of ds _ b k.2)
end
/-- a table of a def's code: each code object in it is data, of the name q -/
def TabO (F : Hp) (u : HO) (q : Str) : Prop := ∃ ps : Array Value, u = .tbl ps ∧ TriplesOk ps.toList ∧
  ∀ (z : Pos) (x : Value), codeAmong z ps.toList = some x → ∃ b, x = .ref b ∧ F b = some (LamX.CodeO b q)
theorem TabO.mono {F F' : Hp} (e : Same F F') {u : HO} {q : Str} (h : TabO F u q) : TabO F' u q := by
  obtain ⟨ps, h1, h2, h3⟩ := h
  refine ⟨ps, h1, h2, fun z x hx => ?_⟩
  obtain ⟨b, e1, e2⟩ := h3 z x hx
  exact ⟨b, e1, e _ _ e2⟩
/-- what stands there is the object o -/
def OR (K : PySem.W.Frag) (F : Hp) (a : Addr) (u : HO) : MO → Prop
  | .lst ws => ∃ vs, u = .lst vs ∧ RWs K F vs ws
  | .src b => ∃ vs, u = .lst vs ∧ SrcV K F b vs
  | .dK kw => ∃ kv, u = .dK kv ∧ PrR K F kv kw
  | .dT kw => ∃ xs : List DU1, u = DU a xs ∧ KeysU K F a xs ∧ xs.map (·.1) = kw.map (fun x => keyN x.1) ∧ (∀ x ∈ kw, keyOk x.1 = true) ∧ RWs K F (xs.map (·.2.2)) (kw.map (·.2))
  | .ins C dx fw => ∃ fv, u = .ins C dx fv ∧ PrR K F fv fw
  | .exc C dd => u = CgO (.ref C) dd a
  | .lkK ob kv kw => u = .frz ob (.dK kv) ∧ PrR K F kv kw
  | .tab q => TabO F u q
  | .lkT ob xs kw => u = .frz ob (DU a xs) ∧ KeysU K F a xs ∧ xs.map (·.1) = kw.map (fun x => keyN x.1) ∧ (∀ x ∈ kw, keyOk x.1 = true) ∧ RWs K F (xs.map (·.2.2)) (kw.map (·.2))
  | .lam q pa bo sc => ∃ (pm : Value) (b : Addr) (ctv : Value), u = .frz (PySem.W.kla_obj "<lambda>" q pa bo sc [] pm b ctv) (.ext fun _ => True) ∧ F b = some (LamX.CodeO b q)
theorem OR.mono {K : PySem.W.Frag} {F F' : Hp} (e : Same F F') {a : Addr} {u : HO} {o : MO} (h : OR K F a u o) : OR K F' a u o := by
  cases o with
  | lst ws =>
    obtain ⟨vs, h1, h2⟩ := h
    exact ⟨vs, h1, h2.mono e⟩
  | src b =>
    obtain ⟨vs, h1, h2⟩ := h
    exact ⟨vs, h1, h2.mono e⟩
  | dK kw =>
    obtain ⟨vs, h1, h2⟩ := h
    exact ⟨vs, h1, h2.mono e⟩
  | dT kw =>
    obtain ⟨vs, h1, h2, h3, h4, h5⟩ := h
    exact ⟨vs, h1, h2.mono e, h3, h4, h5.mono e⟩
  | ins C dx fw =>
    obtain ⟨vs, h1, h2⟩ := h
    exact ⟨vs, h1, h2.mono e⟩
  | exc C dd => exact h
  | lkK ob kv kw => exact ⟨h.1, h.2.mono e⟩
  | tab q => exact TabO.mono e h
  | lkT ob xs kw =>
    obtain ⟨h1, h2, h3, h4, h5⟩ := h
    exact ⟨h1, h2.mono e, h3, h4, h5.mono e⟩
  | lam q pa bo sc =>
    obtain ⟨pm, b, ctv, h1, h2⟩ := h
    exact ⟨pm, b, ctv, h1, e _ _ h2⟩
/-- F: what is data for good; M: what may change; H: what stands there -/
structure Rl (K : PySem.W.Frag) (F H : Hp) (M : Mem) : Prop where
  fh : Same F H
  mf : ∀ a o, M a = some o → F a = none
  at_ : ∀ a o, M a = some o → ∃ u, H a = some u ∧ OR K F a u o
/-- from one state to a later one: what is neither data nor told by M stays as it is -/
structure Gr (F H : Hp) (M : Mem) (F' H' : Hp) (M' : Mem) : Prop where
  ff : Same F F'
  un : ∀ b u, H b = some u → M b = none → H' b = some u ∧ M' b = none
  nf : ∀ b u, H b = some u → M b = none → F b = none → F' b = none
theorem Gr.refl {F H : Hp} {M : Mem} : Gr F H M F H M := ⟨Same.refl _, fun _ _ h n => ⟨h, n⟩, fun _ _ _ _ h => h⟩
theorem Gr.trans {F H F1 H1 F2 H2 : Hp} {M M1 M2 : Mem} (a : Gr F H M F1 H1 M1) (b : Gr F1 H1 M1 F2 H2 M2) : Gr F H M F2 H2 M2 :=
  ⟨a.ff.trans b.ff, fun c u h n => b.un c u (a.un c u h n).1 (a.un c u h n).2, fun c u h n f => b.nf c u (a.un c u h n).1 (a.un c u h n).2 (a.nf c u h n f)⟩
section
variable {K : PySem.W.Frag} {F H : Hp} {M : Mem}
theorem Rl.there (h : Rl K F H M) {a : Addr} {o : MO} (e : M a = some o) : ∃ u, H a = some u := by
  obtain ⟨u, h1, _⟩ := h.at_ a o e
  exact ⟨u, h1⟩
theorem Rl.new (h : Rl K F H M) {p : Addr} (e : H p = none) : M p = none := by
  cases c : M p with
  | none => rfl
  | some o =>
    obtain ⟨u, h1, _⟩ := h.at_ p o c
    rw [e] at h1
    cases h1
theorem Rl.step (h : Rl K F H M) {F' H' : Hp} (ff : Same F F') (fh : Same F' H') (hm : ∀ a o, M a = some o → H' a = H a ∧ F' a = none) : Rl K F' H' M :=
  ⟨fh, fun a o e => (hm a o e).2, fun a o e => by
    obtain ⟨u, h1, h2⟩ := h.at_ a o e
    exact ⟨u, by rw [(hm a o e).1]; exact h1, h2.mono ff⟩⟩
/-- the heap grows by what nobody tells of -/
theorem Rl.same (h : Rl K F H M) {H' : Hp} (e : Same H H') : Rl K F H' M ∧ Gr F H M F H' M := by
  refine ⟨h.step (Same.refl _) (h.fh.trans e) fun a o c => ?_, Same.refl _, fun b u c n => ⟨e b u c, n⟩, fun _ _ _ _ f => f⟩
  obtain ⟨u, hu⟩ := h.there c
  exact ⟨by rw [hu]; exact e a u hu, h.mf a o c⟩
/-- a new thing that stays as it is -/
theorem Rl.fresh (h : Rl K F H M) {p : Addr} {u : HO} (e : H p = none) : Rl K (upd F p u) (upd H p u) M ∧ Gr F H M (upd F p u) (upd H p u) M := by
  have g := Gw.new (o := u) h.fh e
  refine ⟨h.step g.ff g.fh fun a o c => ?_, g.ff, fun b v c n => ⟨g.hh b v c, n⟩, fun b v c n f => ?_⟩
  · obtain ⟨v, hv⟩ := h.there c
    have n : a ≠ p := ne_of_none hv e
    exact ⟨upd_ne n, by rw [upd_ne n]; exact h.mf a o c⟩
  · rw [upd_ne (ne_of_none c e)]
    exact f
/-- a new object that may change -/
theorem Rl.born (h : Rl K F H M) {p : Addr} {u : HO} {o : MO} (e : H p = none) (r : OR K F p u o) : Rl K F (upd H p u) (mset M p o) ∧ Gr F H M F (upd H p u) (mset M p o) := by
  have fp := h.fh.free e
  refine ⟨⟨same_mut h.fh fp, fun a o' c => ?_, fun a o' c => ?_⟩, Same.refl _, fun b v c n => ?_, fun _ _ _ _ f => f⟩
  · by_cases z : a = p
    · rw [z]; exact fp
    · rw [mset_ne z] at c; exact h.mf a o' c
  · by_cases z : a = p
    · subst z
      rw [mset_same] at c
      cases c
      exact ⟨u, upd_same, r⟩
    · rw [mset_ne z] at c
      rw [upd_ne z]
      exact h.at_ a o' c
  · have z : b ≠ p := ne_of_none c e
    rw [upd_ne z, mset_ne z]
    exact ⟨c, n⟩
/-- an object changes -/
theorem Rl.put (h : Rl K F H M) {p : Addr} {u : HO} {o o' : MO} (e : M p = some o') (r : OR K F p u o) : Rl K F (upd H p u) (mset M p o) ∧ Gr F H M F (upd H p u) (mset M p o) := by
  have fp := h.mf p o' e
  refine ⟨⟨same_mut h.fh fp, fun a o' c => ?_, fun a o' c => ?_⟩, Same.refl _, fun b v c n => ?_, fun _ _ _ _ f => f⟩
  · by_cases z : a = p
    · rw [z]; exact fp
    · rw [mset_ne z] at c; exact h.mf a o' c
  · by_cases z : a = p
    · subst z
      rw [mset_same] at c
      cases c
      exact ⟨u, upd_same, r⟩
    · rw [mset_ne z] at c
      rw [upd_ne z]
      exact h.at_ a o' c
  · have z : b ≠ p := fun z => by rw [z, e] at n; cases n
    rw [upd_ne z, mset_ne z]
    exact ⟨c, n⟩
/-- a list of data is data from now on -/
theorem Rl.freeze (h : Rl K F H M) {p : Addr} {ds : List PyData} (e : M p = some (.lst (ds.map W.d))) : ∃ F', Rl K F' H (mdel M p) ∧ Gr F H M F' H (mdel M p) ∧ Dx K F' (.ref p) (.list ds) := by
  obtain ⟨_, h1, vs, rfl, h2⟩ := h.at_ p _ e
  have fp := h.mf p _ e
  have ff : Same F (upd F p (.lst vs)) := same_new fp
  have r : DxL K F vs ds := RWs.undat h2
  refine ⟨upd F p (.lst vs), ⟨fun b u q => ?_, fun a o c => ?_, fun a o c => ?_⟩, ⟨ff, fun b v c n => ⟨c, ?_⟩, fun b v c n f => ?_⟩, .lst upd_same (DxL.mono ff _ _ r)⟩
  · by_cases z : b = p
    · subst z
      rw [upd_same] at q
      rw [h1]
      exact q
    · rw [upd_ne z] at q
      exact h.fh b u q
  · have z : a ≠ p := fun z => by rw [z, mdel_same] at c; cases c
    rw [mdel_ne z] at c
    rw [upd_ne z]
    exact h.mf a o c
  · have z : a ≠ p := fun z => by rw [z, mdel_same] at c; cases c
    rw [mdel_ne z] at c
    obtain ⟨u, g1, g2⟩ := h.at_ a o c
    exact ⟨u, g1, g2.mono ff⟩
  · by_cases z : b = p
    · rw [z]; exact mdel_same
    · rw [mdel_ne z]; exact n
  · have z : b ≠ p := fun z => by rw [z, e] at n; cases n
    rw [upd_ne z]
    exact f
/-- an object that is not looked at any more -/
theorem Rl.drop (h : Rl K F H M) (p : Addr) : Rl K F H (mdel M p) ∧ Gr F H M F H (mdel M p) := by
  refine ⟨⟨h.fh, fun a o c => ?_, fun a o c => ?_⟩, Same.refl _, fun b v c n => ⟨c, ?_⟩, fun b v c n f => f⟩
  · have z : a ≠ p := fun z => by rw [z, mdel_same] at c; cases c
    rw [mdel_ne z] at c
    exact h.mf a o c
  · have z : a ≠ p := fun z => by rw [z, mdel_same] at c; cases c
    rw [mdel_ne z] at c
    exact h.at_ a o c
  · by_cases z : b = p
    · rw [z]; exact mdel_same
    · rw [mdel_ne z]; exact n
/-- the heap of a thing nobody tells of changes (an object made in between, not told by M, not data) -/
theorem Rl.hid (h : Rl K F H M) {p : Addr} {u : HO} (hf : F p = none) (hm : M p = none) : Rl K F (upd H p u) M :=
  h.step (Same.refl _) (same_mut h.fh hf) fun a o c => ⟨upd_ne (fun z => by rw [z, hm] at c; cases c), h.mf a o c⟩
end
/-! ### slots -/
@[reducible] def slot : EnvD → Nat → Option W
  | [], _ => none
  | x :: _, 0 => x
  | _ :: r, n + 1 => slot r n
@[reducible] def put : EnvD → Nat → Option W → EnvD
  | [], _, _ => []
  | _ :: r, 0, w => w :: r
  | x :: r, n + 1, w => x :: put r n w
theorem put_len : ∀ (ρ : EnvD) (i : Nat) (w : Option W), (put ρ i w).length = ρ.length
  | [], _, _ => rfl
  | _ :: r, 0, _ => rfl
  | _ :: r, n + 1, w => congrArg (· + 1) (put_len r n w)
theorem slot_put : ∀ {ρ : EnvD} {i : Nat} {w : Option W} {x : W}, slot (put ρ i w) i = some x → w = some x ∧ i < ρ.length
  | [], _, _, _, h => by cases h
  | _ :: r, 0, _, _, h => ⟨h, Nat.succ_pos _⟩
  | _ :: r, n + 1, w, x, h => by
    obtain ⟨h1, h2⟩ := slot_put (ρ := r) (i := n) h
    exact ⟨h1, Nat.succ_lt_succ h2⟩
theorem slot_put_ne : ∀ {ρ : EnvD} {i j : Nat} {w : Option W}, j ≠ i → slot (put ρ i w) j = slot ρ j
  | [], _, _, _, _ => rfl
  | _ :: r, 0, 0, _, h => absurd rfl h
  | _ :: r, 0, j + 1, _, _ => rfl
  | _ :: r, n + 1, 0, w, h => rfl
  | _ :: r, n + 1, j + 1, w, h => slot_put_ne (ρ := r) fun z => h (by rw [z])
structure RelS (K : PySem.W.Frag) (F : Hp) (σ : L2.St) (ρ : EnvD) : Prop where
  len : σ.length = ρ.length
  at_ : ∀ i x, slot ρ i = some x → ∃ v, σ[i]? = some (some v) ∧ RW K F v x
section
variable {K : PySem.W.Frag} {F F' : Hp} {σ : L2.St} {ρ : EnvD}
theorem RelS.mono (e : Same F F') (h : RelS K F σ ρ) : RelS K F' σ ρ := ⟨h.len, fun i x c => by
  obtain ⟨v, h1, h2⟩ := h.at_ i x c
  exact ⟨v, h1, h2.mono e⟩⟩
theorem RelS.set (h : RelS K F σ ρ) {v : V} {x : W} (r : RW K F v x) (i : Nat) : RelS K F (σ.set i (some v)) (put ρ i (some x)) := by
  refine ⟨by rw [List.length_set, put_len]; exact h.len, fun j y c => ?_⟩
  by_cases z : j = i
  · subst z
    obtain ⟨h1, h2⟩ := slot_put c
    cases h1
    exact ⟨v, by rw [List.getElem?_set_self (by rw [h.len]; exact h2)], r⟩
  · rw [slot_put_ne z] at c
    rw [List.getElem?_set_ne (fun q => z q.symm)]
    exact h.at_ j y c
theorem RelS.del (h : RelS K F σ ρ) (i : Nat) (w : Option V) : RelS K F (σ.set i w) (put ρ i none) := by
  refine ⟨by rw [List.length_set, put_len]; exact h.len, fun j y c => ?_⟩
  by_cases z : j = i
  · subst z
    obtain ⟨h1, h2⟩ := slot_put c
    cases h1
  · rw [slot_put_ne z] at c
    rw [List.getElem?_set_ne (fun q => z q.symm)]
    exact h.at_ j y c
end
end Tl
set_option Elab.async false
set_option linter.all false
set_option maxRecDepth 100000
set_option maxHeartbeats 4000000
/-! Readings at the second layer, and that they hold. -/
namespace Tl
open PySem L2
abbrev TDE := EnvD → Mem → (W → Mem → Prop) → Prop
abbrev TDA := EnvD → Mem → (List W → Mem → Prop) → Prop
abbrev TDT := EnvD → Mem → (Bool → Mem → Prop) → Prop
/-- a thing that is raised: its class, its fields -/
structure Ex where
  cls : Value
  fs : List (Str × PyData)
abbrev REx := Ex → EnvD → Mem → Prop
def XRel (K : PySem.W.Frag) (F : Hp) (cls : Value) (d : Option Addr) (x : Ex) : Prop := cls = x.cls ∧ FX K F d x.fs
def XOk (K : PySem.W.Frag) (F H : Hp) (M : Mem) (Wx : WX) (RE : REx) : Prop :=
  ∀ F' H' M' σ ρ cls d x, Gr F H M F' H' M' → Rl K F' H' M' → RelS K F' σ ρ → XRel K F' cls d x → RE x ρ M' → Wx cls d σ H'
theorem XOk.mono {K : PySem.W.Frag} {F H F' H' : Hp} {M M' : Mem} {Wx : WX} {RE : REx} (x : XOk K F H M Wx RE) (g : Gr F H M F' H' M') : XOk K F' H' M' Wx RE :=
  fun F2 H2 M2 σ ρ cls d e g2 => x F2 H2 M2 σ ρ cls d e (g.trans g2)
/-- what is wanted of a value, there as here -/
abbrev Kt (K : PySem.W.Frag) (F H : Hp) (M : Mem) (R : W → Mem → Prop) (Q : VK) : Prop := ∀ v H' F' M' x, Rl K F' H' M' → Gr F H M F' H' M' → RW K F' v x → R x M' → Q v H'
def SE (K : PySem.W.Frag) (Wx : WX) (RE : REx) (t : TE) (T : TDE) : Prop :=
  ∀ F H M σ ρ R Q, Rl K F H M → XOk K F H M Wx RE → RelS K F σ ρ → T ρ M R → Kt K F H M R Q → t σ H Q
def ST (K : PySem.W.Frag) (Wx : WX) (RE : REx) (t : TT) (T : TDT) : Prop :=
  ∀ F H M σ ρ (R : Bool → Mem → Prop) (Q : Bool → Hp → Prop), Rl K F H M → XOk K F H M Wx RE → RelS K F σ ρ → T ρ M R → (∀ b H' F' M', Rl K F' H' M' → Gr F H M F' H' M' → R b M' → Q b H') → t σ H Q
def SA (K : PySem.W.Frag) (Wx : WX) (RE : REx) (t : TA) (T : TDA) : Prop :=
  ∀ F H M σ ρ (R : List W → Mem → Prop) (Q : List V → Hp → Prop), Rl K F H M → XOk K F H M Wx RE → RelS K F σ ρ → T ρ M R → (∀ vs H' F' M' xs, Rl K F' H' M' → Gr F H M F' H' M' → RWs K F' vs xs → R xs M' → Q vs H') → t σ H Q
abbrev F2 := W → W → Mem → (W → Mem → Prop) → Prop
abbrev FL := List W → Mem → (W → Mem → Prop) → Prop
def SO (K : PySem.W.Frag) (r : R2) (f : F2) : Prop := ∀ F H M v u x y R Q, Rl K F H M → RW K F v x → RW K F u y → f x y M R → Kt K F H M R Q → r v u H Q
def SU (K : PySem.W.Frag) (r : V → Hp → VK → Prop) (f : W → Mem → (W → Mem → Prop) → Prop) : Prop := ∀ F H M v x R Q, Rl K F H M → RW K F v x → f x M R → Kt K F H M R Q → r v H Q
def SC (K : PySem.W.Frag) (r : List V → Hp → VK → Prop) (f : FL) : Prop := ∀ F H M vs xs R Q, Rl K F H M → RWs K F vs xs → f xs M R → Kt K F H M R Q → r vs H Q
inductive gO {α : Type} (o : Option α) (k : α → Prop) : Prop where
  | mk (a : α) (h : o = some a) (q : k a) : gO o k
theorem gO_of {α : Type} {o : Option α} {k : α → Prop} (h : gO o k) : ∃ a, o = some a ∧ k a := by
  cases h with
  | mk a h q => exact ⟨a, h, q⟩
theorem gO_i {α : Type} {o : Option α} {a : α} {k : α → Prop} (h : o = some a) (q : k a) : gO o k := .mk a h q
/-! ### what a value is -/
@[reducible] def gI (x : W) (k : Int → Prop) : Prop := match x with | .d (.int a) => k a | _ => False
@[reducible] def gS (x : W) (k : Str → Prop) : Prop := match x with | .d (.str a) => k a | _ => False
@[reducible] def gB (x : W) (k : Bool → Prop) : Prop := match x with | .d (.bool a) => k a | _ => False
@[reducible] def gT (x : W) (k : List PyData → Prop) : Prop := match x with | .d (.tuple a) => k a | _ => False
@[reducible] def gL (x : W) (k : List PyData → Prop) : Prop := match x with | .d (.list a) => k a | _ => False
@[reducible] def gD (x : W) (k : PyData → Prop) : Prop := match x with | .d a => k a | _ => False
@[reducible] def gR (x : W) (k : Addr → Prop) : Prop := match x with | .r a => k a | _ => False
theorem gI_of {x : W} {k : Int → Prop} (h : gI x k) : ∃ a, x = .d (.int a) ∧ k a := by
  unfold gI at h
  split at h
  · exact ⟨_, rfl, h⟩
  · exact h.elim
theorem gS_of {x : W} {k : Str → Prop} (h : gS x k) : ∃ a, x = .d (.str a) ∧ k a := by
  unfold gS at h
  split at h
  · exact ⟨_, rfl, h⟩
  · exact h.elim
theorem gB_of {x : W} {k : Bool → Prop} (h : gB x k) : ∃ a, x = .d (.bool a) ∧ k a := by
  unfold gB at h
  split at h
  · exact ⟨_, rfl, h⟩
  · exact h.elim
theorem gT_of {x : W} {k : List PyData → Prop} (h : gT x k) : ∃ a, x = .d (.tuple a) ∧ k a := by
  unfold gT at h
  split at h
  · exact ⟨_, rfl, h⟩
  · exact h.elim
theorem gL_of {x : W} {k : List PyData → Prop} (h : gL x k) : ∃ a, x = .d (.list a) ∧ k a := by
  unfold gL at h
  split at h
  · exact ⟨_, rfl, h⟩
  · exact h.elim
theorem gD_of {x : W} {k : PyData → Prop} (h : gD x k) : ∃ a, x = .d a ∧ k a := by
  unfold gD at h
  split at h
  · exact ⟨_, rfl, h⟩
  · exact h.elim
theorem gR_of {x : W} {k : Addr → Prop} (h : gR x k) : ∃ a, x = .r a ∧ k a := by
  unfold gR at h
  split at h
  · exact ⟨_, rfl, h⟩
  · exact h.elim
section
variable {K : PySem.W.Frag} {F H : Hp} {M : Mem} {v : V}
theorem RW.int {a : Int} (h : RW K F v (.d (.int a))) : v = .int a := by cases h with | d h => cases h; rfl
theorem RW.str {a : Str} (h : RW K F v (.d (.str a))) : v = .str a := by cases h with | d h => cases h; rfl
theorem RW.bl {a : Bool} (h : RW K F v (.d (.bool a))) : v = .bl a := by cases h with | d h => cases h; rfl
theorem RW.non (h : RW K F v (.d .none)) : v = .non := by cases h with | d h => cases h; rfl
theorem RW.dx {x : PyData} (h : RW K F v (.d x)) : Dx K F v x := by cases h with | d h => exact h
theorem RW.ref {a : Addr} (h : RW K F v (.r a)) : v = .ref a := by cases h; rfl
theorem RW.tup {ds : List PyData} (h : RW K F v (.d (.tuple ds))) : ∃ a xs, v = .ref a ∧ SqT K F a xs ∧ DxL K F xs ds := by
  cases h with
  | d h => cases h with | tup h1 h2 => exact ⟨_, _, rfl, h1, h2⟩
theorem RW.lst {ds : List PyData} (h : RW K F v (.d (.list ds))) : ∃ a xs, v = .ref a ∧ F a = some (.lst xs) ∧ DxL K F xs ds := by
  cases h with
  | d h => cases h with | lst h1 h2 => exact ⟨_, _, rfl, h1, h2⟩
theorem Rl.lst (h : Rl K F H M) {a : Addr} {ws : List W} (e : M a = some (.lst ws)) : ∃ vs, H a = some (.lst vs) ∧ RWs K F vs ws := by
  obtain ⟨_, h1, vs, rfl, h2⟩ := h.at_ a _ e
  exact ⟨vs, h1, h2⟩
/-- a new tuple of data -/
theorem Rl.tup (h : Rl K F H M) {p : Addr} {xs : List V} {ds : List PyData} (e : H p = none) (r : DxL K F xs ds) : Rl K (upd F p (.tup xs)) (upd H p (.tup xs)) M ∧ Gr F H M (upd F p (.tup xs)) (upd H p (.tup xs)) M ∧ RW K (upd F p (.tup xs)) (.ref p) (.d (.tuple ds)) := by
  obtain ⟨h1, h2⟩ := h.fresh (u := .tup xs) e
  exact ⟨h1, h2, .d (.tup (.inl (.inl upd_same)) (DxL.mono h2.ff _ _ r))⟩
theorem Rl.list (h : Rl K F H M) {p : Addr} {xs : List V} {ds : List PyData} (e : H p = none) (r : DxL K F xs ds) : Rl K (upd F p (.lst xs)) (upd H p (.lst xs)) M ∧ Gr F H M (upd F p (.lst xs)) (upd H p (.lst xs)) M ∧ RW K (upd F p (.lst xs)) (.ref p) (.d (.list ds)) := by
  obtain ⟨h1, h2⟩ := h.fresh (u := .lst xs) e
  exact ⟨h1, h2, .d (.lst upd_same (DxL.mono h2.ff _ _ r))⟩
end
section
variable {K : PySem.W.Frag} {Wx : WX} {RE : REx}
/-! ### names, constants -/
@[reducible] def nmT (i : Nat) : TDE := fun ρ M R => match slot ρ i with | some x => R x M | none => False
@[reducible] def cT (x : W) : TDE := fun _ M R => R x M
theorem se_nm {i : Nat} : SE K Wx RE (tVar i) (nmT i) := fun F H M σ ρ R Q hr hx hs ht k => by
  unfold nmT at ht
  cases c : slot ρ i with
  | none => rw [c] at ht; exact ht.elim
  | some x =>
    rw [c] at ht
    obtain ⟨v, h1, h2⟩ := hs.at_ i x c
    exact ⟨v, h1, k v H F M x hr .refl h2 ht⟩
theorem se_int {i : Int} : SE K Wx RE (tC (.int i)) (cT (.d (.int i))) := fun F H M σ ρ R Q hr hx hs ht k => k _ H F M _ hr .refl (.d (.int i)) ht
theorem se_str {i : Str} : SE K Wx RE (tC (.str i)) (cT (.d (.str i))) := fun F H M σ ρ R Q hr hx hs ht k => k _ H F M _ hr .refl (.d (.str i)) ht
theorem se_bl {i : Bool} : SE K Wx RE (tC (.bl i)) (cT (.d (.bool i))) := fun F H M σ ρ R Q hr hx hs ht k => k _ H F M _ hr .refl (.d (.bl i)) ht
theorem se_non : SE K Wx RE (tC .non) (cT (.d .none)) := fun F H M σ ρ R Q hr hx hs ht k => k _ H F M _ hr .refl (.d .non) ht
theorem se_o {v : V} : SE K Wx RE (tC v) (cT (.o v)) := fun F H M σ ρ R Q hr hx hs ht k => k _ H F M _ hr .refl (.o v) ht
/-! ### operators -/
@[reducible] def opT (f : F2) (Ta Tb : TDE) : TDE := fun ρ M R => Ta ρ M fun x M1 => Tb ρ M1 fun y M2 => f x y M2 R
@[reducible] def unT (f : W → Mem → (W → Mem → Prop) → Prop) (Ta : TDE) : TDE := fun ρ M R => Ta ρ M fun x M1 => f x M1 R
theorem se_op {r : R2} {f : F2} {ta tb : TE} {Ta Tb : TDE} (ho : SO K r f) (ha : SE K Wx RE ta Ta) (hb : SE K Wx RE tb Tb) : SE K Wx RE (tOp r ta tb) (opT f Ta Tb) := fun F H M σ ρ R Q hr hx hs ht k =>
  ha F H M σ ρ _ _ hr hx hs ht fun v H1 F1 M1 x r1 g1 rx ht1 => hb F1 H1 M1 σ ρ _ _ r1 (hx.mono g1) (hs.mono g1.ff) ht1 fun u H2 F2 M2 y r2 g2 ry ht2 =>
    ho F2 H2 M2 v u x y R Q r2 (rx.mono g2.ff) ry ht2 fun w H3 F3 M3 z r3 g3 rz hz => k w H3 F3 M3 z r3 ((g1.trans g2).trans g3) rz hz
theorem se_un {r : V → Hp → VK → Prop} {f : W → Mem → (W → Mem → Prop) → Prop} {ta : TE} {Ta : TDE} (ho : SU K r f) (ha : SE K Wx RE ta Ta) : SE K Wx RE (tUn r ta) (unT f Ta) := fun F H M σ ρ R Q hr hx hs ht k =>
  ha F H M σ ρ _ _ hr hx hs ht fun v H1 F1 M1 x r1 g1 rx ht1 => ho F1 H1 M1 v x R Q r1 rx ht1 fun w H3 F3 M3 z r3 g3 rz hz => k w H3 F3 M3 z r3 (g1.trans g3) rz hz
@[reducible] def fI (g : Int → Int → PyData) : F2 := fun x y M R => gI x fun a => gI y fun b => R (.d (g a b)) M
@[reducible] def fIc (C : Int → Int → Prop) (g : Int → Int → PyData) : F2 := fun x y M R => gI x fun a => gI y fun b => C a b ∧ R (.d (g a b)) M
theorem so_I {gv : Int → Int → V} {g : Int → Int → PyData} (h : ∀ F i j, Dx K F (gv i j) (g i j)) : SO K (rI0 gv) (fI g) := fun F H M v u x y R Q hr rx ry hf k => by
  obtain ⟨a, rfl, hf1⟩ := gI_of hf
  obtain ⟨b, rfl, hf2⟩ := gI_of hf1
  exact ⟨a, b, rx.int, ry.int, k _ H F M _ hr .refl (.d (h F a b)) hf2⟩
theorem so_Ic {C : Int → Int → Prop} {gv : Int → Int → V} {g : Int → Int → PyData} (h : ∀ F i j, Dx K F (gv i j) (g i j)) : SO K (rI C gv) (fIc C g) := fun F H M v u x y R Q hr rx ry hf k => by
  obtain ⟨a, rfl, hf1⟩ := gI_of hf
  obtain ⟨b, rfl, hc, hf2⟩ := gI_of hf1
  exact ⟨a, b, rx.int, ry.int, hc, k _ H F M _ hr .refl (.d (h F a b)) hf2⟩
@[reducible] def fAdd : F2 := fI fun a b => .int (a + b)
@[reducible] def fSub : F2 := fI fun a b => .int (a - b)
@[reducible] def fPow : F2 := fIc CPow fun a b => .int (a ^ b.toNat)
@[reducible] def fLt : F2 := fI fun a b => .bool (decide (a < b))
@[reducible] def fLe : F2 := fI fun a b => .bool (decide (a ≤ b))
@[reducible] def fGt : F2 := fI fun a b => .bool (decide (b < a))
@[reducible] def fGe : F2 := fI fun a b => .bool (decide (b ≤ a))
theorem so_add : SO K (rI0 fun i j => .int (i + j)) fAdd := so_I fun _ _ _ => .int _
theorem so_sub : SO K (rI0 fun i j => .int (i - j)) fSub := so_I fun _ _ _ => .int _
theorem so_pow : SO K (rI CPow fun i j => .int (i ^ j.toNat)) fPow := so_Ic fun _ _ _ => .int _
theorem so_lt : SO K (rI0 fun i j => .bl (decide (i < j))) fLt := so_I fun _ _ _ => .bl _
theorem so_le : SO K (rI0 fun i j => .bl (decide (i ≤ j))) fLe := so_I fun _ _ _ => .bl _
theorem so_gt : SO K (rI0 fun i j => .bl (decide (j < i))) fGt := so_I fun _ _ _ => .bl _
theorem so_ge : SO K (rI0 fun i j => .bl (decide (j ≤ i))) fGe := so_I fun _ _ _ => .bl _
@[reducible] def fNeg : W → Mem → (W → Mem → Prop) → Prop := fun x M R => gI x fun a => R (.d (.int (-a))) M
theorem su_neg : SU K (rU fun i => .int (-i)) fNeg := fun F H M v x R Q hr rx hf k => by
  obtain ⟨a, rfl, hf⟩ := gI_of hf
  exact ⟨a, rx.int, k _ H F M _ hr .refl (.d (.int _)) hf⟩
/-- texts -/
@[reducible] def fS (g : Str → Str → PyData) : F2 := fun x y M R => gS x fun a => gS y fun b => R (.d (g a b)) M
@[reducible] def fLeS : F2 := fS fun i j => .bool (!decide (j.cps.toList < i.cps.toList))
theorem so_leS : SO K (fun x y H Q => ∃ i j, x = V.str i ∧ y = V.str j ∧ Q (.bl (!decide (j.cps.toList < i.cps.toList))) H) fLeS := fun F H M v u x y R Q hr rx ry hf k => by
  obtain ⟨a, rfl, hf1⟩ := gS_of hf
  obtain ⟨b, rfl, hf2⟩ := gS_of hf1
  exact ⟨a, b, rx.str, ry.str, k _ H F M _ hr .refl (.d (.bl _)) hf2⟩
/-- one sign in a text -/
@[reducible] def gC (x : W) (k : Nat → Prop) : Prop := gS x fun a => ∃ c, a = ⟨#[c]⟩ ∧ k c
/-! ### is None -/
@[reducible] def isN : W → Option Bool
  | .d .none => some true
  | .d _ => some false
  | .r _ => some false
  | .o _ => none
  | .x _ _ _ _ => some false
@[reducible] def fIsN (neg : Bool) : F2 := fun x y M R => y = .d .none ∧ gO (isN x) fun b => R (.d (.bool (ng neg b))) M
theorem isN_of {F : Hp} {v : V} {x : W} {b : Bool} (r : RW K F v x) (h : isN x = some b) : decide (v = .non) = b := by
  cases r with
  | d r => cases r <;> (cases h; simp)
  | r a => cases h; simp
  | o v => cases h
  | x _ => cases h; simp
theorem so_isN : SO K (fun x y H Q => y = V.non ∧ Q (.bl (decide (x = .non))) H) (fIsN false) := fun F H M v u x y R Q hr rx ry hf k => by
  obtain ⟨rfl, hf⟩ := hf
  obtain ⟨b, c, hf⟩ := gO_of hf
  refine ⟨ry.non, ?_⟩
  rw [isN_of rx c]
  exact k _ H F M _ hr .refl (.d (.bl _)) hf
theorem so_notN : SO K (fun x y H Q => y = V.non ∧ Q (.bl (!decide (x = .non))) H) (fIsN true) := fun F H M v u x y R Q hr rx ry hf k => by
  obtain ⟨rfl, hf⟩ := hf
  obtain ⟨b, c, hf⟩ := gO_of hf
  refine ⟨ry.non, ?_⟩
  rw [isN_of rx c]
  exact k _ H F M _ hr .refl (.d (.bl _)) hf
/-! ### == -/
/-- a list of data that may change, or data, as data -/
@[reducible] def asD (M : Mem) (x : W) (k : PyData → Prop) : Prop := match x with
  | .d a => k a
  | .r a => ∃ ds, M a = some (.lst (ds.map W.d)) ∧ k (.list ds)
  | _ => False
theorem asD_of {F H : Hp} {M : Mem} {v : V} {x : W} {k : PyData → Prop} (hr : Rl K F H M) (r : RW K F v x) (h : asD M x k) : ∃ a F', Same F F' ∧ Same F' H ∧ Dx K F' v a ∧ k a := by
  cases x with
  | d a => exact ⟨a, F, Same.refl _, hr.fh, r.dx, h⟩
  | r a =>
    obtain ⟨ds, h1, h2⟩ := h
    obtain ⟨F', r', g', d'⟩ := hr.freeze h1
    rw [r.ref]
    exact ⟨_, F', g'.ff, r'.fh, d', h2⟩
  | o v => exact h.elim
  | x a C dd fs => exact h.elim
def eqOk (d : PyData) : Bool := !d.hasDict && SeqAt.shaped d
theorem eqOk_of {d : PyData} (h : eqOk d = true) : d.hasDict = false ∧ SeqAt.shaped d = true := by
  unfold eqOk at h
  rw [Bool.and_eq_true] at h
  exact ⟨by simpa using h.1, h.2⟩
@[reducible] def fEqD (neg : Bool) : F2 := fun x y M R => asD M x fun a => asD M y fun b => (eqOk a = true ∧ eqOk b = true) ∧ R (.d (.bool (ng neg (PyData.eqv a b)))) M
theorem so_eqD : SO K (rEqD K) (fEqD false) := fun F H M v u x y R Q hr rx ry hf k => by
  obtain ⟨a, F1, e1, f1, da, hf⟩ := asD_of hr rx hf
  obtain ⟨b, F2, e2, f2, db, ⟨ha, hb⟩, hf⟩ := asD_of hr ry hf
  exact ⟨a, b, Dx.dp _ _ (Dx.mono f1 _ _ da) (eqOk_of ha).1, Dx.dp _ _ (Dx.mono f2 _ _ db) (eqOk_of hb).1, (eqOk_of ha).2, (eqOk_of hb).2, k _ H F M _ hr .refl (.d (.bl _)) hf⟩
theorem so_neD : SO K (rNeD K) (fEqD true) := fun F H M v u x y R Q hr rx ry hf k => by
  obtain ⟨a, F1, e1, f1, da, hf⟩ := asD_of hr rx hf
  obtain ⟨b, F2, e2, f2, db, ⟨ha, hb⟩, hf⟩ := asD_of hr ry hf
  exact ⟨a, b, Dx.dp _ _ (Dx.mono f1 _ _ da) (eqOk_of ha).1, Dx.dp _ _ (Dx.mono f2 _ _ db) (eqOk_of hb).1, (eqOk_of ha).2, (eqOk_of hb).2, k _ H F M _ hr .refl (.d (.bl _)) hf⟩
/-- plain values: numbers, texts, truths, None -/
@[reducible] def eqS : PyData → PyData → Option Bool
  | .int a, .int b => some (decide (a = b))
  | .str a, .str b => some (decide (a = b))
  | .bool a, .bool b => some (decide (a = b))
  | .none, .none => some true
  | .none, .int _ => some false
  | .none, .str _ => some false
  | .none, .bool _ => some false
  | .int _, .none => some false
  | .str _, .none => some false
  | .bool _, .none => some false
  | .int _, .str _ => some false
  | .str _, .int _ => some false
  | .bool _, .str _ => some false
  | .str _, .bool _ => some false
  | _, _ => none
@[reducible] def fEqS (neg : Bool) : F2 := fun x y M R => gD x fun a => gD y fun b => gO (eqS a b) fun c => R (.d (.bool (ng neg c))) M
theorem eqS_of {F : Hp} {v u : V} {a b : PyData} {c : Bool} (ra : Dx K F v a) (rb : Dx K F u b) (h : eqS a b = some c) : scal v u = true ∧ decide (v = u) = c := by
  cases ra <;> cases rb <;> first | (cases h; done) | (simp only [eqS, Option.some.injEq] at h; subst h; refine ⟨rfl, ?_⟩; simp)
theorem so_eqS : SO K rEq (fEqS false) := fun F H M v u x y R Q hr rx ry hf k => by
  obtain ⟨a, rfl, hf1⟩ := gD_of hf
  obtain ⟨b, rfl, hf2⟩ := gD_of hf1
  obtain ⟨e, c, hf2⟩ := gO_of hf2
  obtain ⟨h1, h2⟩ := eqS_of rx.dx ry.dx c
  refine ⟨h1, ?_⟩
  rw [h2]
  exact k _ H F M _ hr .refl (.d (.bl _)) hf2
theorem so_neS : SO K rNe (fEqS true) := fun F H M v u x y R Q hr rx ry hf k => by
  obtain ⟨a, rfl, hf1⟩ := gD_of hf
  obtain ⟨b, rfl, hf2⟩ := gD_of hf1
  obtain ⟨e, c, hf2⟩ := gO_of hf2
  obtain ⟨h1, h2⟩ := eqS_of rx.dx ry.dx c
  refine ⟨h1, ?_⟩
  rw [h2]
  exact k _ H F M _ hr .refl (.d (.bl _)) hf2
end
end Tl
set_option Elab.async false
set_option linter.all false
set_option maxRecDepth 100000
set_option maxHeartbeats 4000000
namespace Tl
open PySem L2
section
variable {K : PySem.W.Frag} {Wx : WX} {RE : REx}
/-! ### tests -/
@[reducible] def tbT (T : TDE) : TDT := fun ρ M R => T ρ M fun x M1 => gB x fun c => R c M1
@[reducible] def andT (T U : TDT) : TDT := fun ρ M R => T ρ M fun c M1 => IfB c (U ρ M1 R) (R false M1)
@[reducible] def orT (T U : TDT) : TDT := fun ρ M R => T ρ M fun c M1 => IfB c (R true M1) (U ρ M1 R)
@[reducible] def notT (T : TDT) : TDT := fun ρ M R => T ρ M fun c M1 => R (!c) M1
@[reducible] def andV (T U : TDE) : TDE := fun ρ M R => T ρ M fun x M1 => gB x fun c => IfB c (U ρ M1 R) (R (.d (.bool false)) M1)
@[reducible] def notV (T : TDE) : TDE := fun ρ M R => T ρ M fun x M1 => gB x fun c => R (.d (.bool (!c))) M1
theorem st_val {t : TE} {T : TDE} (h : SE K Wx RE t T) : ST K Wx RE (tB t) (tbT T) := fun F H M σ ρ R Q hr hx hs ht k =>
  h F H M σ ρ _ _ hr hx hs ht fun v H1 F1 M1 x r1 g1 rx h1 => by
    obtain ⟨c, rfl, h2⟩ := gB_of h1
    exact ⟨c, rx.bl, k c H1 F1 M1 r1 g1 h2⟩
theorem st_test {t : TE} {T : TDE} (h : SE K Wx RE t T) : ST K Wx RE (tTest t) (tbT T) := fun F H M σ ρ R Q hr hx hs ht k =>
  h F H M σ ρ _ _ hr hx hs ht fun v H1 F1 M1 x r1 g1 rx h1 => by
    obtain ⟨c, rfl, h2⟩ := gB_of h1
    exact ⟨c, rx.bl, k c H1 F1 M1 r1 g1 h2⟩
theorem st_and {t u : TT} {T U : TDT} (ha : ST K Wx RE t T) (hb : ST K Wx RE u U) : ST K Wx RE (tAnd t u) (andT T U) := fun F H M σ ρ R Q hr hx hs ht k =>
  ha F H M σ ρ _ _ hr hx hs ht fun c H1 F1 M1 r1 g1 h1 => by
    have h1 := h1.ite
    by_cases hc : c = true
    · rw [if_pos hc] at h1 ⊢
      exact hb F1 H1 M1 σ ρ R Q r1 (hx.mono g1) (hs.mono g1.ff) h1 fun b H2 F2 M2 r2 g2 h2 => k b H2 F2 M2 r2 (g1.trans g2) h2
    · rw [if_neg hc] at h1 ⊢
      exact k _ H1 F1 M1 r1 g1 h1
theorem st_or {t u : TT} {T U : TDT} (ha : ST K Wx RE t T) (hb : ST K Wx RE u U) : ST K Wx RE (tOr t u) (orT T U) := fun F H M σ ρ R Q hr hx hs ht k =>
  ha F H M σ ρ _ _ hr hx hs ht fun c H1 F1 M1 r1 g1 h1 => by
    have h1 := h1.ite
    by_cases hc : c = true
    · rw [if_pos hc] at h1 ⊢
      exact k _ H1 F1 M1 r1 g1 h1
    · rw [if_neg hc] at h1 ⊢
      exact hb F1 H1 M1 σ ρ R Q r1 (hx.mono g1) (hs.mono g1.ff) h1 fun b H2 F2 M2 r2 g2 h2 => k b H2 F2 M2 r2 (g1.trans g2) h2
theorem st_not {t : TT} {T : TDT} (ha : ST K Wx RE t T) : ST K Wx RE (tNot t) (notT T) := fun F H M σ ρ R Q hr hx hs ht k =>
  ha F H M σ ρ _ _ hr hx hs ht fun c H1 F1 M1 r1 g1 h1 => k _ H1 F1 M1 r1 g1 h1
theorem se_and {t u : TE} {T U : TDE} (ha : SE K Wx RE t T) (hb : SE K Wx RE u U) : SE K Wx RE (tAndV t u) (andV T U) := fun F H M σ ρ R Q hr hx hs ht k =>
  ha F H M σ ρ _ _ hr hx hs ht fun v H1 F1 M1 x r1 g1 rx h1 => by
    obtain ⟨c, rfl, h2⟩ := gB_of h1
    refine ⟨c, rx.bl, ?_⟩
    have h2 := h2.ite
    by_cases hc : c = true
    · rw [if_pos hc] at h2 ⊢
      exact hb F1 H1 M1 σ ρ R Q r1 (hx.mono g1) (hs.mono g1.ff) h2 fun b H2 F2 M2 x r2 g2 h3 h4 => k b H2 F2 M2 x r2 (g1.trans g2) h3 h4
    · rw [if_neg hc] at h2 ⊢
      exact k _ H1 F1 M1 _ r1 g1 (.d (.bl _)) h2
theorem se_not {t : TE} {T : TDE} (ha : SE K Wx RE t T) : SE K Wx RE (tNotV t) (notV T) := fun F H M σ ρ R Q hr hx hs ht k =>
  ha F H M σ ρ _ _ hr hx hs ht fun v H1 F1 M1 x r1 g1 rx h1 => by
    obtain ⟨c, rfl, h2⟩ := gB_of h1
    exact ⟨c, rx.bl, k _ H1 F1 M1 _ r1 g1 (.d (.bl _)) h2⟩
@[reducible] def chT (f f' : F2) (Ta Tb Tc : TDE) : TDE := fun ρ M R => Ta ρ M fun x M1 => Tb ρ M1 fun y M2 => f x y M2 fun z M3 => gB z fun c => IfB c (Tc ρ M3 fun w M4 => f' y w M4 R) (R (.d (.bool false)) M3)
theorem se_chain {r r' : R2} {f f' : F2} {ta tb tc : TE} {Ta Tb Tc : TDE} (ho : SO K r f) (ho' : SO K r' f') (ha : SE K Wx RE ta Ta) (hb : SE K Wx RE tb Tb) (hc : SE K Wx RE tc Tc) : SE K Wx RE (tChain r r' ta tb tc) (chT f f' Ta Tb Tc) := fun F H M σ ρ R Q hr hx hs ht k =>
  ha F H M σ ρ _ _ hr hx hs ht fun v H1 F1 M1 x r1 g1 rx ht1 => hb F1 H1 M1 σ ρ _ _ r1 (hx.mono g1) (hs.mono g1.ff) ht1 fun u H2 F2 M2 y r2 g2 ry ht2 =>
    ho F2 H2 M2 v u x y _ _ r2 (rx.mono g2.ff) ry ht2 fun w H3 F3 M3 z r3 g3 rz hz => by
      obtain ⟨c, rfl, h2⟩ := gB_of hz
      refine ⟨c, rz.bl, ?_⟩
      have g := (g1.trans g2).trans g3
      have h2 := h2.ite
      by_cases hc' : c = true
      · rw [if_pos hc'] at h2 ⊢
        exact hc F3 H3 M3 σ ρ _ _ r3 (hx.mono g) (hs.mono g.ff) h2 fun w4 H4 F4 M4 z4 r4 g4 rz4 h4 =>
          ho' F4 H4 M4 u w4 y z4 R Q r4 (ry.mono (g3.trans g4).ff) rz4 h4 fun w5 H5 F5 M5 z5 r5 g5 rz5 h5 => k w5 H5 F5 M5 z5 r5 ((g.trans g4).trans g5) rz5 h5
      · rw [if_neg hc'] at h2 ⊢
        exact k _ H3 F3 M3 _ r3 g (.d (.bl _)) h2
/-! ### arguments, displays -/
def SAn (K : PySem.W.Frag) (Wx : WX) (RE : REx) (n : Nat) (t : TA) (T : TDA) : Prop :=
  ∀ F H M σ ρ (R : List W → Mem → Prop) (Q : List V → Hp → Prop), Rl K F H M → XOk K F H M Wx RE → RelS K F σ ρ → T ρ M R → (∀ vs H' F' M' xs, Rl K F' H' M' → Gr F H M F' H' M' → RWs K F' vs xs → xs.length = n → R xs M' → Q vs H') → t σ H Q
@[reducible] def nilA : TDA := fun _ M R => R [] M
@[reducible] def consA (T : TDE) (U : TDA) : TDA := fun ρ M R => T ρ M fun x M1 => U ρ M1 fun xs M2 => R (x :: xs) M2
theorem sa_nil : SAn K Wx RE 0 tNil nilA := fun F H M σ ρ R Q hr hx hs ht k => k [] H F M [] hr .refl .nil rfl ht
theorem sa_cons {n : Nat} {t : TE} {u : TA} {T : TDE} {U : TDA} (ha : SE K Wx RE t T) (hb : SAn K Wx RE n u U) : SAn K Wx RE (n + 1) (tCons t u) (consA T U) := fun F H M σ ρ R Q hr hx hs ht k =>
  ha F H M σ ρ _ _ hr hx hs ht fun v H1 F1 M1 x r1 g1 rx h1 => hb F1 H1 M1 σ ρ _ _ r1 (hx.mono g1) (hs.mono g1.ff) h1 fun vs H2 F2 M2 xs r2 g2 rxs hl h2 =>
    k (v :: vs) H2 F2 M2 (x :: xs) r2 (g1.trans g2) (.cons (rx.mono g2.ff) rxs) (by rw [List.length_cons, hl]) h2
/-- all of them data -/
inductive gDs (xs : List W) (k : List PyData → Prop) : Prop where
  | mk (ds : List PyData) (h : xs = ds.map W.d) (q : k ds)
theorem gDs_of {xs : List W} {k : List PyData → Prop} (h : gDs xs k) : ∃ ds, xs = ds.map W.d ∧ k ds := by
  cases h with
  | mk ds h q => exact ⟨ds, h, q⟩
theorem map_injD {α β : Type} {f : α → β} (hf : ∀ a b, f a = f b → a = b) : ∀ {xs ys : List α}, xs.map f = ys.map f → xs = ys
  | [], [], _ => rfl
  | [], _ :: _, h => by cases h
  | _ :: _, [], h => by cases h
  | x :: xs, y :: ys, h => by
    rw [List.map_cons, List.map_cons] at h
    injection h with h1 h2
    rw [hf _ _ h1, map_injD hf h2]
theorem gDs_map {ds : List PyData} {k : List PyData → Prop} : gDs (ds.map W.d) k = k ds := propext ⟨fun h => by
  obtain ⟨es, e, q⟩ := gDs_of h
  rw [map_injD (fun a b h => by injection h) e]
  exact q, fun q => .mk ds rfl q⟩
theorem gDs_n {k : List PyData → Prop} (q : k []) : gDs [] k := .mk [] rfl q
theorem gDs_c {a : PyData} {r : List W} {k : List PyData → Prop} (h : gDs r fun ds => k (a :: ds)) : gDs (.d a :: r) k := by
  obtain ⟨ds, rfl, q⟩ := gDs_of h
  exact .mk (a :: ds) rfl q
@[reducible] def tupT (T : TDA) : TDE := fun ρ M R => T ρ M fun xs M1 => gDs xs fun ds => R (.d (.tuple ds)) M1
@[reducible] def lsfT (T : TDA) : TDE := fun ρ M R => T ρ M fun xs M1 => gDs xs fun ds => R (.d (.list ds)) M1
@[reducible] def lstT (T : TDA) : TDE := fun ρ M R => T ρ M fun xs M1 => ∀ p, M1 p = none → R (.r p) (mset M1 p (.lst xs))
theorem se_tup {n : Nat} {t : TA} {T : TDA} (h : SAn K Wx RE n t T) (hn : n ≤ 1000 := by decide) : SE K Wx RE (tTup t) (tupT T) := fun F H M σ ρ R Q hr hx hs ht k =>
  h F H M σ ρ _ _ hr hx hs ht fun vs H1 F1 M1 xs r1 g1 rxs hl h1 => by
    obtain ⟨ds, rfl, h2⟩ := gDs_of h1
    refine ⟨by rw [rxs.len, hl]; exact sz1000 hn, fun p hp => ?_⟩
    obtain ⟨r2, g2, rz⟩ := r1.tup hp rxs.undat
    exact k _ _ _ _ _ r2 (g1.trans g2) rz h2
theorem se_lsf {n : Nat} {t : TA} {T : TDA} (h : SAn K Wx RE n t T) (hn : n ≤ 1000 := by decide) : SE K Wx RE (tLst t) (lsfT T) := fun F H M σ ρ R Q hr hx hs ht k =>
  h F H M σ ρ _ _ hr hx hs ht fun vs H1 F1 M1 xs r1 g1 rxs hl h1 => by
    obtain ⟨ds, rfl, h2⟩ := gDs_of h1
    refine ⟨by rw [rxs.len, hl]; exact sz1000 hn, fun p hp => ?_⟩
    obtain ⟨r2, g2, rz⟩ := r1.list hp rxs.undat
    exact k _ _ _ _ _ r2 (g1.trans g2) rz h2
theorem se_lst {n : Nat} {t : TA} {T : TDA} (h : SAn K Wx RE n t T) (hn : n ≤ 1000 := by decide) : SE K Wx RE (tLst t) (lstT T) := fun F H M σ ρ R Q hr hx hs ht k =>
  h F H M σ ρ _ _ hr hx hs ht fun vs H1 F1 M1 xs r1 g1 rxs hl h1 => by
    refine ⟨by rw [rxs.len, hl]; exact sz1000 hn, fun p hp => ?_⟩
    obtain ⟨r2, g2⟩ := r1.born (u := .lst vs) (o := .lst xs) hp ⟨vs, rfl, rxs⟩
    exact k _ _ _ _ _ r2 (g1.trans g2) (.r p) (h1 p (r1.new hp))
/-! ### items -/
/-- the items of a list, data or not -/
@[reducible] def gW (M : Mem) (x : W) (k : List W → Prop) : Prop := match x with
  | .d (.list ds) => k (ds.map W.d)
  | .r a => ∃ ws, M a = some (.lst ws) ∧ k ws
  | _ => False
theorem gW_of {F H : Hp} {M : Mem} {v : V} {x : W} {k : List W → Prop} (hr : Rl K F H M) (r : RW K F v x) (h : gW M x k) : ∃ a vs ws, v = .ref a ∧ H a = some (.lst vs) ∧ RWs K F vs ws ∧ k ws := by
  unfold gW at h
  split at h
  · obtain ⟨a, xs, rfl, h1, h2⟩ := r.lst
    exact ⟨a, xs, _, rfl, hr.fh _ _ h1, .dat h2, h⟩
  · obtain ⟨ws, h1, h2⟩ := h
    obtain ⟨vs, h3, h4⟩ := hr.lst h1
    exact ⟨_, vs, ws, r.ref, h3, h4, h2⟩
  · exact h.elim
theorem atI_map {α β : Type} (f : α → β) (xs : List α) (i : Int) : atI (xs.map f) i = (atI xs i).map f := by
  unfold atI
  rw [List.length_map]
  cases ixN xs.length i with
  | none => rfl
  | some j => simp
theorem atI_rw {F : Hp} {vs : List V} {xs : List W} {i : Int} {x : W} (r : RWs K F vs xs) (h : atI xs i = some x) : ∃ v, atI vs i = some v ∧ RW K F v x := by
  unfold atI at h ⊢
  rw [r.len]
  cases c : ixN xs.length i with
  | none => rw [c] at h; cases h
  | some j => rw [c] at h; exact r.got h
theorem atI_dx {F : Hp} {vs : List V} {ds : List PyData} {i : Int} {d : PyData} (r : DxL K F vs ds) (h : atI ds i = some d) : ∃ v, atI vs i = some v ∧ Dx K F v d := by
  unfold atI at h ⊢
  rw [r.len]
  cases c : ixN ds.length i with
  | none => rw [c] at h; cases h
  | some j => rw [c] at h; exact r.got h
@[reducible] def fIxT : F2 := fun x y M R => gT x fun ds => gI y fun i => gO (atI ds i) fun d => R (.d d) M
@[reducible] def fIxL : F2 := fun x y M R => gW M x fun ws => gI y fun i => gO (atI ws i) fun w => R w M
theorem so_ixT : SO K (rIxT K) fIxT := fun F H M v u x y R Q hr rx ry hf k => by
  obtain ⟨ds, rfl, h1⟩ := gT_of hf
  obtain ⟨i, rfl, h2⟩ := gI_of h1
  obtain ⟨d, h3, h4⟩ := gO_of h2
  obtain ⟨a, xs, rfl, h5, h6⟩ := rx.tup
  obtain ⟨w, h7, h8⟩ := atI_dx h6 h3
  exact ⟨a, xs, i, w, rfl, ry.int, same_t hr.fh h5, h7, k _ H F M _ hr .refl (.d h8) h4⟩
theorem so_ixL : SO K (rIxL K) fIxL := fun F H M v u x y R Q hr rx ry hf k => by
  obtain ⟨a, vs, ws, rfl, h1, h2, h3⟩ := gW_of hr rx hf
  obtain ⟨i, rfl, h4⟩ := gI_of h3
  obtain ⟨w, h5, h6⟩ := gO_of h4
  obtain ⟨u2, h7, h8⟩ := atI_rw h2 h5
  exact ⟨a, vs, i, u2, rfl, ry.int, SqL.of h1, h7, k _ H F M _ hr .refl h8 h6⟩
/-! ### slices -/
abbrev TDO := EnvD → Mem → (Option Int → Mem → Prop) → Prop
def SPt (K : PySem.W.Frag) (Wx : WX) (RE : REx) (t : TO) (T : TDO) : Prop :=
  ∀ F H M σ ρ (R : Option Int → Mem → Prop) (Q : Option Int → Hp → Prop), Rl K F H M → XOk K F H M Wx RE → RelS K F σ ρ → T ρ M R → (∀ o H' F' M', Rl K F' H' M' → Gr F H M F' H' M' → R o M' → Q o H') → t σ H Q
@[reducible] def noP : TDO := fun _ M R => R none M
@[reducible] def someP (T : TDE) : TDO := fun ρ M R => T ρ M fun x M1 => gI x fun i => R (some i) M1
theorem sp_no : SPt K Wx RE tNoPart noP := fun F H M σ ρ R Q hr hx hs ht k => k none H F M hr .refl ht
theorem sp_some {t : TE} {T : TDE} (h : SE K Wx RE t T) : SPt K Wx RE (tPart t) (someP T) := fun F H M σ ρ R Q hr hx hs ht k =>
  h F H M σ ρ _ _ hr hx hs ht fun v H1 F1 M1 x r1 g1 rx h1 => by
    obtain ⟨i, rfl, h2⟩ := gI_of h1
    exact ⟨i, rx.int, k _ H1 F1 M1 r1 g1 h2⟩
abbrev FSl := W → Option Int → Option Int → Mem → (W → Mem → Prop) → Prop
def SSl (K : PySem.W.Frag) (r : V → Option Int → Option Int → Hp → VK → Prop) (f : FSl) : Prop := ∀ F H M v x lo hi R Q, Rl K F H M → RW K F v x → f x lo hi M R → Kt K F H M R Q → r v lo hi H Q
@[reducible] def slT (f : FSl) (T : TDE) (Tl Th : TDO) : TDE := fun ρ M R => T ρ M fun x M1 => Tl ρ M1 fun lo M2 => Th ρ M2 fun hi M3 => f x lo hi M3 R
theorem se_sl {r : V → Option Int → Option Int → Hp → VK → Prop} {f : FSl} {te : TE} {tl th : TO} {T : TDE} {Tl Th : TDO} (ho : SSl K r f) (he : SE K Wx RE te T) (hl : SPt K Wx RE tl Tl) (hh : SPt K Wx RE th Th) : SE K Wx RE (tSl r te tl th) (slT f T Tl Th) := fun F H M σ ρ R Q hr hx hs ht k =>
  he F H M σ ρ _ _ hr hx hs ht fun v H1 F1 M1 x r1 g1 rx h1 => hl F1 H1 M1 σ ρ _ _ r1 (hx.mono g1) (hs.mono g1.ff) h1 fun lo H2 F2 M2 r2 g2 h2 =>
    hh F2 H2 M2 σ ρ _ _ r2 (hx.mono (g1.trans g2)) (hs.mono (g1.trans g2).ff) h2 fun hi H3 F3 M3 r3 g3 h3 =>
      ho F3 H3 M3 v x lo hi R Q r3 (rx.mono (g2.trans g3).ff) h3 fun w H4 F4 M4 z r4 g4 rz hz => k w H4 F4 M4 z r4 (((g1.trans g2).trans g3).trans g4) rz hz
def cut {α : Type} (xs : List α) (lo hi : Option Int) : List α := (xs.drop (HT.sIx xs.length 0 lo)).take (HT.sIx xs.length xs.length hi - HT.sIx xs.length 0 lo)
theorem cut_dx {F : Hp} {vs : List V} {ds : List PyData} {lo hi : Option Int} (r : DxL K F vs ds) : DxL K F (cutV vs lo hi) (cut ds lo hi) := by
  unfold cutV cut
  rw [r.len]
  exact (r.drop _).take _
theorem cut_whole {α : Type} {xs : List α} {lo hi : Option Int} (h : HT.sIx xs.length 0 lo = 0 ∧ HT.sIx xs.length xs.length hi = xs.length) : cut xs lo hi = xs := by
  unfold cut
  rw [h.1, h.2, List.drop_zero, Nat.sub_zero, List.take_length]
@[reducible] def fSlT : FSl := fun x lo hi M R => gT x fun ds => R (.d (.tuple (cut ds lo hi))) M
theorem sl_T : SSl K (rSlA K) fSlT := fun F H M v x lo hi R Q hr rx hf k => by
  obtain ⟨ds, rfl, h1⟩ := gT_of hf
  obtain ⟨a, xs, rfl, h2, h3⟩ := rx.tup
  refine ⟨a, xs, rfl, same_t hr.fh h2, fun hw => ?_, fun _ p hp => ?_⟩
  · rw [h3.len] at hw
    rw [cut_whole hw] at h1
    exact k _ H F M _ hr .refl rx h1
  · obtain ⟨r2, g2, rz⟩ := hr.tup hp (cut_dx (lo := lo) (hi := hi) h3)
    exact k _ _ _ _ _ r2 g2 rz h1
@[reducible] def rvF (T : TDE) : TDE := fun ρ M R => T ρ M fun x M1 => gW M1 x fun ws => gDs ws fun ds => R (.d (.list ds.reverse)) M1
theorem se_rvF {t : TE} {T : TDE} (h : SE K Wx RE t T) : SE K Wx RE (tRevL K t) (rvF T) := fun F H M σ ρ R Q hr hx hs ht k =>
  h F H M σ ρ _ _ hr hx hs ht fun v H1 F1 M1 x r1 g1 rx h1 => by
    obtain ⟨a, vs, ws, rfl, h2, h3, h4⟩ := gW_of r1 rx h1
    obtain ⟨ds, rfl, h5⟩ := gDs_of h4
    refine ⟨a, vs, rfl, SqL.of h2, fun p hp => ?_⟩
    obtain ⟨r2, g2, rz⟩ := r1.list hp h3.undat.rev
    exact k _ _ _ _ _ r2 (g1.trans g2) rz h5
/-! ### + and * of rows -/
@[reducible] def fCatT : F2 := fun x y M R => gT x fun a => gT y fun b => a.length + b.length ≤ sizeLine ∧ R (.d (.tuple (a ++ b))) M
theorem so_catT : SO K (rCatA K) fCatT := fun F H M v u x y R Q hr rx ry hf k => by
  obtain ⟨a, rfl, h1⟩ := gT_of hf
  obtain ⟨b, rfl, hz, h2⟩ := gT_of h1
  obtain ⟨p, xs, rfl, h3, h4⟩ := rx.tup
  obtain ⟨q, ys, rfl, h5, h6⟩ := ry.tup
  refine ⟨p, q, xs, ys, rfl, rfl, same_t hr.fh h3, same_t hr.fh h5, by rw [h4.len, h6.len]; exact hz, fun e => ?_, fun _ e => ?_, fun _ _ t ht => ?_⟩
  · have ea : a = [] := by
      apply List.eq_nil_of_length_eq_zero
      rw [← h4.len, e]
      rfl
    subst ea
    exact k _ H F M _ hr .refl ry h2
  · have eb : b = [] := by
      apply List.eq_nil_of_length_eq_zero
      rw [← h6.len, e]
      rfl
    subst eb
    rw [List.append_nil] at h2
    exact k _ H F M _ hr .refl rx h2
  · obtain ⟨r2, g2, rz⟩ := hr.tup ht (h4.app h6)
    exact k _ _ _ _ _ r2 g2 rz h2
/-- list + list: data -/
@[reducible] def fCatF : F2 := fun x y M R => gW M x fun a => gW M y fun b => gDs a fun a => gDs b fun b => a.length + b.length ≤ sizeLine ∧ R (.d (.list (a ++ b))) M
theorem so_catF : SO K rCat fCatF := fun F H M v u x y R Q hr rx ry hf k => by
  obtain ⟨p, vs, ws, rfl, h1, h2, h3⟩ := gW_of hr rx hf
  obtain ⟨q, us, zs, rfl, h4, h5, h6⟩ := gW_of hr ry h3
  obtain ⟨a, rfl, h7⟩ := gDs_of h6
  obtain ⟨b, rfl, hz, h8⟩ := gDs_of h7
  refine ⟨p, q, vs, us, rfl, rfl, h1, h4, by rw [h2.len, h5.len, List.length_map, List.length_map]; exact hz, fun t ht => ?_⟩
  obtain ⟨r2, g2, rz⟩ := hr.list ht (h2.undat.app h5.undat)
  exact k _ _ _ _ _ r2 g2 rz h8
@[reducible] def fRepT : F2 := fun x y M R => gT x fun a => gI y fun n => (0 ≤ n ∧ n ≤ 1000 ∧ a.length ≤ 1000) ∧ R (.d (.tuple (List.replicate n.toNat a).flatten)) M
theorem so_repT : SO K (rRepA K) fRepT := fun F H M v u x y R Q hr rx ry hf k => by
  obtain ⟨a, rfl, h1⟩ := gT_of hf
  obtain ⟨n, rfl, ⟨c1, c2, c3⟩, h2⟩ := gI_of h1
  obtain ⟨p, xs, rfl, h3, h4⟩ := rx.tup
  refine ⟨p, n, xs, rfl, ry.int, same_t hr.fh h3, c1, c2, by rw [h4.len]; exact c3, fun e => ?_, fun _ t ht => ?_⟩
  · have ea : (List.replicate n.toNat a).flatten = a := by
      rcases e with e | e
      · have : a = [] := by
          apply List.eq_nil_of_length_eq_zero
          rw [← h4.len, e]
          rfl
        subst this
        simp
      · subst e
        simp
    rw [ea] at h2
    exact k _ H F M _ hr .refl rx h2
  · obtain ⟨r2, g2, rz⟩ := hr.tup ht (h4.rep n.toNat)
    exact k _ _ _ _ _ r2 g2 rz h2
end
end Tl
set_option Elab.async false
set_option linter.all false
set_option maxRecDepth 100000
set_option maxHeartbeats 4000000
namespace Tl
open PySem L2
section
variable {K : PySem.W.Frag} {Wx : WX} {RE : REx}
/-! ### built-in calls -/
@[reducible] def cbT (f : FL) (T : TDA) : TDE := fun ρ M R => T ρ M fun xs M1 => f xs M1 R
theorem se_cb {n : Nat} {r : List V → Hp → VK → Prop} {f : FL} {t : TA} {T : TDA} (ho : SC K r f) (h : SAn K Wx RE n t T) : SE K Wx RE (tCB r t) (cbT f T) := fun F H M σ ρ R Q hr hx hs ht k =>
  h F H M σ ρ _ _ hr hx hs ht fun vs H1 F1 M1 xs r1 g1 rxs hl h1 => ho F1 H1 M1 vs xs R Q r1 rxs h1 fun w H2 F2 M2 z r2 g2 rz hz => k w H2 F2 M2 z r2 (g1.trans g2) rz hz
@[reducible] def g1 (xs : List W) (k : W → Prop) : Prop := match xs with | [x] => k x | _ => False
@[reducible] def g2 (xs : List W) (k : W → W → Prop) : Prop := match xs with | [x, y] => k x y | _ => False
theorem g1_of {xs : List W} {k : W → Prop} (h : g1 xs k) : ∃ x, xs = [x] ∧ k x := by
  unfold g1 at h
  split at h
  · exact ⟨_, rfl, h⟩
  · exact h.elim
theorem g2_of {xs : List W} {k : W → W → Prop} (h : g2 xs k) : ∃ x y, xs = [x, y] ∧ k x y := by
  unfold g2 at h
  split at h
  · exact ⟨_, _, rfl, h⟩
  · exact h.elim
theorem RWs.one {F : Hp} {vs : List V} {x : W} (r : RWs K F vs [x]) : ∃ v, vs = [v] ∧ RW K F v x := by
  cases r with
  | cons a b => cases b; exact ⟨_, rfl, a⟩
theorem RWs.two {F : Hp} {vs : List V} {x y : W} (r : RWs K F vs [x, y]) : ∃ v u, vs = [v, u] ∧ RW K F v x ∧ RW K F u y := by
  cases r with
  | cons a b => cases b with | cons b c => cases c; exact ⟨_, _, rfl, a, b⟩
/-- the length of a row -/
@[reducible] def fLen : FL := fun xs M R => g1 xs fun x => match x with
  | .d (.tuple ds) => R (.d (.int ds.length)) M
  | x => gW M x fun ws => R (.d (.int ws.length)) M
theorem sc_len : SC K (fun xs H Q => ∃ p ys, xs = [V.ref p] ∧ (SqL K H p ys ∨ SqT K H p ys) ∧ Q (.int ys.length) H) fLen := fun F H M vs xs R Q hr rx hf k => by
  obtain ⟨x, rfl, h1⟩ := g1_of hf
  obtain ⟨v, rfl, r⟩ := rx.one
  have hw : (∀ ds, x ≠ .d (.tuple ds)) → gW M x (fun ws => R (.d (.int ws.length)) M) := fun hn => by
    cases x with
    | d a =>
      cases a with
      | tuple ds => exact absurd rfl (hn ds)
      | _ => exact h1
    | r a => exact h1
    | o a => exact h1
    | x a C dd fs => exact h1
  by_cases c : ∃ ds, x = .d (.tuple ds)
  · obtain ⟨ds, rfl⟩ := c
    obtain ⟨a, xs, rfl, h2, h3⟩ := r.tup
    refine ⟨a, xs, rfl, .inr (same_t hr.fh h2), ?_⟩
    rw [h3.len]
    exact k _ H F M _ hr .refl (.d (.int _)) h1
  · obtain ⟨a, us, ws, rfl, h2, h3, h4⟩ := gW_of hr r (hw fun ds e => c ⟨ds, e⟩)
    refine ⟨a, us, rfl, .inl (SqL.of h2), ?_⟩
    rw [h3.len]
    exact k _ H F M _ hr .refl (.d (.int _)) h4
@[reducible] def fLenS : FL := fun xs M R => g1 xs fun x => gS x fun z => z.length ≤ sizeLine ∧ R (.d (.int z.length)) M
theorem sc_lenS : SC K (fun xs H Q => ∃ z, xs = [V.str z] ∧ z.length ≤ sizeLine ∧ Q (.int z.length) H) fLenS := fun F H M vs xs R Q hr rx hf k => by
  obtain ⟨x, rfl, h1⟩ := g1_of hf
  obtain ⟨v, rfl, r⟩ := rx.one
  obtain ⟨z, rfl, hz, h2⟩ := gS_of h1
  exact ⟨z, by rw [r.str], hz, k _ H F M _ hr .refl (.d (.int _)) h2⟩
/-- all truths -/
inductive gBs (xs : List W) (k : List Bool → Prop) : Prop where
  | mk (bs : List Bool) (h : xs = bs.map fun b => W.d (.bool b)) (q : k bs)
theorem gBs_of {xs : List W} {k : List Bool → Prop} (h : gBs xs k) : ∃ bs : List Bool, xs = bs.map (fun b => W.d (.bool b)) ∧ k bs := by
  cases h with
  | mk bs h q => exact ⟨bs, h, q⟩
theorem gBs_map {α : Type} (g : α → Bool) {xs : List α} {k : List Bool → Prop} : gBs (xs.map fun a => W.d (.bool (g a))) k = k (xs.map g) := propext ⟨fun h => by
  obtain ⟨es, e, q⟩ := gBs_of h
  rw [show (xs.map fun a => W.d (.bool (g a))) = (xs.map g).map fun b => W.d (.bool b) by rw [List.map_map]; rfl] at e
  rw [map_injD (fun a b h => by injection h with h; injection h) e]
  exact q, fun q => .mk (xs.map g) (by rw [List.map_map]; rfl) q⟩
theorem gBs_n {k : List Bool → Prop} (q : k []) : gBs [] k := .mk [] rfl q
theorem gBs_c {x : W} {r : List W} {k : List Bool → Prop} (h : gB x fun b => gBs r fun bs => k (b :: bs)) : gBs (x :: r) k := by
  obtain ⟨a, rfl, h⟩ := gB_of h
  obtain ⟨bs, rfl, q⟩ := gBs_of h
  exact .mk (a :: bs) rfl q
inductive gIs (xs : List W) (k : List Int → Prop) : Prop where
  | mk (bs : List Int) (h : xs = bs.map fun b => W.d (.int b)) (q : k bs)
theorem gIs_of {xs : List W} {k : List Int → Prop} (h : gIs xs k) : ∃ bs : List Int, xs = bs.map (fun b => W.d (.int b)) ∧ k bs := by
  cases h with
  | mk bs h q => exact ⟨bs, h, q⟩
theorem gIs_n {k : List Int → Prop} (q : k []) : gIs [] k := .mk [] rfl q
theorem gIs_c {x : W} {r : List W} {k : List Int → Prop} (h : gI x fun b => gIs r fun bs => k (b :: bs)) : gIs (x :: r) k := by
  obtain ⟨a, rfl, h⟩ := gI_of h
  obtain ⟨bs, rfl, q⟩ := gIs_of h
  exact .mk (a :: bs) rfl q
inductive gSs (xs : List W) (k : List Str → Prop) : Prop where
  | mk (bs : List Str) (h : xs = bs.map fun b => W.d (.str b)) (q : k bs)
theorem gSs_of {xs : List W} {k : List Str → Prop} (h : gSs xs k) : ∃ bs : List Str, xs = bs.map (fun b => W.d (.str b)) ∧ k bs := by
  cases h with
  | mk bs h q => exact ⟨bs, h, q⟩
theorem gSs_n {k : List Str → Prop} (q : k []) : gSs [] k := .mk [] rfl q
theorem gSs_c {x : W} {r : List W} {k : List Str → Prop} (h : gS x fun b => gSs r fun bs => k (b :: bs)) : gSs (x :: r) k := by
  obtain ⟨a, rfl, h⟩ := gS_of h
  obtain ⟨bs, rfl, q⟩ := gSs_of h
  exact .mk (a :: bs) rfl q
theorem rws_bl {F : Hp} : ∀ {bs : List Bool} {vs : List V}, RWs K F vs (bs.map fun b => W.d (.bool b)) → vs = bs.map V.bl
  | [], _, h => by cases h; rfl
  | b :: bs, _, h => by
    cases h with
    | cons a c => rw [rws_bl c, a.bl]; rfl
@[reducible] def fAll : FL := fun xs M R => g1 xs fun x => gW M x fun ws => gBs ws fun bs => R (.d (.bool (bs.all id))) M
theorem sc_all : SC K (rAll K) fAll := fun F H M vs xs R Q hr rx hf k => by
  obtain ⟨x, rfl, h1⟩ := g1_of hf
  obtain ⟨v, rfl, r⟩ := rx.one
  obtain ⟨a, us, ws, rfl, h2, h3, h4⟩ := gW_of hr r h1
  obtain ⟨bs, rfl, h5⟩ := gBs_of h4
  refine ⟨a, bs, rfl, ?_, k _ H F M _ hr .refl (.d (.bl _)) h5⟩
  rw [← rws_bl h3]
  exact SqL.of h2
@[reducible] def fMax2 : FL := fun xs M R => g2 xs fun x y => gI x fun i => gI y fun j => R (.d (.int (max i j))) M
theorem sc_max2 : SC K (fun xs H Q => ∃ i j, xs = [V.int i, .int j] ∧ Q (.int (if j > i then j else i)) H) fMax2 := fun F H M vs xs R Q hr rx hf k => by
  obtain ⟨x, y, rfl, h1⟩ := g2_of hf
  obtain ⟨v, u, rfl, r, r'⟩ := rx.two
  obtain ⟨i, rfl, h2⟩ := gI_of h1
  obtain ⟨j, rfl, h3⟩ := gI_of h2
  refine ⟨i, j, by rw [r.int, r'.int], ?_⟩
  rw [show (if j > i then j else i) = max i j by omega]
  exact (k _ H F M _ hr .refl (.d (.int _)) h3)
/-- tuple(..) -/
@[reducible] def fTuple : FL := fun xs M R => g1 xs fun x => match x with
  | .d (.tuple ds) => R (.d (.tuple ds)) M
  | x => gW M x fun ws => gDs ws fun ds => R (.d (.tuple ds)) M
theorem sc_tuple : SC K (fun xs H Q => ∃ p ys, xs = [V.ref p] ∧ ((SqL K H p ys ∧ ∀ l, H l = none → Q (.ref l) (upd H l (.tup ys))) ∨ (SqT K H p ys ∧ Q (.ref p) H))) fTuple := fun F H M vs xs R Q hr rx hf k => by
  obtain ⟨x, rfl, h1⟩ := g1_of hf
  obtain ⟨v, rfl, r⟩ := rx.one
  have hw : (∀ ds, x ≠ .d (.tuple ds)) → gW M x (fun ws => gDs ws fun ds => R (.d (.tuple ds)) M) := fun hn => by
    cases x with
    | d a =>
      cases a with
      | tuple ds => exact absurd rfl (hn ds)
      | _ => exact h1
    | r a => exact h1
    | o a => exact h1
    | x a C dd fs => exact h1
  by_cases c : ∃ ds, x = .d (.tuple ds)
  · obtain ⟨ds, rfl⟩ := c
    obtain ⟨a, xs, rfl, h2, h3⟩ := r.tup
    exact ⟨a, xs, rfl, .inr ⟨same_t hr.fh h2, k _ H F M _ hr .refl r h1⟩⟩
  · obtain ⟨a, us, ws, rfl, h2, h3, h4⟩ := gW_of hr r (hw fun ds e => c ⟨ds, e⟩)
    obtain ⟨ds, rfl, h5⟩ := gDs_of h4
    refine ⟨a, us, rfl, .inl ⟨SqL.of h2, fun l hl => ?_⟩⟩
    obtain ⟨r2, g2, rz⟩ := hr.tup hl h3.undat
    exact k _ _ _ _ _ r2 g2 rz h5
/-- repr: the text of data -/
def shOk (d : PyData) : Prop := d.showable = true ∧ d.depth ≤ 100 ∧ d.shown.length ≤ sizeLine
@[reducible] def isList : PyData → Bool
  | .list _ => true
  | _ => false
/-! ### isinstance -/
def tyIs (d : PyData) (n : String) : Option Bool :=
  if n = "int" then some (isInt d) else if n = "bool" then some (isBl d) else if n = "str" then some (isStr d) else if n = "tuple" then some (isTup d) else if n = "list" then some (isList d) else none
theorem kit_lst (d : PyData) : kitB (tyName d) "list" = some (isList d) := by cases d <;> (simp only [tyName, isList]; decide +kernel)
theorem tyIs_kit {d : PyData} {n : String} {b : Bool} (h : tyIs d n = some b) : kitB (tyName d) n = some b := by
  unfold tyIs at h
  split at h
  · rename_i e; subst e; rw [← h]; exact kit_int d
  · split at h
    · rename_i e; subst e; rw [← h]; exact kit_bl d
    · split at h
      · rename_i e; subst e; rw [← h]; exact kit_str d
      · split at h
        · rename_i e; subst e; rw [← h]; exact kit_tup d
        · split at h
          · rename_i e; subst e; rw [← h]; exact kit_lst d
          · cases h
theorem ty_dx {H : Hp} {v : V} {d : PyData} (h : Dx K H v d) : TyX K H v (.type (tyName d)) := by
  cases h with
  | non => exact .base .non
  | bl b => exact .base (.bl b)
  | int i => exact .base (.int i)
  | str x => exact .base (.str x)
  | lst hs _ => exact .base (.lst hs)
  | tup hs _ =>
    rcases hs with (h | ⟨o, h⟩) | ⟨o, its, n, h1, h2, _⟩
    · exact .base (.tup h)
    · exact .fTuple h
    · exact .kTuple h1 h2
  | dic h => exact .base (.dK h)
@[reducible] def fIsi : FL := fun xs M R => g2 xs fun x y => match y with
  | .o (.ty n) => (match x with
    | .d a => gO (tyIs a n) fun b => R (.d (.bool b)) M
    | .r a => ∃ ws, M a = some (.lst ws) ∧ gO (tyIs (.list []) n) fun b => R (.d (.bool b)) M
    | _ => False)
  | _ => False
theorem sc_isi : SC K (rIsi K) fIsi := fun F H M vs xs R Q hr rx hf k => by
  obtain ⟨x, y, rfl, h1⟩ := g2_of hf
  obtain ⟨v, u, rfl, r, r'⟩ := rx.two
  cases y with
  | d a => exact h1.elim
  | r a => exact h1.elim
  | x a C dd fs => exact h1.elim
  | o z =>
    cases r'
    cases u with
    | ty n =>
      cases x with
      | o a => exact h1.elim
      | x a C dd fs => exact h1.elim
      | d a =>
        obtain ⟨b, h2, h3⟩ := gO_of h1
        exact ⟨v, .ty n, _, _, b, rfl, .ty n, ty_dx (Dx.mono hr.fh _ _ r.dx), kit_ty (tyIs_kit h2), k _ H F M _ hr .refl (.d (.bl _)) h3⟩
      | r a =>
        obtain ⟨ws, h0, h2⟩ := h1
        obtain ⟨b, h3, h4⟩ := gO_of h2
        obtain ⟨us, h5, h6⟩ := hr.lst h0
        rw [r.ref]
        have hk : kitB "list" n = some b := tyIs_kit (d := .list []) h3
        exact ⟨.ref a, .ty n, .type "list", _, b, rfl, .ty n, .base (.lst h5), kit_ty hk, k _ H F M _ hr .refl (.d (.bl _)) h4⟩
    | _ => exact h1.elim
/-! ### methods of a list that may change -/
/-- a method of a list -/
def SM (K : PySem.W.Frag) (r : V → List V → Hp → VK → Prop) (f : W → List W → Mem → (W → Mem → Prop) → Prop) : Prop := ∀ F H M v vs x xs R Q, Rl K F H M → RW K F v x → RWs K F vs xs → f x xs M R → Kt K F H M R Q → r v vs H Q
@[reducible] def bmL (f : W → List W → Mem → (W → Mem → Prop) → Prop) (T : TDE) (U : TDA) : TDE := fun ρ M R => T ρ M fun x M1 => gR x fun a => (∃ ws, M1 a = some (.lst ws)) ∧ U ρ M1 fun xs M2 => f (.r a) xs M2 R
theorem se_bmL {n : Nat} {r : V → List V → Hp → VK → Prop} {f : W → List W → Mem → (W → Mem → Prop) → Prop} {to : TE} {t : TA} {T : TDE} {U : TDA} (ho : SM K r f) (h1 : SE K Wx RE to T) (h2 : SAn K Wx RE n t U) :
    SE K Wx RE (tBM K "list" r to t) (bmL f T U) := fun F H M σ ρ R Q hr hx hs ht k =>
  h1 F H M σ ρ _ _ hr hx hs ht fun v H1 F1 M1 x r1 g1 rx q1 => by
    obtain ⟨a, rfl, ⟨ws, hw⟩, q2⟩ := gR_of q1
    rw [rx.ref]
    obtain ⟨vs, h3, h4⟩ := r1.lst hw
    refine ⟨.inl ⟨rfl, _, SqL.of h3⟩, h2 F1 H1 M1 σ ρ _ _ r1 (hx.mono g1) (hs.mono g1.ff) q2 fun us H2 F2 M2 xs r2 g2 rxs hl q3 => ?_⟩
    exact ho F2 H2 M2 _ us _ xs R Q r2 (.r a) rxs q3 fun w H3 F3 M3 z r3 g3 rz hz => k w H3 F3 M3 z r3 ((g1.trans g2).trans g3) rz hz
@[reducible] def fAppend : W → List W → Mem → (W → Mem → Prop) → Prop := fun x xs M R => gR x fun a => g1 xs fun y => ∃ ws, M a = some (.lst ws) ∧ ws.length < sizeLine ∧ R (.d .none) (mset M a (.lst (ws ++ [y])))
theorem sm_append : SM K rAppend fAppend := fun F H M v vs x xs R Q hr rx rxs hf k => by
  obtain ⟨a, rfl, h1⟩ := gR_of hf
  obtain ⟨y, rfl, ws, h2, hz, h3⟩ := g1_of h1
  obtain ⟨u, rfl, ry⟩ := rxs.one
  obtain ⟨us, h4, h5⟩ := hr.lst h2
  rw [rx.ref]
  refine ⟨a, us, u, rfl, rfl, h4, by rw [h5.len]; exact hz, ?_⟩
  obtain ⟨r2, g2⟩ := hr.put (u := .lst (us ++ [u])) (o := .lst (ws ++ [y])) h2 ⟨_, rfl, h5.app (.cons ry .nil)⟩
  exact k _ _ _ _ _ r2 g2 (.d .non) h3
@[reducible] def fExtend : W → List W → Mem → (W → Mem → Prop) → Prop := fun x xs M R => gR x fun a => g1 xs fun y => ∃ ws, M a = some (.lst ws) ∧ gW M y fun zs => ws.length + zs.length ≤ sizeLine ∧ R (.d .none) (mset M a (.lst (ws ++ zs)))
theorem sm_extend : SM K rExtend fExtend := fun F H M v vs x xs R Q hr rx rxs hf k => by
  obtain ⟨a, rfl, h1⟩ := gR_of hf
  obtain ⟨y, rfl, ws, h2, h3⟩ := g1_of h1
  obtain ⟨u, rfl, ry⟩ := rxs.one
  obtain ⟨us, h4, h5⟩ := hr.lst h2
  obtain ⟨b, zv, zs, rfl, h6, h7, hz, h8⟩ := gW_of hr ry h3
  rw [rx.ref]
  refine ⟨a, b, us, zv, rfl, rfl, h4, h6, by rw [h5.len, h7.len]; exact hz, ?_⟩
  obtain ⟨r2, g2⟩ := hr.put (u := .lst (us ++ zv)) (o := .lst (ws ++ zs)) h2 ⟨_, rfl, h5.app h7⟩
  exact k _ _ _ _ _ r2 g2 (.d .non) h8
/-! ### calls of defs -/
abbrev TF := List W → Mem → (W → Mem → Prop) → (Ex → Mem → Prop) → Prop
/-- the promise of a def by the second layer -/
def spD (K : PySem.W.Frag) (n : Nat) (f : TF) : Sp := fun vs H Q E => ∃ F M ws R RX, Rl K F H M ∧ RWs K F vs ws ∧ ws.length = n ∧ f ws M R RX ∧ Kt K F H M R Q ∧
  ∀ cls d H' F' M' x, Rl K F' H' M' → Gr F H M F' H' M' → XRel K F' cls d x → RX x M' → E cls d H'
@[reducible] def callT (f : TF) (T : TDA) : TDE := fun ρ M R => T ρ M fun xs M1 => f xs M1 R fun _ _ => False
@[reducible] def callX (RE : REx) (f : TF) (T : TDA) : TDE := fun ρ M R => T ρ M fun xs M1 => f xs M1 R fun x M' => RE x ρ M'
theorem se_call {n : Nat} {f : TF} {E : XK} {t : TA} {T : TDA} (h : SAn K Wx RE n t T) : SE K Wx RE (tCall (spD K n f) [] E t) (callT f T) := fun F H M σ ρ R Q hr hx hs ht k =>
  h F H M σ ρ _ _ hr hx hs ht fun vs H1 F1 M1 xs r1 g1 rxs hl h1 => by
    show spD K n f (vs ++ []) H1 Q E
    rw [List.append_nil]
    exact ⟨F1, M1, xs, R, _, r1, rxs, hl, h1, fun w H2 F2 M2 z r2 g2 rz hz => k w H2 F2 M2 z r2 (g1.trans g2) rz hz, fun cls d H' F' M' x _ _ _ z => z.elim⟩
theorem se_callX {n : Nat} {f : TF} {t : TA} {T : TDA} (h : SAn K Wx RE n t T) : SE K Wx RE (tCallS (spD K n f) (WE Wx) t) (callX RE f T) := fun F H M σ ρ R Q hr hx hs ht k =>
  h F H M σ ρ _ _ hr hx hs ht fun vs H1 F1 M1 xs r1 g1 rxs hl h1 =>
    ⟨F1, M1, xs, R, _, r1, rxs, hl, h1, fun w H2 F2 M2 z r2 g2 rz hz => k w H2 F2 M2 z r2 (g1.trans g2) rz hz, fun cls d H' F' M' x r2 g2 xr z => hx F' H' M' σ ρ cls d x (g1.trans g2) r2 (hs.mono (g1.trans g2).ff) xr z⟩
end
end Tl
set_option Elab.async false
set_option linter.all false
set_option maxRecDepth 100000
set_option maxHeartbeats 4000000
namespace Tl
open PySem L2
/-! ### what is walked -/
/-- one turn's item: one thing as it stands, or a pair that is made for it -/
def Yd (K : PySem.W.Frag) (F H : Hp) (x : V) (H' : Hp) (row : List W) (pair : Bool) : Prop :=
  if pair = true then ∃ T v1 v2 w1 w2, row = [w1, w2] ∧ x = .ref T ∧ H T = none ∧ H' = upd H T (.tup [v1, v2]) ∧ RW K F v1 w1 ∧ RW K F v2 w2
  else ∃ w, row = [w] ∧ H' = H ∧ RW K F x w
def ItOk (K : PySem.W.Frag) (F H : Hp) (M : Mem) (J : It) (rows : List (List W)) (keep : Mem → Prop) (pair : Bool) : Prop :=
  ∃ (G : Hp → Prop) (Y : Nat → Hp → V → Hp → Prop), Walk J rows.length G Y ∧ (∀ F2 H2 M2, Rl K F2 H2 M2 → Gr F H M F2 H2 M2 → keep M2 → G H2) ∧
    ∀ i x H2 H3 F2 M2 row, rows[i]? = some row → Rl K F2 H2 M2 → Gr F H M F2 H2 M2 → keep M2 → Y i H2 x H3 → Yd K F2 H2 x H3 row pair
theorem ItOk.of {K : PySem.W.Frag} {F H : Hp} {M : Mem} {J : It} {rows : List (List W)} {keep : Mem → Prop} {pair : Bool} {n : Nat} {G : Hp → Prop} {Y : Nat → Hp → V → Hp → Prop} (wk : Walk J n G Y) (hn : rows.length = n)
    (hG : ∀ F2 H2 M2, Rl K F2 H2 M2 → Gr F H M F2 H2 M2 → keep M2 → G H2) (hY : ∀ i x H2 H3 F2 M2 row, rows[i]? = some row → Rl K F2 H2 M2 → Gr F H M F2 H2 M2 → keep M2 → Y i H2 x H3 → Yd K F2 H2 x H3 row pair) : ItOk K F H M J rows keep pair :=
  ⟨G, Y, by rw [hn]; exact wk, hG, hY⟩
abbrev TDI := EnvD → Mem → (List (List W) → (Mem → Prop) → Mem → Prop) → Prop
def SI (K : PySem.W.Frag) (Wx : WX) (RE : REx) (wi : TI) (pair : Bool) (T : TDI) : Prop :=
  ∀ F H M σ ρ (R : List (List W) → (Mem → Prop) → Mem → Prop) (Q : It → Hp → Prop), Rl K F H M → XOk K F H M Wx RE → RelS K F σ ρ → T ρ M R →
    (∀ J H' F' M' rows keep, Rl K F' H' M' → Gr F H M F' H' M' → ItOk K F' H' M' J rows keep pair → R rows keep M' → Q J H') → wi σ H Q
abbrev TDG := List W → EnvD → Mem → (EnvD → Mem → Prop) → Prop
/-- binding a turn's item: the slots vs alone are changed -/
def SG (K : PySem.W.Frag) (g : TG) (pair : Bool) (vs : List Nat) (b : TDG) : Prop :=
  ∀ F H M x H' row σ ρ (R : EnvD → Mem → Prop) (Q : L2.St → Hp → Prop), Rl K F H M → Yd K F H x H' row pair → RelS K F σ ρ → b row ρ M R →
    (∀ σ' H2 F2 M2 ρ', Rl K F2 H2 M2 → Gr F H M F2 H2 M2 → RelS K F2 σ' ρ' → (wipe σ' vs = wipe σ vs) → R ρ' M2 → Q σ' H2) → g x σ H' Q
section
variable {K : PySem.W.Frag} {Wx : WX} {RE : REx}
@[reducible] def any1 : Mem → Prop := fun _ => True
@[reducible] def rows1 (ws : List W) : List (List W) := ws.map fun w => [w]
/-- over a tuple -/
@[reducible] def itTup (T : TDE) : TDI := fun ρ M R => T ρ M fun x M1 => gT x fun ds => R (rows1 (ds.map W.d)) any1 M1
/-- over a list of data -/
@[reducible] def itLst (T : TDE) : TDI := fun ρ M R => T ρ M fun x M1 => match x with
  | .d (.list ds) => R (rows1 (ds.map W.d)) any1 M1
  | .r a => ∃ ws, M1 a = some (.lst ws) ∧ R (rows1 ws) (fun M => M a = some (.lst ws)) M1
  | _ => False
theorem rows1_get {ws : List W} {i : Nat} {row : List W} (h : (rows1 ws)[i]? = some row) : ∃ w, ws[i]? = some w ∧ row = [w] := by
  unfold rows1 at h
  rw [List.getElem?_map] at h
  obtain ⟨w, h1, h2⟩ := Option.map_eq_some_iff.mp h
  exact ⟨w, h1, h2.symm⟩
theorem si_tup {t : TE} {T : TDE} (h : SE K Wx RE t T) : SI K Wx RE (iTup K t) false (itTup T) := fun F H M σ ρ R Q hr hx hs ht k =>
  h F H M σ ρ _ _ hr hx hs ht fun v H1 F1 M1 x r1 g1 rx h1 => by
    obtain ⟨ds, rfl, h2⟩ := gT_of h1
    obtain ⟨a, xs, rfl, h3, h4⟩ := rx.tup
    refine ⟨a, rfl, ⟨xs, same_t r1.fh h3⟩, k _ H1 F1 M1 _ _ r1 g1 ?_ h2⟩
    refine ItOk.of (walk_tup (K := K) (a := a) (xs := xs)) (by unfold rows1; rw [List.length_map, List.length_map, h4.len]) (fun F2 H2 M2 r2 g2 _ => same_t (g2.ff.trans r2.fh) h3) (fun i x H2 H3 F2 M2 row hrow r2 g2 _ y => ?_)
    · obtain ⟨w, hw, rfl⟩ := rows1_get hrow
      rw [List.getElem?_map] at hw
      obtain ⟨d, hd, rfl⟩ := Option.map_eq_some_iff.mp hw
      obtain ⟨v, hv, dv⟩ := h4.got hd
      obtain ⟨rfl, hy⟩ := y
      rw [hv] at hy
      cases hy
      exact ⟨_, rfl, rfl, .d (Dx.mono g2.ff _ _ dv)⟩
theorem si_lst {t : TE} {T : TDE} (h : SE K Wx RE t T) : SI K Wx RE (iList K t) false (itLst T) := fun F H M σ ρ R Q hr hx hs ht k =>
  h F H M σ ρ _ _ hr hx hs ht fun v H1 F1 M1 x r1 g1 rx h1 => by
    cases x with
    | o a => exact h1.elim
    | x a C dd fs => exact h1.elim
    | d a =>
      cases a with
      | list ds =>
        obtain ⟨a, xs, rfl, h3, h4⟩ := rx.lst
        refine ⟨a, rfl, ⟨xs, SqL.of (r1.fh _ _ h3)⟩, k _ H1 F1 M1 _ _ r1 g1 ?_ h1⟩
        refine ItOk.of (walk_list (K := K) (a := a) (xs := xs)) (by unfold rows1; rw [List.length_map, List.length_map, h4.len]) (fun F2 H2 M2 r2 g2 _ => SqL.of ((g2.ff.trans r2.fh) _ _ h3)) (fun i x H2 H3 F2 M2 row hrow r2 g2 _ y => ?_)
        · obtain ⟨w, hw, rfl⟩ := rows1_get hrow
          rw [List.getElem?_map] at hw
          obtain ⟨d, hd, rfl⟩ := Option.map_eq_some_iff.mp hw
          obtain ⟨v, hv, dv⟩ := h4.got hd
          obtain ⟨rfl, hy⟩ := y
          rw [hv] at hy
          cases hy
          exact ⟨_, rfl, rfl, .d (Dx.mono g2.ff _ _ dv)⟩
      | _ => exact h1.elim
    | r a =>
      obtain ⟨ws, hw, h2⟩ := h1
      rw [rx.ref]
      obtain ⟨xs, h3, h4⟩ := r1.lst hw
      refine ⟨a, rfl, ⟨xs, SqL.of h3⟩, k _ H1 F1 M1 _ _ r1 g1 ?_ h2⟩
      refine ⟨fun H => ∃ vs, H a = some (.lst vs) ∧ vs.length = ws.length, fun i H x H' => H' = H ∧ ∀ vs, H a = some (.lst vs) → vs[i]? = some x, ?_, fun F2 H2 M2 r2 g2 hk => ?_, fun i x H2 H3 F2 M2 row hrow r2 g2 hk y => ?_⟩
      · have el : (rows1 ws).length = ws.length := by unfold rows1; rw [List.length_map]
        rw [el]
        refine ⟨fun i H hi ⟨vs, q1, q2⟩ => ⟨vs, vs[i]'(by omega), SqL.of q1, List.getElem?_eq_getElem _⟩, fun H ⟨vs, q1, q2⟩ => ⟨vs, SqL.of q1, by omega⟩, fun i H x H' hi ⟨vs, q1, q2⟩ y => ⟨y.1, fun us hu => y.2 us (SqL.of hu)⟩⟩
      · obtain ⟨vs, q1, q2⟩ := r2.lst hk
        exact ⟨vs, q1, q2.len⟩
      · obtain ⟨w, hw, rfl⟩ := rows1_get hrow
        obtain ⟨vs, q1, q2⟩ := r2.lst hk
        obtain ⟨v, hv, rv⟩ := q2.got hw
        obtain ⟨rfl, hy⟩ := y
        have := hy vs q1
        rw [hv] at this
        cases this
        exact ⟨_, rfl, rfl, rv⟩
/-- over a text -/
def signs (z : Str) : List W := z.cps.toList.map fun c => W.d (.str ⟨#[c]⟩)
@[reducible] def itStr (T : TDE) : TDI := fun ρ M R => T ρ M fun x M1 => gS x fun z => R (rows1 (signs z)) any1 M1
theorem si_str {t : TE} {T : TDE} (h : SE K Wx RE t T) : SI K Wx RE (iStr t) false (itStr T) := fun F H M σ ρ R Q hr hx hs ht k =>
  h F H M σ ρ _ _ hr hx hs ht fun v H1 F1 M1 x r1 g1 rx h1 => by
    obtain ⟨z, rfl, h2⟩ := gS_of h1
    refine ⟨z, rx.str, k _ H1 F1 M1 _ _ r1 g1 ?_ h2⟩
    refine ItOk.of (walk_str (z := z)) (by unfold rows1 signs; rw [List.length_map, List.length_map]; rfl) (fun F2 H2 M2 r2 g2 _ => True.intro) (fun i x H2 H3 F2 M2 row hrow r2 g2 _ y => ?_)
    · obtain ⟨w, hw, rfl⟩ := rows1_get hrow
      unfold signs at hw
      rw [List.getElem?_map] at hw
      obtain ⟨c, hc, rfl⟩ := Option.map_eq_some_iff.mp hw
      obtain ⟨rfl, c', hc', rfl⟩ := y
      rw [Array.getElem?_toList, hc'] at hc
      cases hc
      exact ⟨_, rfl, rfl, .d (.str _)⟩
/-- over a range -/
def rng (lo : Int) (n : Nat) : List W := (List.range n).map fun i => W.d (.int (lo + (i : Nat)))
def rngC (lo c : Int) (n : Nat) : List W := (List.range n).map fun i => W.d (.int (lo + (i : Nat) * c))
/-- small enough for a range -/
def Sm (i : Int) : Prop := -(2 ^ 62) ≤ i ∧ i < 2 ^ 62
theorem sm_of {i : Int} (h1 : -1000000000 ≤ i) (h2 : i ≤ 1000000000) : Sm i := ⟨by omega, by omega⟩
@[reducible] def itR1 (T : TDA) : TDI := fun ρ M R => T ρ M fun xs M1 => g1 xs fun x => gI x fun j => Sm j ∧ R (rows1 (rng 0 j.toNat)) any1 M1
@[reducible] def itR2 (T : TDA) : TDI := fun ρ M R => T ρ M fun xs M1 => g2 xs fun x y => gI x fun i => gI y fun j => (Sm i ∧ Sm j) ∧ R (rows1 (rng i (j - i).toNat)) any1 M1
theorem rng_ok {F H : Hp} {M : Mem} {lo : Int} {n : Nat} : ItOk K F H M (Itr lo n) (rows1 (rng lo n)) any1 false := by
  refine ItOk.of (walk_range (lo := lo) (n := n)) (by unfold rows1 rng; rw [List.length_map, List.length_map, List.length_range]) (fun F2 H2 M2 r2 g2 _ => True.intro) (fun i x H2 H3 F2 M2 row hrow r2 g2 _ y => ?_)
  · obtain ⟨w, hw, rfl⟩ := rows1_get hrow
    unfold rng at hw
    rw [List.getElem?_map] at hw
    obtain ⟨c, hc, rfl⟩ := Option.map_eq_some_iff.mp hw
    have e : c = i := by
      obtain ⟨h1, h2⟩ := List.getElem?_eq_some_iff.mp hc
      rw [← h2]
      simp
    subst e
    obtain ⟨rfl, rfl⟩ := y
    exact ⟨_, rfl, rfl, .d (.int _)⟩
theorem si_r1 {t : TA} {T : TDA} {n : Nat} (h : SAn K Wx RE n t T) : SI K Wx RE (iRng1 t) false (itR1 T) := fun F H M σ ρ R Q hr hx hs ht k =>
  h F H M σ ρ _ _ hr hx hs ht fun vs H1 F1 M1 xs r1 g1 rxs hl h1 => by
    obtain ⟨x, rfl, h2⟩ := g1_of h1
    obtain ⟨j, rfl, ⟨c1, c2⟩, h3⟩ := gI_of h2
    obtain ⟨v, rfl, rv⟩ := rxs.one
    exact ⟨j, by rw [rv.int], c1, c2, k _ H1 F1 M1 _ _ r1 g1 rng_ok h3⟩
theorem si_r2 {t : TA} {T : TDA} {n : Nat} (h : SAn K Wx RE n t T) : SI K Wx RE (iRng2 t) false (itR2 T) := fun F H M σ ρ R Q hr hx hs ht k =>
  h F H M σ ρ _ _ hr hx hs ht fun vs H1 F1 M1 xs r1 g1 rxs hl h1 => by
    obtain ⟨x, y, rfl, h2⟩ := g2_of h1
    obtain ⟨i, rfl, h3⟩ := gI_of h2
    obtain ⟨j, rfl, c, h4⟩ := gI_of h3
    obtain ⟨v, u, rfl, rv, ru⟩ := rxs.two
    exact ⟨i, j, by rw [rv.int, ru.int], ⟨c.1.1, c.1.2, c.2.1, c.2.2⟩, k _ H1 F1 M1 _ _ r1 g1 rng_ok h4⟩
/-- enumerate(..) -/
def enumR (n : Nat) : List W → List (List W)
  | [] => []
  | w :: r => [.d (.int (n : Nat)), w] :: enumR (n + 1) r
theorem enumR_len : ∀ (n : Nat) (ws : List W), (enumR n ws).length = ws.length
  | _, [] => rfl
  | n, w :: r => by rw [enumR, List.length_cons, enumR_len (n + 1) r, List.length_cons]
theorem enumR_get : ∀ {n : Nat} {ws : List W} {i : Nat} {row : List W}, (enumR n ws)[i]? = some row → ∃ w, ws[i]? = some w ∧ row = [.d (.int ((n + i : Nat) : Int)), w]
  | _, [], _, _, h => by simp [enumR] at h
  | n, w :: r, 0, row, h => ⟨w, rfl, by simp [enumR] at h; exact h.symm⟩
  | n, w :: r, i + 1, row, h => by
    obtain ⟨w', h1, h2⟩ := enumR_get (n := n + 1) (ws := r) (i := i) (row := row) (by simpa [enumR] using h)
    exact ⟨w', by simpa using h1, by rw [h2, show n + 1 + i = n + (i + 1) by omega]⟩
@[reducible] def itEnT (T : TDA) : TDI := fun ρ M R => T ρ M fun xs M1 => g1 xs fun x => gT x fun ds => R (enumR 0 (ds.map W.d)) any1 M1
@[reducible] def itEnL (T : TDA) : TDI := fun ρ M R => T ρ M fun xs M1 => g1 xs fun x => match x with
  | .d (.list ds) => R (enumR 0 (ds.map W.d)) any1 M1
  | .r a => ∃ ws, M1 a = some (.lst ws) ∧ R (enumR 0 ws) (fun M => M a = some (.lst ws)) M1
  | _ => False
theorem si_enT {n : Nat} {t : TA} {T : TDA} (h : SAn K Wx RE n t T) : SI K Wx RE (iEnumT K t) true (itEnT T) := fun F H M σ ρ R Q hr hx hs ht k =>
  h F H M σ ρ _ _ hr hx hs ht fun vs H1 F1 M1 xs r1 g1 rxs hl h1 => by
    obtain ⟨x, rfl, h2⟩ := g1_of h1
    obtain ⟨v, rfl, rx⟩ := rxs.one
    obtain ⟨ds, rfl, h5⟩ := gT_of h2
    obtain ⟨a, xs, rfl, h3, h4⟩ := rx.tup
    refine ⟨a, xs, rfl, same_t r1.fh h3, k _ H1 F1 M1 _ _ r1 g1 ?_ h5⟩
    refine ItOk.of (walk_enumT (K := K) (a := a) (xs := xs)) (by rw [enumR_len, List.length_map, ← h4.len]) (fun F2 H2 M2 r2 g2 _ => same_t (g2.ff.trans r2.fh) h3) (fun i x H2 H3 F2 M2 row hrow r2 g2 _ y => ?_)
    · obtain ⟨w, hw, rfl⟩ := enumR_get hrow
      rw [List.getElem?_map] at hw
      obtain ⟨d, hd, rfl⟩ := Option.map_eq_some_iff.mp hw
      obtain ⟨v, hv, dv⟩ := h4.got hd
      obtain ⟨T', x', rfl, hT, rfl, hy⟩ := y
      rw [hv] at hy
      cases hy
      refine ⟨T', _, _, _, _, rfl, rfl, hT, rfl, ?_, .d (Dx.mono g2.ff _ _ dv)⟩
      rw [Nat.zero_add]
      exact .d (.int _)
theorem si_enL {n : Nat} {t : TA} {T : TDA} (h : SAn K Wx RE n t T) : SI K Wx RE (iEnum K t) true (itEnL T) := fun F H M σ ρ R Q hr hx hs ht k =>
  h F H M σ ρ _ _ hr hx hs ht fun vs H1 F1 M1 xs r1 g1 rxs hl h1 => by
    obtain ⟨x, rfl, h2⟩ := g1_of h1
    obtain ⟨v, rfl, rx⟩ := rxs.one
    have wk : ∀ (a : Addr) (n : Nat), Walk (Ite K a) n (fun H => ∃ vs, H a = some (.lst vs) ∧ vs.length = n) (fun i H v H' => ∃ T x, v = .ref T ∧ H T = none ∧ H' = upd H T (.tup [.int (i : Nat), x]) ∧ ∀ vs, H a = some (.lst vs) → vs[i]? = some x) := fun a n =>
      ⟨fun i H hi ⟨vs, q1, q2⟩ => ⟨vs, vs[i]'(by omega), SqL.of q1, List.getElem?_eq_getElem _⟩, fun H ⟨vs, q1, q2⟩ => ⟨vs, SqL.of q1, by omega⟩, fun i H x H' hi ⟨vs, q1, q2⟩ y => by
        obtain ⟨T, x', e1, e2, e3, e4⟩ := y
        exact ⟨T, x', e1, e2, e3, fun us hu => e4 us (SqL.of hu)⟩⟩
    cases x with
    | o a => exact h2.elim
    | x a C dd fs => exact h2.elim
    | d a =>
      cases a with
      | list ds =>
        obtain ⟨a, xs, rfl, h3, h4⟩ := rx.lst
        refine ⟨a, xs, rfl, SqL.of (r1.fh _ _ h3), k _ H1 F1 M1 _ _ r1 g1 ?_ h2⟩
        refine ItOk.of (wk a ds.length) (by rw [enumR_len, List.length_map]) (fun F2 H2 M2 r2 g2 _ => ⟨xs, (g2.ff.trans r2.fh) _ _ h3, h4.len⟩) (fun i x H2 H3 F2 M2 row hrow r2 g2 _ y => ?_)
        obtain ⟨w, hw, rfl⟩ := enumR_get hrow
        rw [List.getElem?_map] at hw
        obtain ⟨d, hd, rfl⟩ := Option.map_eq_some_iff.mp hw
        obtain ⟨v, hv, dv⟩ := h4.got hd
        obtain ⟨T', x', rfl, hT, rfl, hy⟩ := y
        have := hy xs ((g2.ff.trans r2.fh) _ _ h3)
        rw [hv] at this
        cases this
        refine ⟨T', _, _, _, _, rfl, rfl, hT, rfl, ?_, .d (Dx.mono g2.ff _ _ dv)⟩
        rw [Nat.zero_add]
        exact .d (.int _)
      | _ => exact h2.elim
    | r a =>
      obtain ⟨ws, hw, h3⟩ := h2
      rw [rx.ref]
      obtain ⟨xs, h4, h5⟩ := r1.lst hw
      refine ⟨a, xs, rfl, SqL.of h4, k _ H1 F1 M1 _ _ r1 g1 ?_ h3⟩
      refine ItOk.of (wk a ws.length) (by rw [enumR_len]) (fun F2 H2 M2 r2 g2 hk => ?_) (fun i x H2 H3 F2 M2 row hrow r2 g2 hk y => ?_)
      · obtain ⟨vs, q1, q2⟩ := r2.lst hk
        exact ⟨vs, q1, q2.len⟩
      · obtain ⟨w, hw, rfl⟩ := enumR_get hrow
        obtain ⟨vs, q1, q2⟩ := r2.lst hk
        obtain ⟨v, hv, rv⟩ := q2.got hw
        obtain ⟨T', x', rfl, hT, rfl, hy⟩ := y
        have := hy vs q1
        rw [hv] at this
        cases this
        refine ⟨T', _, _, _, _, rfl, rfl, hT, rfl, ?_, rv⟩
        rw [Nat.zero_add]
        exact .d (.int _)
/-! ### binding -/
@[reducible] def bName (i : Nat) : TDG := fun row ρ M R => match row with | [w] => R (put ρ i (some w)) M | _ => False
theorem sg_name {i : Nat} : SG K (gName i) false [i] (bName i) := fun F H M x H' row σ ρ R Q hr hy hs hb k => by
  obtain ⟨w, rfl, rfl, rx⟩ := hy
  refine k _ _ F M _ hr .refl (hs.set rx i) ?_ hb
  show (σ.set i (some x)).set i none = σ.set i none
  rw [List.set_set]
/-- a pair that is made for the turn -/
@[reducible] def bPair (i j : Nat) : TDG := fun row ρ M R => match row with | [w1, w2] => R (put (put ρ i (some w1)) j (some w2)) M | _ => False
theorem wipe2 {σ : L2.St} {i j : Nat} {a b : Option V} : wipe ((σ.set i a).set j b) [i, j] = wipe σ [i, j] := by
  show (((σ.set i a).set j b).set j none).set i none = (σ.set j none).set i none
  rw [List.set_set]
  by_cases h : i = j
  · subst h
    rw [List.set_set, List.set_set, List.set_set]
  · rw [List.set_comm _ _ h, List.set_set]
theorem sg_pair {i j : Nat} : SG K (gTup K 2 (gCons (gName i) (gCons (gName j) gNil))) true [i, j] (bPair i j) := fun F H M x H' row σ ρ R Q hr hy hs hb k => by
  obtain ⟨T, v1, v2, w1, w2, rfl, rfl, hT, rfl, q1, q2⟩ := hy
  obtain ⟨r2, g2⟩ := hr.same (same_new (o := .tup [v1, v2]) hT)
  refine ⟨T, [v1, v2], rfl, .inl (.inl upd_same), rfl, v1, [v2], rfl, v2, [], rfl, rfl, ?_⟩
  exact k _ _ F M _ r2 g2 ((hs.set q1 i).set q2 j) wipe2 hb
/-! ### list comprehensions -/
/-- one after another; behind all the new list -/
def lcGo (b : TDG) (keep : Mem → Prop) (tt : TDT) (te : TDE) (ρ : EnvD) (fin : List W → Mem → Prop) : List (List W) → List W → Mem → Prop
  | [], acc, M => keep M ∧ fin acc M
  | row :: rest, acc, M => keep M ∧ b row ρ M fun ρ1 M1 => tt ρ1 M1 fun c M2 => IfB c (te ρ1 M2 fun y M3 => acc.length < sizeLine ∧ lcGo b keep tt te ρ fin rest (acc ++ [y]) M3) (lcGo b keep tt te ρ fin rest acc M2)
theorem wipe_wipe : ∀ (vs : List Nat) (σ : L2.St), vs.length ≤ 2 → wipe (wipe σ vs) vs = wipe σ vs
  | [], σ, _ => rfl
  | [a], σ, _ => by
    show (σ.set a none).set a none = σ.set a none
    rw [List.set_set]
  | [a, b], σ, _ => by
    show (((σ.set b none).set a none).set b none).set a none = (σ.set b none).set a none
    by_cases h : a = b
    · subst h
      rw [List.set_set, List.set_set, List.set_set]
    · rw [List.set_comm _ _ h, List.set_set, List.set_set]
  | _ :: _ :: _ :: _, _, h => by simp at h
theorem RelS.wipe {F : Hp} {σ : L2.St} {ρ : EnvD} (h : RelS K F σ ρ) : ∀ (vs : List Nat), (∀ i ∈ vs, slot ρ i = none) → RelS K F (L2.wipe σ vs) ρ
  | [], _ => h
  | v :: vs, hn => by
    have ih := h.wipe vs fun i hi => hn i (.tail _ hi)
    refine ⟨by rw [wipe_length]; exact h.len, fun i x c => ?_⟩
    obtain ⟨u, h1, h2⟩ := ih.at_ i x c
    refine ⟨u, ?_, h2⟩
    show ((L2.wipe σ vs).set v none)[i]? = _
    rw [List.getElem?_set_ne fun z => by rw [z] at hn; have := hn i (.head _); rw [c] at this; cases this]
    exact h1
/-- the slots of a comprehension's own names forgotten -/
@[reducible] def hide (ρ : EnvD) : List Nat → EnvD
  | [] => ρ
  | v :: vs => put (hide ρ vs) v none
theorem hide_rel {F : Hp} {σ : L2.St} {ρ : EnvD} (h : RelS K F σ ρ) : ∀ vs, RelS K F (L2.wipe σ vs) (hide ρ vs)
  | [] => h
  | v :: vs => (hide_rel h vs).del v none
theorem lc_core {wi : TI} {g : TG} {tt : TT} {te : TE} {vs : List Nat} {pair : Bool} {it : TDI} {b : TDG} {Tt : TDT} {Te : TDE} (hi : SI K Wx RE wi pair it) (hg : SG K g pair vs b) (ht : ST K (fun _ _ _ _ => False) (fun _ _ _ => False) tt Tt) (he : SE K (fun _ _ _ _ => False) (fun _ _ _ => False) te Te) (hv : vs.length ≤ 2)
    (fin : (W → Mem → Prop) → List W → Mem → Prop)
    (hf : ∀ F H M R Q D acc vl, Rl K F H M → H D = some (.lst vl) → F D = none → M D = none → RWs K F vl acc → fin R acc M → (∀ F0 H0 M0, Gr F0 H0 M0 F H M → H0 D = none → Kt K F0 H0 M0 R Q → Q (.ref D) H)) :
    SE K Wx RE (tLc wi g tt te vs) (fun ρ M R => it ρ M fun rows keep M1 => lcGo b keep Tt Te (hide ρ vs) (fin R) rows [] M1) := fun F H M σ ρ R Q hr hx hs hT k =>
  hi F H M σ ρ _ _ hr hx hs hT fun J H1 F1 M1 rows keep r1 g1 iok h1 D hD => by
    obtain ⟨G, Y, wk, hG, hY⟩ := iok
    have x0 : ∀ (F H : Hp) (M : Mem), XOk K F H M (fun _ _ _ _ => False) (fun _ _ _ => False) := fun F H M F' H' M' σ ρ cls d x _ _ _ _ z => z
    refine lc_it wk (fun i H2 => ∃ F2 M2 acc vl, Rl K F2 H2 M2 ∧ Gr F1 H1 M1 F2 H2 M2 ∧ H2 D = some (.lst vl) ∧ F2 D = none ∧ M2 D = none ∧ RWs K F2 vl acc ∧ lcGo b keep Tt Te (hide ρ vs) (fin R) (rows.drop i) acc M2)
      ⟨F1, M1, [], [], (r1.hid (r1.fh.free hD) (r1.new hD)), ⟨Same.refl _, fun c u q n => ⟨by rw [upd_ne (ne_of_none q hD)]; exact q, n⟩, fun _ _ _ _ f => f⟩, upd_same, r1.fh.free hD, r1.new hD, .nil, h1⟩
      (fun i H2 hi2 ⟨F2, M2, acc, vl, r2, g2, d1, d2, d3, d4, q⟩ => ?_) (fun i x H2 H3 hi2 ⟨F2, M2, acc, vl, r2, g2, d1, d2, d3, d4, q⟩ y => ?_) (fun H2 ⟨F2, M2, acc, vl, r2, g2, d1, d2, d3, d4, q⟩ => ?_)
    · have hk : keep M2 := by
        cases hd : rows.drop i with
        | nil => rw [hd] at q; exact q.1
        | cons a b => rw [hd] at q; exact q.1
      exact hG F2 H2 M2 r2 g2 hk
    · rw [List.drop_eq_getElem_cons hi2] at q
      obtain ⟨hk, q⟩ := q
      have hrow : rows[i]? = some rows[i] := List.getElem?_eq_getElem hi2
      have yd := hY i x H2 H3 F2 M2 _ hrow r2 g2 hk y
      have rel := (hs.mono (g1.trans g2).ff)
      refine hg F2 H2 M2 x H3 _ (wipe σ vs) (hide ρ vs) _ _ r2 yd (hide_rel rel vs) q fun σ4 H4 F4 M4 ρ4 r4 g4 s4 w4 q4 => ⟨by rw [w4]; exact wipe_wipe vs σ hv, ?_⟩
      have D4 : H4 D = some (.lst vl) ∧ M4 D = none := g4.un D _ d1 d3
      have F4D : F4 D = none := g4.nf D _ d1 d3 d2
      refine ht F4 H4 M4 σ4 ρ4 _ _ r4 (x0 _ _ _) s4 q4 fun c H5 F5 M5 r5 g5 q5 => ?_
      have D5 := g5.un D _ D4.1 D4.2
      have F5D := g5.nf D _ D4.1 D4.2 F4D
      have q5 := q5.ite
      by_cases hc : c = true
      · rw [if_pos hc] at q5 ⊢
        refine he F5 H5 M5 σ4 ρ4 _ _ r5 (x0 _ _ _) (s4.mono g5.ff) q5 fun v6 H6 F6 M6 z6 r6 g6 rz6 q6 => ?_
        have D6 := g6.un D _ D5.1 D5.2
        have F6D := g6.nf D _ D5.1 D5.2 F5D
        have gg := ((g4.trans g5).trans g6)
        refine ⟨vl, D6.1, by rw [d4.len]; exact q6.1, F6, M6, acc ++ [z6], vl ++ [v6], r6.hid F6D D6.2, ?_, upd_same, F6D, D6.2, (d4.mono gg.ff).app (.cons rz6 .nil), q6.2⟩
        have g7 := g2.trans gg
        refine ⟨g7.ff, fun c u q n => ?_, g7.nf⟩
        have z : c ≠ D := ne_of_none q hD
        rw [upd_ne z]
        exact g7.un c u q n
      · rw [if_neg hc] at q5 ⊢
        exact ⟨F5, M5, acc, vl, r5, (g2.trans (g4.trans g5)), D5.1, F5D, D5.2, d4.mono (g4.trans g5).ff, q5⟩
    · rw [List.drop_length] at q
      exact hf F2 H2 M2 R Q D acc vl r2 d1 d2 d3 d4 q.2 F1 H1 M1 g2 hD fun v H' F' M' x a b c d => k v H' F' M' x a (g1.trans b) c d
/-- a list that is data -/
@[reducible] def lcF (it : TDI) (b : TDG) (tt : TDT) (te : TDE) (vs : List Nat) : TDE := fun ρ M R => it ρ M fun rows keep M1 => lcGo b keep tt te (hide ρ vs) (fun acc M2 => gDs acc fun ds => R (.d (.list ds)) M2) rows [] M1
/-- a list that may change -/
@[reducible] def lcL (it : TDI) (b : TDG) (tt : TDT) (te : TDE) (vs : List Nat) : TDE := fun ρ M R => it ρ M fun rows keep M1 => lcGo b keep tt te (hide ρ vs) (fun acc M2 => ∀ p, M2 p = none → R (.r p) (mset M2 p (.lst acc))) rows [] M1
theorem se_lcF {wi : TI} {g : TG} {tt : TT} {te : TE} {vs : List Nat} {pair : Bool} {it : TDI} {b : TDG} {Tt : TDT} {Te : TDE} (hi : SI K Wx RE wi pair it) (hg : SG K g pair vs b) (ht : ST K (fun _ _ _ _ => False) (fun _ _ _ => False) tt Tt) (he : SE K (fun _ _ _ _ => False) (fun _ _ _ => False) te Te) (hv : vs.length ≤ 2 := by decide) :
    SE K Wx RE (tLc wi g tt te vs) (lcF it b Tt Te vs) :=
  lc_core hi hg ht he hv (fun R acc M2 => gDs acc fun ds => R (.d (.list ds)) M2) fun F H M R Q D acc vl hr h1 h2 h3 h4 hq F0 H0 M0 g hD k => by
    obtain ⟨ds, rfl, h5⟩ := gDs_of hq
    have e : Same F (upd F D (.lst vl)) := same_new h2
    have r' : Rl K (upd F D (.lst vl)) H M := by
      refine ⟨fun b u q => ?_, fun a o c => ?_, fun a o c => ?_⟩
      · by_cases z : b = D
        · subst z
          rw [upd_same] at q
          rw [h1]
          exact q
        · rw [upd_ne z] at q
          exact hr.fh b u q
      · rw [upd_ne (fun z => by rw [z, h3] at c; cases c)]
        exact hr.mf a o c
      · obtain ⟨u, q1, q2⟩ := hr.at_ a o c
        exact ⟨u, q1, q2.mono e⟩
    refine k _ H _ M _ r' ⟨g.ff.trans e, g.un, fun b u q n f => ?_⟩ (.d (.lst upd_same (DxL.mono e _ _ h4.undat))) h5
    rw [upd_ne (ne_of_none q hD)]
    exact g.nf b u q n f
theorem se_lcL {wi : TI} {g : TG} {tt : TT} {te : TE} {vs : List Nat} {pair : Bool} {it : TDI} {b : TDG} {Tt : TDT} {Te : TDE} (hi : SI K Wx RE wi pair it) (hg : SG K g pair vs b) (ht : ST K (fun _ _ _ _ => False) (fun _ _ _ => False) tt Tt) (he : SE K (fun _ _ _ _ => False) (fun _ _ _ => False) te Te) (hv : vs.length ≤ 2 := by decide) :
    SE K Wx RE (tLc wi g tt te vs) (lcL it b Tt Te vs) :=
  lc_core hi hg ht he hv (fun R acc M2 => ∀ p, M2 p = none → R (.r p) (mset M2 p (.lst acc))) fun F H M R Q D acc vl hr h1 h2 h3 h4 hq F0 H0 M0 g hD k => by
    have r' : Rl K F H (mset M D (.lst acc)) := by
      refine ⟨hr.fh, fun a o c => ?_, fun a o c => ?_⟩
      · by_cases z : a = D
        · rw [z]; exact h2
        · rw [mset_ne z] at c; exact hr.mf a o c
      · by_cases z : a = D
        · subst z
          rw [mset_same] at c
          cases c
          exact ⟨_, h1, vl, rfl, h4⟩
        · rw [mset_ne z] at c; exact hr.at_ a o c
    refine k _ H _ _ _ r' ⟨g.ff, fun b u q n => ?_, g.nf⟩ (.r D) (hq D h3)
    rw [mset_ne (ne_of_none q hD)]
    exact g.un b u q n
end
end Tl
set_option Elab.async false
set_option linter.all false
set_option maxRecDepth 100000
set_option maxHeartbeats 4000000
namespace Tl
open PySem L2
/-! ### statements -/
structure EndD where
  nx : EnvD → Mem → Prop
  rt : W → Mem → Prop
  bk : EnvD → Mem → Prop := fun _ _ => False
  ct : EnvD → Mem → Prop := fun _ _ => False
abbrev TDS := EndD → EnvD → Mem → Prop
abbrev Nk (K : PySem.W.Frag) (F H : Hp) (M : Mem) (R : EnvD → Mem → Prop) (Q : L2.St → Hp → Prop) : Prop := ∀ σ' H' F' M' ρ', Rl K F' H' M' → Gr F H M F' H' M' → RelS K F' σ' ρ' → R ρ' M' → Q σ' H'
structure EK (K : PySem.W.Frag) (F H : Hp) (M : Mem) (D : EndD) (E : Ends) : Prop where
  nx : Nk K F H M D.nx E.nx
  rt : Kt K F H M D.rt E.rt
  bk : Nk K F H M D.bk E.bk
  ct : Nk K F H M D.ct E.ct
theorem EK.mono {K : PySem.W.Frag} {F H F' H' : Hp} {M M' : Mem} {D : EndD} {E : Ends} (k : EK K F H M D E) (g : Gr F H M F' H' M') : EK K F' H' M' D E :=
  ⟨fun σ H2 F2 M2 ρ r g2 => k.nx σ H2 F2 M2 ρ r (g.trans g2), fun v H2 F2 M2 x r g2 => k.rt v H2 F2 M2 x r (g.trans g2), fun σ H2 F2 M2 ρ r g2 => k.bk σ H2 F2 M2 ρ r (g.trans g2), fun σ H2 F2 M2 ρ r g2 => k.ct σ H2 F2 M2 ρ r (g.trans g2)⟩
def SSt (K : PySem.W.Frag) (Wx : WX) (RE : REx) (t : TS) (T : TDS) : Prop :=
  ∀ F H M σ ρ D E, Rl K F H M → XOk K F H M Wx RE → RelS K F σ ρ → T D ρ M → EK K F H M D E → t E σ H
section
variable {K : PySem.W.Frag} {Wx : WX} {RE : REx}
@[reducible] def nextS : TDS := fun D ρ M => D.nx ρ M
@[reducible] def seqS (T U : TDS) : TDS := fun D ρ M => T { D with nx := U D } ρ M
@[reducible] def retS (T : TDE) : TDS := fun D ρ M => T ρ M D.rt
@[reducible] def dropS (T : TDE) : TDS := fun D ρ M => T ρ M fun _ M1 => D.nx ρ M1
@[reducible] def ifS (c : TDT) (T U : TDS) : TDS := fun D ρ M => c ρ M fun b M1 => IfB b (T D ρ M1) (U D ρ M1)
@[reducible] def setS (i : Nat) (T : TDE) : TDS := fun D ρ M => T ρ M fun x M1 => D.nx (put ρ i (some x)) M1
theorem ss_nil : SSt K Wx RE tNext nextS := fun F H M σ ρ D E hr hx hs ht k => k.nx σ H F M ρ hr .refl hs ht
theorem ss_cons {t u : TS} {T U : TDS} (h1 : SSt K Wx RE t T) (h2 : SSt K Wx RE u U) : SSt K Wx RE (tSeq t u) (seqS T U) := fun F H M σ ρ D E hr hx hs ht k =>
  h1 F H M σ ρ { D with nx := U D } { E with nx := u E } hr hx hs ht ⟨fun σ' H' F' M' ρ' r g s q => h2 F' H' M' σ' ρ' D E r (hx.mono g) s q (k.mono g), k.rt, k.bk, k.ct⟩
/-- as seqS, where a cut is made -/
def seqC (T U : TDS) : TDS := seqS T U
theorem ss_cut {t u : TS} {T U : TDS} (h1 : SSt K Wx RE t T) (h2 : SSt K Wx RE u U) : SSt K Wx RE (tSeq t u) (seqC T U) := by unfold seqC; exact ss_cons h1 h2
theorem seq_cut {T U : TDS} {D : EndD} {ρ : EnvD} {M : Mem} (C : EnvD → Mem → Prop) (h1 : ∀ N : EnvD → Mem → Prop, (∀ ρ' M', C ρ' M' → N ρ' M') → T { D with nx := N } ρ M) (h2 : ∀ ρ' M', C ρ' M' → U D ρ' M') : seqC T U D ρ M := by unfold seqC; exact h1 _ h2
theorem ss_ret {t : TE} {T : TDE} (h : SE K Wx RE t T) : SSt K Wx RE (tRet t) (retS T) := fun F H M σ ρ D E hr hx hs ht k => h F H M σ ρ _ _ hr hx hs ht k.rt
theorem ss_drop {t : TE} {T : TDE} (h : SE K Wx RE t T) : SSt K Wx RE (tDrop t) (dropS T) := fun F H M σ ρ D E hr hx hs ht k =>
  h F H M σ ρ _ _ hr hx hs ht fun v H1 F1 M1 x r1 g1 rx h1 => k.nx σ H1 F1 M1 ρ r1 g1 (hs.mono g1.ff) h1
theorem ss_if {c : TT} {t u : TS} {C : TDT} {T U : TDS} (hc : ST K Wx RE c C) (h1 : SSt K Wx RE t T) (h2 : SSt K Wx RE u U) : SSt K Wx RE (tIfS c t u) (ifS C T U) := fun F H M σ ρ D E hr hx hs ht k =>
  hc F H M σ ρ _ _ hr hx hs ht fun b H1 F1 M1 r1 g1 q1 => by
    have q1 := q1.ite
    by_cases hb : b = true
    · rw [if_pos hb] at q1 ⊢
      exact h1 F1 H1 M1 σ ρ D E r1 (hx.mono g1) (hs.mono g1.ff) q1 (k.mono g1)
    · rw [if_neg hb] at q1 ⊢
      exact h2 F1 H1 M1 σ ρ D E r1 (hx.mono g1) (hs.mono g1.ff) q1 (k.mono g1)
theorem ss_set {i : Nat} {t : TE} {T : TDE} (h : SE K Wx RE t T) : SSt K Wx RE (tAsg t (gName i)) (setS i T) := fun F H M σ ρ D E hr hx hs ht k =>
  h F H M σ ρ _ _ hr hx hs ht fun v H1 F1 M1 x r1 g1 rx h1 => k.nx _ H1 F1 M1 _ r1 g1 ((hs.mono g1.ff).set rx i) h1
/-- for -/
def forGo (b : TDG) (keep : Mem → Prop) (body : TDS) (D : EndD) : List (List W) → EnvD → Mem → Prop
  | [], ρ, M => keep M ∧ D.nx ρ M
  | row :: rest, ρ, M => keep M ∧ b row ρ M fun ρ1 M1 => body ⟨forGo b keep body D rest, D.rt, D.nx, forGo b keep body D rest⟩ ρ1 M1
@[reducible] def forS (it : TDI) (b : TDG) (body : TDS) : TDS := fun D ρ M => it ρ M fun rows keep M1 => forGo b keep body D rows ρ M1
theorem ss_for {wi : TI} {g : TG} {tb : TS} {pair : Bool} {vs : List Nat} {it : TDI} {b : TDG} {Tb : TDS} (hi : SI K Wx RE wi pair it) (hg : SG K g pair vs b) (hb : SSt K Wx RE tb Tb) : SSt K Wx RE (tFor wi g tb) (forS it b Tb) := fun F H M σ ρ D E hr hx hs ht k =>
  hi F H M σ ρ _ _ hr hx hs ht fun J H1 F1 M1 rows keep r1 g1 iok h1 => by
    obtain ⟨G, Y, wk, hG, hY⟩ := iok
    refine for_it wk (fun i σ2 H2 => ∃ F2 M2 ρ2, Rl K F2 H2 M2 ∧ Gr F1 H1 M1 F2 H2 M2 ∧ RelS K F2 σ2 ρ2 ∧ forGo b keep Tb D (rows.drop i) ρ2 M2)
      ⟨F1, M1, ρ, r1, .refl, hs.mono g1.ff, h1⟩ (fun i σ2 H2 hi2 ⟨F2, M2, ρ2, r2, g2, s2, q⟩ => ?_) (fun i x σ2 H2 H3 hi2 ⟨F2, M2, ρ2, r2, g2, s2, q⟩ y => ?_) (fun σ2 H2 ⟨F2, M2, ρ2, r2, g2, s2, q⟩ => ?_)
    · have hk : keep M2 := by
        cases hd : rows.drop i with
        | nil => rw [hd] at q; exact q.1
        | cons a b => rw [hd] at q; exact q.1
      exact hG F2 H2 M2 r2 g2 hk
    · rw [List.drop_eq_getElem_cons hi2] at q
      obtain ⟨hk, q⟩ := q
      have yd := hY i x H2 H3 F2 M2 _ (List.getElem?_eq_getElem hi2) r2 g2 hk y
      refine hg F2 H2 M2 x H3 _ σ2 ρ2 _ _ r2 yd s2 q fun σ4 H4 F4 M4 ρ4 r4 g4 s4 _ q4 => ?_
      have gg := g2.trans g4
      refine hb F4 H4 M4 σ4 ρ4 _ _ r4 (hx.mono (g1.trans gg)) s4 q4 ⟨fun σ5 H5 F5 M5 ρ5 r5 g5 s5 q5 => ⟨F5, M5, ρ5, r5, gg.trans g5, s5, q5⟩, fun v H5 F5 M5 x5 r5 g5 => k.rt v H5 F5 M5 x5 r5 ((g1.trans gg).trans g5), fun σ5 H5 F5 M5 ρ5 r5 g5 => k.nx σ5 H5 F5 M5 ρ5 r5 ((g1.trans gg).trans g5), fun σ5 H5 F5 M5 ρ5 r5 g5 s5 q5 => ⟨F5, M5, ρ5, r5, gg.trans g5, s5, q5⟩⟩
    · rw [List.drop_length] at q
      exact k.nx σ2 H2 F2 M2 ρ2 r2 (g1.trans g2) s2 q.2
/-- raise -/
@[reducible] def raiseS (RE : REx) (x : Ex) : TDS := fun _ ρ M => RE x ρ M
theorem ss_raise0 {C : Addr} : SSt K Wx RE (fun _ σ H => (fun _ H Q => Q (.ref C) none H : L2.St → Hp → XK → Prop) σ H fun cls d H' => Wx cls d σ H') (raiseS RE ⟨.ref C, []⟩) := fun F H M σ ρ D E hr hx hs ht k =>
  hx F H M σ ρ _ _ ⟨.ref C, []⟩ .refl hr hs ⟨rfl, rfl⟩ ht
end
/-! ### defs -/
section
variable {P : Program} {w : World} {K : PySem.W.Frag} {mg : Str → Option Value} {base : Heap}
/-- the slots as a def begins -/
@[reducible] def start0 (n : Nat) (ws : List W) : EnvD := ws.map some ++ List.replicate (n - ws.length) none
theorem slot_rep (m i : Nat) : slot (List.replicate m none) i = none := by
  induction m generalizing i with
  | zero => rfl
  | succ m ih =>
    rw [List.replicate_succ]
    cases i with
    | zero => rfl
    | succ i => exact ih i
theorem slot_start : ∀ {ws : List W} {m i : Nat} {x : W}, slot (ws.map some ++ List.replicate m none) i = some x → ws[i]? = some x
  | [], m, i, x, h => by
    rw [List.map_nil, List.nil_append, slot_rep] at h
    cases h
  | w :: ws, m, 0, x, h => h
  | w :: ws, m, i + 1, x, h => by
    have := slot_start (ws := ws) (m := m) (i := i) h
    simpa using this
theorem rel_start {F : Hp} {N : List Str} {vs : List V} {ws : List W} (r : RWs K F vs ws) : RelS K F (L2.start N vs) (start0 N.length ws) := by
  refine ⟨?_, fun i x c => ?_⟩
  · unfold L2.start start0
    rw [List.length_append, List.length_append, List.length_map, List.length_map, List.length_replicate, List.length_replicate, r.len]
  · obtain ⟨v, h1, h2⟩ := r.got (slot_start c)
    refine ⟨v, ?_, h2⟩
    unfold L2.start
    rw [List.getElem?_append_left (by rw [List.length_map]; exact (List.getElem?_eq_some_iff.mp h1).1), List.getElem?_map, h1]
    rfl
/-- what is wanted behind a def -/
abbrev endD (R : W → Mem → Prop) : EndD := ⟨fun _ M => R (.d .none) M, R, fun _ _ => False, fun _ _ => False⟩
theorem ek_def {F H : Hp} {M : Mem} {R : W → Mem → Prop} {Q : VK} (k : Kt K F H M R Q) : EK K F H M (endD R) { nx := fun _ H' => Q .non H', rt := Q } :=
  ⟨fun σ H' F' M' ρ r g s q => k _ H' F' M' _ r g (.d .non) q, k, fun _ _ _ _ _ _ _ _ z => z.elim, fun _ _ _ _ _ _ _ _ z => z.elim⟩
/-- a def that lets nothing out -/
theorem okD {f : Addr} {fd : FuncData} {k n : Nat} {x qual : Str} {st : Stmt} {N ps : List Str} {tf : TF} (F : Fun K x qual st f fd) (S : FnScope N ps (defScope st)) (hp : ps.length = n)
    (hb : ∀ (cdv : Value) (A : Around) (outer : List Env) (s : Shared) (H : Hp) (E : XK), Room k (A.deeper (PyProof.Rows.envOfC qual (defScope st) s.heap.objs.size f cdv)) →
      ∃ (t : TS) (T : TDS), PSs (cxOf CX0 P w K mg base N qual (defScope st) f cdv A outer s H E).nox (defBody st) t ∧ SSt K (fun _ _ _ _ => False) (fun _ _ _ => False) t T ∧
        ∀ ws M R RX, ws.length = n → tf ws M R RX → T (endD R) (start0 N.length ws) M) : FnOk P w K mg base CX0 (k + 1) f fd ps (spD K n tf) := by
  refine F.ok S (fun vs H Q E h => ?_) (fun cdv A outer s H vs Q E hr h => ?_)
  · obtain ⟨F0, M, ws, R, RX, r, rs, hl, _⟩ := h
    rw [rs.len, hl, hp]
  · obtain ⟨F0, M, ws, R, RX, r, rs, hl, hf, hk, _⟩ := h
    obtain ⟨t, T, h1, h2, h3⟩ := hb cdv A outer s H E hr
    refine ⟨t, h1, h2 F0 H M _ _ _ _ r (fun F' H' M' σ ρ cls d x _ _ _ _ z => z) (rel_start rs) (h3 ws M R RX hl hf) (ek_def hk)⟩
/-- a def that errors may leave -/
theorem okDX {f : Addr} {fd : FuncData} {k n : Nat} {x qual : Str} {st : Stmt} {N ps : List Str} {tf : TF} (F : Fun K x qual st f fd) (S : FnScope N ps (defScope st)) (hp : ps.length = n)
    (hb : ∀ (cdv : Value) (A : Around) (outer : List Env) (s : Shared) (H : Hp) (E : XK), Room k (A.deeper (PyProof.Rows.envOfC qual (defScope st) s.heap.objs.size f cdv)) →
      ∃ (t : TS) (T : REx → TDS), PSs (cxOf (L2.CX P w) P w K mg base N qual (defScope st) f cdv A outer s H E) (defBody st) t ∧ (∀ RE, SSt K (fun cls d _ H => E cls d H) RE t (T RE)) ∧
        ∀ ws M R RX, ws.length = n → tf ws M R RX → T (fun x _ M => RX x M) (endD R) (start0 N.length ws) M) : FnOk P w K mg base (L2.CX P w) (k + 1) f fd ps (spD K n tf) := by
  refine F.okX S (fun vs H Q E h => ?_) (fun cdv A outer s H vs Q E hr h => ?_)
  · obtain ⟨F0, M, ws, R, RX, r, rs, hl, _⟩ := h
    rw [rs.len, hl, hp]
  · obtain ⟨F0, M, ws, R, RX, r, rs, hl, hf, hk, hx⟩ := h
    obtain ⟨t, T, h1, h2, h3⟩ := hb cdv A outer s H E hr
    refine ⟨t, h1, h2 (fun x _ M => RX x M) F0 H M _ _ _ _ r (fun F' H' M' σ ρ cls d x g r' _ xr z => hx cls d H' F' M' x r' g xr z) (rel_start rs) (h3 ws M R RX hl hf) (ek_def hk)⟩
end
end Tl
set_option Elab.async false
set_option linter.all false
set_option maxRecDepth 100000
set_option maxHeartbeats 4000000
namespace Tl
open PySem L2 RZ
theorem PS.nox {X : Cx} {st : Stmt} {t : TS} (h : PS X.nox st t) : PS X st t := ⟨fun pins s σ H D I hw =>
  wpAny_mono (h.run pins s σ H D (I.wish _) hw) (fun _ _ q => q.unwish) fun _ _ z => False.elim z⟩
section
variable {K : PySem.W.Frag} {Wx : WX} {RE : REx}
@[reducible] def yesT : TDT := fun _ M R => R true M
theorem st_yes : ST K Wx RE tYes yesT := fun F H M σ ρ R Q hr hx hs ht k => k true H F M hr .refl ht
/-- zip of two rows -/
def zipR : List W → List W → List (List W)
  | a :: x, b :: y => [a, b] :: zipR x y
  | _, _ => []
theorem zipR_len : ∀ (x y : List W), (zipR x y).length = min x.length y.length
  | [], _ => by simp [zipR]
  | _ :: _, [] => by simp [zipR]
  | a :: x, b :: y => by rw [zipR, List.length_cons, zipR_len x y, List.length_cons, List.length_cons]; omega
theorem zipR_get : ∀ {x y : List W} {i : Nat} {row : List W}, (zipR x y)[i]? = some row → ∃ a b, x[i]? = some a ∧ y[i]? = some b ∧ row = [a, b]
  | [], _, _, _, h => by simp [zipR] at h
  | _ :: _, [], _, _, h => by simp [zipR] at h
  | a :: x, b :: y, 0, row, h => ⟨a, b, rfl, rfl, by simp [zipR] at h; exact h.symm⟩
  | a :: x, b :: y, i + 1, row, h => by
    obtain ⟨c, d, h1, h2, h3⟩ := zipR_get (x := x) (y := y) (i := i) (row := row) (by simpa [zipR] using h)
    exact ⟨c, d, by simpa using h1, by simpa using h2, h3⟩
/-- two tuples, or two lists of data -/
@[reducible] def itZip (T : TDA) : TDI := fun ρ M R => T ρ M fun xs M1 => g2 xs fun x y => match x, y with
  | .d (.tuple a), .d (.tuple b) => R (zipR (a.map W.d) (b.map W.d)) any1 M1
  | .d (.list a), .d (.list b) => R (zipR (a.map W.d) (b.map W.d)) any1 M1
  | .r p, .d (.list b) => ∃ ws, M1 p = some (.lst ws) ∧ R (zipR ws (b.map W.d)) (fun M => M p = some (.lst ws)) M1
  | _, _ => False
theorem walk_zipT' {a b : Addr} {xs ys : List V} {n : Nat} (hn : n = min xs.length ys.length) : Walk (ItzT K a b) n (fun H => SqT K H a xs ∧ SqT K H b ys) (YPair (fun i => xs[i]?) (fun i => ys[i]?)) := by
  subst hn
  refine ⟨fun i H hi q => ⟨xs, ys, xs[i]'(by omega), ys[i]'(by omega), q.1, q.2, List.getElem?_eq_getElem _, List.getElem?_eq_getElem _⟩, fun H q => ⟨xs, ys, q.1, q.2, by omega⟩, fun i H v H' hi q y => ?_⟩
  obtain ⟨T, x, y, h1, h2, h3, h4, h5⟩ := y
  exact ⟨T, x, y, h1, h2, h3, h4 xs q.1, h5 ys q.2⟩
theorem si_zip {n : Nat} {t : TA} {T : TDA} (h : SAn K Wx RE n t T) : SI K Wx RE (iZipA K t) true (itZip T) := fun F H M σ ρ R Q hr hx hs ht k =>
  h F H M σ ρ _ _ hr hx hs ht fun vs H1 F1 M1 xs r1 g1 rxs hl h1 => by
    obtain ⟨x, y, rfl, h2⟩ := g2_of h1
    obtain ⟨v, u, rfl, rx, ry⟩ := rxs.two
    have fin : ∀ {as bs : List PyData} {xv yv : List V} {J : It} {G : Hp → Prop}, DxL K F1 xv as → DxL K F1 yv bs → Walk J (min xv.length yv.length) G (YPair (fun i => xv[i]?) (fun i => yv[i]?)) → (∀ F2 H2 M2, Rl K F2 H2 M2 → Gr F1 H1 M1 F2 H2 M2 → G H2) →
        ItOk K F1 H1 M1 J (zipR (as.map W.d) (bs.map W.d)) any1 true := fun {as bs xv yv J G} d1 d2 wk hG => by
      refine ItOk.of wk (by rw [zipR_len, List.length_map, List.length_map, d1.len, d2.len]) (fun F2 H2 M2 r2 g2 _ => hG F2 H2 M2 r2 g2) fun i x H2 H3 F2 M2 row hrow r2 g2 _ yy => ?_
      obtain ⟨a, b, ha, hb, rfl⟩ := zipR_get hrow
      rw [List.getElem?_map] at ha hb
      obtain ⟨da, ha2, ea2⟩ := Option.map_eq_some_iff.mp ha
      obtain ⟨db, hb2, eb2⟩ := Option.map_eq_some_iff.mp hb
      subst ea2 eb2
      obtain ⟨va, ea, qa⟩ := d1.got ha2
      obtain ⟨vb, eb, qb⟩ := d2.got hb2
      obtain ⟨T', x', y', rfl, hT, rfl, hx', hy'⟩ := yy
      have hx'' : xv[i]? = some x' := hx'
      have hy'' : yv[i]? = some y' := hy'
      rw [ea] at hx''
      rw [eb] at hy''
      cases hx''
      cases hy''
      exact ⟨T', _, _, _, _, rfl, rfl, hT, rfl, .d (Dx.mono g2.ff _ _ qa), .d (Dx.mono g2.ff _ _ qb)⟩
    split at h2
    · obtain ⟨a, xv, rfl, a1, a2⟩ := rx.tup
      obtain ⟨b, yv, rfl, b1, b2⟩ := ry.tup
      refine ⟨a, b, xv, yv, rfl, .inr ⟨same_t r1.fh a1, same_t r1.fh b1, k _ H1 F1 M1 _ _ r1 g1 ?_ h2⟩⟩
      exact fin a2 b2 (walk_zipT' rfl) fun F2 H2 M2 r2 g2 => ⟨same_t (g2.ff.trans r2.fh) a1, same_t (g2.ff.trans r2.fh) b1⟩
    · obtain ⟨a, xv, rfl, a1, a2⟩ := rx.lst
      obtain ⟨b, yv, rfl, b1, b2⟩ := ry.lst
      refine ⟨a, b, xv, yv, rfl, .inl ⟨SqL.of (r1.fh _ _ a1), SqL.of (r1.fh _ _ b1), k _ H1 F1 M1 _ _ r1 g1 ?_ h2⟩⟩
      exact fin a2 b2 (walk_zip rfl) fun F2 H2 M2 r2 g2 => ⟨SqL.of ((g2.ff.trans r2.fh) _ _ a1), SqL.of ((g2.ff.trans r2.fh) _ _ b1)⟩
    · rename_i p bs
      obtain ⟨ws, hw, h3⟩ := h2
      obtain ⟨b, yv, rfl, b1, b2⟩ := ry.lst
      rw [rx.ref]
      obtain ⟨xv, e1, e2⟩ := r1.lst hw
      refine ⟨p, b, xv, yv, rfl, .inl ⟨SqL.of e1, SqL.of (r1.fh _ _ b1), k _ H1 F1 M1 _ _ r1 g1 ?_ h3⟩⟩
      refine ItOk.of (n := min ws.length yv.length) (G := fun H => (∃ vs, H p = some (.lst vs) ∧ vs.length = ws.length) ∧ SqL K H b yv) (Y := fun i H v H' => ∃ T x y, v = .ref T ∧ H T = none ∧ H' = upd H T (.tup [x, y]) ∧ (∀ vs, H p = some (.lst vs) → vs[i]? = some x) ∧ yv[i]? = some y) ?_ (by rw [zipR_len, List.length_map, b2.len]) (fun F2 H2 M2 r2 g2 hk => ?_) (fun i x H2 H3 F2 M2 row hrow r2 g2 hk yy => ?_)
      · refine ⟨fun i H hi ⟨⟨vs, q1, q2⟩, q3⟩ => ⟨vs, yv, vs[i]'(by omega), yv[i]'(by omega), SqL.of q1, q3, List.getElem?_eq_getElem _, List.getElem?_eq_getElem _⟩, fun H ⟨⟨vs, q1, q2⟩, q3⟩ => ⟨vs, yv, SqL.of q1, q3, by omega⟩, fun i H v H' hi ⟨⟨vs, q1, q2⟩, q3⟩ y => ?_⟩
        obtain ⟨T, x, y, h1, h2, h3, h4, h5⟩ := y
        exact ⟨T, x, y, h1, h2, h3, fun us hu => h4 us (SqL.of hu), h5 yv q3⟩
      · obtain ⟨vs, q1, q2⟩ := r2.lst hk
        exact ⟨⟨vs, q1, q2.len⟩, SqL.of ((g2.ff.trans r2.fh) _ _ b1)⟩
      · obtain ⟨a, b', ha, hb, rfl⟩ := zipR_get hrow
        rw [List.getElem?_map] at hb
        obtain ⟨db, hb2, eb2⟩ := Option.map_eq_some_iff.mp hb
        subst eb2
        obtain ⟨vs, q1, q2⟩ := r2.lst hk
        obtain ⟨va, ea, qa⟩ := q2.got ha
        obtain ⟨vb, eb, qb⟩ := b2.got hb2
        obtain ⟨T', x', y', rfl, hT, rfl, hx', hy'⟩ := yy
        have := hx' vs q1
        rw [ea] at this
        rw [eb] at hy'
        cases this
        cases hy'
        exact ⟨T', _, _, _, _, rfl, rfl, hT, rfl, qa, .d (Dx.mono g2.ff _ _ qb)⟩
    · exact h2.elim
/-- repr -/
@[reducible] def fRepr : FL := fun xs M R => g1 xs fun x => asD M x fun d => ((d.hasDict = false ∨ d = .dict []) ∧ shOk d) ∧ R (.d (.str d.shown)) M
theorem sc_repr : SC K (rReprD K) fRepr := fun F H M vs xs R Q hr rx hf k => by
  obtain ⟨x, rfl, h1⟩ := g1_of hf
  obtain ⟨v, rfl, r⟩ := rx.one
  obtain ⟨d, F', e1, e2, dv, ⟨hd, h2, h3, h4⟩, h5⟩ := asD_of hr r h1
  refine ⟨v, d, rfl, ?_, h2, h3, h4, k _ H F M _ hr .refl (.d (.str _)) h5⟩
  rcases hd with hd | rfl
  · exact .d (Dx.dp _ _ (Dx.mono e2 _ _ dv) hd)
  · cases dv with
    | dic h => exact .e (e2 _ _ h)
end
end Tl
set_option Elab.async false
set_option linter.all false
set_option maxRecDepth 100000
set_option maxHeartbeats 4000000
namespace Tl
open PySem L2
theorem rows1_map {α : Type} (f : α → W) (xs : List α) : rows1 (xs.map f) = xs.map fun a => [f a] := by
  unfold rows1
  rw [List.map_map]
  rfl
section
variable {b : TDG} {keep : Mem → Prop} {tt : TDT} {te : TDE} {ρ : EnvD} {fin : List W → Mem → Prop} {M : Mem}
/-- each of some rows gives an item -/
theorem lc_map {α : Type} {row : α → List W} (g : α → W) (hk : keep M) : ∀ (xs : List α) (acc : List W), (∀ a ∈ xs, ∀ (Rk : W → Mem → Prop) (Rn : Mem → Prop), Rk (g a) M → b (row a) ρ M fun ρ1 M1 => IfB true (te ρ1 M1 Rk) (Rn M1)) → acc.length + xs.length ≤ sizeLine → fin (acc ++ xs.map g) M → lcGo b keep yesT te ρ fin (xs.map row) acc M
  | [], acc, hb, hl, h => by
    rw [List.map_nil, lcGo]
    rw [List.map_nil, List.append_nil] at h
    exact ⟨hk, h⟩
  | a :: xs, acc, hb, hl, h => by
    rw [List.map_cons, lcGo]
    rw [List.length_cons] at hl
    refine ⟨hk, hb a (.head _) _ _ ⟨by omega, lc_map g hk xs (acc ++ [g a]) (fun x hx => hb x (.tail _ hx)) (by rw [List.length_append]; simp; omega) (by rw [List.append_assoc]; exact h)⟩⟩
/-- each of some rows gives an item, or none -/
theorem lc_filter {α : Type} {row : α → List W} (p : α → Bool) (g : α → W) (hk : keep M) : ∀ (xs : List α) (acc : List W), (∀ a ∈ xs, ∀ (Rk : W → Mem → Prop) (Rn : Mem → Prop), (p a = true → Rk (g a) M) → (p a = false → Rn M) → b (row a) ρ M fun ρ1 M1 => tt ρ1 M1 fun c M2 => IfB c (te ρ1 M2 Rk) (Rn M2)) → acc.length + xs.length ≤ sizeLine → fin (acc ++ (xs.filter p).map g) M → lcGo b keep tt te ρ fin (xs.map row) acc M
  | [], acc, hb, hl, h => by
    rw [List.map_nil, lcGo]
    rw [List.filter_nil, List.map_nil, List.append_nil] at h
    exact ⟨hk, h⟩
  | a :: xs, acc, hb, hl, h => by
    rw [List.map_cons, lcGo]
    rw [List.length_cons] at hl
    refine ⟨hk, hb a (.head _) _ _ (fun c => ⟨by omega, lc_filter p g hk xs (acc ++ [g a]) (fun x hx => hb x (.tail _ hx)) (by rw [List.length_append]; simp; omega) ?_⟩) (fun c => lc_filter p g hk xs acc (fun x hx => hb x (.tail _ hx)) (by omega) ?_)⟩
    · rw [List.filter_cons_of_pos c, List.map_cons] at h
      rw [List.append_assoc]
      exact h
    · rw [List.filter_cons_of_neg (by rw [c]; exact Bool.false_ne_true)] at h
      exact h
/-- one name, over a list of data -/
theorem lc1 {α : Type} {i : Nat} {f : α → W} (g : α → W) (hk : keep M) {xs : List α} (hb : ∀ a ∈ xs, ∀ Rk : W → Mem → Prop, Rk (g a) M → te (put ρ i (some (f a))) M Rk) (hl : xs.length ≤ sizeLine) (h : fin (xs.map g) M) : lcGo (bName i) keep yesT te ρ fin (rows1 (xs.map f)) [] M := by
  rw [rows1_map]
  exact lc_map g hk xs [] (fun a ha Rk Rn q => .t rfl (hb a ha Rk q)) (by simpa using hl) h
theorem lc1f {α : Type} {i : Nat} {f : α → W} (p : α → Bool) (g : α → W) (hk : keep M) {xs : List α} (hb : ∀ a ∈ xs, ∀ (Rk : W → Mem → Prop) (Rn : Mem → Prop), (p a = true → Rk (g a) M) → (p a = false → Rn M) → tt (put ρ i (some (f a))) M fun c M2 => IfB c (te (put ρ i (some (f a))) M2 Rk) (Rn M2)) (hl : xs.length ≤ sizeLine) (h : fin ((xs.filter p).map g) M) : lcGo (bName i) keep tt te ρ fin (rows1 (xs.map f)) [] M := by
  rw [rows1_map]
  exact lc_filter p g hk xs [] (fun a ha Rk Rn q1 q2 => hb a ha Rk Rn q1 q2) (by simpa using hl) h
end
/-- a for, by what holds at each turn -/
theorem for_ix {b : TDG} {keep : Mem → Prop} {body : TDS} {D : EndD} {rows : List (List W)} {ρ : EnvD} {M : Mem} (Pv : Nat → EnvD → Mem → Prop) (h0 : Pv 0 ρ M) (hk : ∀ i ρ M, i ≤ rows.length → Pv i ρ M → keep M)
    (hs : ∀ i row ρ M (N : EnvD → Mem → Prop), rows[i]? = some row → Pv i ρ M → (∀ ρ' M', Pv (i + 1) ρ' M' → N ρ' M') → b row ρ M fun ρ1 M1 => body ⟨N, D.rt, D.nx, N⟩ ρ1 M1) (hd : ∀ ρ M, Pv rows.length ρ M → D.nx ρ M) : forGo b keep body D rows ρ M := by
  have go : ∀ (n i : Nat) (ρ : EnvD) (M : Mem), n = rows.length - i → i ≤ rows.length → Pv i ρ M → forGo b keep body D (rows.drop i) ρ M := by
    intro n
    induction n with
    | zero =>
      intro i ρ M hn hi p
      have e : i = rows.length := by omega
      subst e
      rw [List.drop_length, forGo]
      exact ⟨hk _ _ _ (Nat.le_refl _) p, hd ρ M p⟩
    | succ n ih =>
      intro i ρ M hn hi p
      have hi2 : i < rows.length := by omega
      rw [List.drop_eq_getElem_cons hi2, forGo]
      exact ⟨hk _ _ _ hi p, hs i _ ρ M _ (List.getElem?_eq_getElem hi2) p fun ρ' M' p' => ih (i + 1) ρ' M' (by omega) (by omega) p'⟩
  exact go _ 0 ρ M rfl (Nat.zero_le _) h0
/-- over a list of things, one name -/
theorem for1 {α : Type} {i : Nat} {f : α → W} {keep : Mem → Prop} {body : TDS} {D : EndD} {xs : List α} {ρ : EnvD} {M : Mem} (Pv : Nat → EnvD → Mem → Prop) (h0 : Pv 0 ρ M) (hk : ∀ i ρ M, i ≤ xs.length → Pv i ρ M → keep M)
    (hs : ∀ j a ρ M (N : EnvD → Mem → Prop), xs[j]? = some a → Pv j ρ M → (∀ ρ' M', Pv (j + 1) ρ' M' → N ρ' M') → body ⟨N, D.rt, D.nx, N⟩ (put ρ i (some (f a))) M) (hd : ∀ ρ M, Pv xs.length ρ M → D.nx ρ M) : forGo (bName i) keep body D (rows1 (xs.map f)) ρ M := by
  have el : (rows1 (xs.map f)).length = xs.length := by rw [rows1_map, List.length_map]
  refine for_ix Pv h0 (fun i ρ M hi p => hk i ρ M (by rw [← el]; exact hi) p) (fun j row ρ M N hrow p hN => ?_) (fun ρ M p => hd ρ M (by rw [← el]; exact p))
  rw [rows1_map, List.getElem?_map] at hrow
  obtain ⟨a, ha, e⟩ := Option.map_eq_some_iff.mp hrow
  subst e
  exact hs j a ρ M N ha p hN
/-- over numbers -/
theorem forR {i : Nat} {lo : Int} {n : Nat} {keep : Mem → Prop} {body : TDS} {D : EndD} {ρ : EnvD} {M : Mem} (Pv : Nat → EnvD → Mem → Prop) (h0 : Pv 0 ρ M) (hk : ∀ i ρ M, i ≤ n → Pv i ρ M → keep M)
    (hs : ∀ j ρ M (N : EnvD → Mem → Prop), j < n → Pv j ρ M → (∀ ρ' M', Pv (j + 1) ρ' M' → N ρ' M') → body ⟨N, D.rt, D.nx, N⟩ (put ρ i (some (.d (.int (lo + (j : Nat)))))) M) (hd : ∀ ρ M, Pv n ρ M → D.nx ρ M) : forGo (bName i) keep body D (rows1 (rng lo n)) ρ M := by
  unfold rng
  refine for1 Pv h0 (fun i ρ M hi p => hk i ρ M (by simpa using hi) p) (fun j a ρ M N ha p hN => ?_) (fun ρ M p => hd ρ M (by simpa using p))
  have e : a = j ∧ j < n := by
    obtain ⟨h1, h2⟩ := List.getElem?_eq_some_iff.mp ha
    rw [List.length_range] at h1
    simp at h2
    exact ⟨h2.symm, h1⟩
  obtain ⟨rfl, hj⟩ := e
  exact hs a ρ M N hj p hN
/-- pairs with their numbers -/
theorem forE {i j : Nat} {keep : Mem → Prop} {body : TDS} {D : EndD} {ws : List W} {ρ : EnvD} {M : Mem} (Pv : Nat → EnvD → Mem → Prop) (h0 : Pv 0 ρ M) (hk : ∀ i ρ M, i ≤ ws.length → Pv i ρ M → keep M)
    (hs : ∀ n a ρ M (N : EnvD → Mem → Prop), ws[n]? = some a → Pv n ρ M → (∀ ρ' M', Pv (n + 1) ρ' M' → N ρ' M') → body ⟨N, D.rt, D.nx, N⟩ (put (put ρ i (some (.d (.int (n : Nat))))) j (some a)) M) (hd : ∀ ρ M, Pv ws.length ρ M → D.nx ρ M) : forGo (bPair i j) keep body D (enumR 0 ws) ρ M := by
  refine for_ix Pv h0 (fun i ρ M hi p => hk i ρ M (by rw [← enumR_len 0 ws]; exact hi) p) (fun n row ρ M N hrow p hN => ?_) (fun ρ M p => hd ρ M (by rw [← enumR_len 0 ws]; exact p))
  obtain ⟨a, ha, rfl⟩ := enumR_get hrow
  rw [Nat.zero_add]
  exact hs n a ρ M N ha p hN
/-- pairs of two rows -/
theorem forZ {i j : Nat} {keep : Mem → Prop} {body : TDS} {D : EndD} {xs ys : List W} {ρ : EnvD} {M : Mem} (hl : xs.length = ys.length) (Pv : Nat → EnvD → Mem → Prop) (h0 : Pv 0 ρ M) (hk : ∀ i ρ M, i ≤ xs.length → Pv i ρ M → keep M)
    (hs : ∀ n a c ρ M (N : EnvD → Mem → Prop), xs[n]? = some a → ys[n]? = some c → Pv n ρ M → (∀ ρ' M', Pv (n + 1) ρ' M' → N ρ' M') → body ⟨N, D.rt, D.nx, N⟩ (put (put ρ i (some a)) j (some c)) M) (hd : ∀ ρ M, Pv xs.length ρ M → D.nx ρ M) : forGo (bPair i j) keep body D (zipR xs ys) ρ M := by
  have el : (zipR xs ys).length = xs.length := by rw [zipR_len]; omega
  refine for_ix Pv h0 (fun i ρ M hi p => hk i ρ M (by rw [← el]; exact hi) p) (fun n row ρ M N hrow p hN => ?_) (fun ρ M p => hd ρ M (by rw [← el]; exact p))
  obtain ⟨a, c, ha, hc, rfl⟩ := zipR_get hrow
  exact hs n a c ρ M N ha hc p hN
end Tl
set_option Elab.async false
set_option linter.all false
set_option maxRecDepth 100000
set_option maxHeartbeats 4000000
namespace Tl
open PySem L2
theorem b_list {X : Cx} (T : Bl X.mg) {p : Pos} (hg : Gl X "list" := by rfl) : PE X (.Name "list" p) (tC (.ty "list")) := pe_bltn hg T.list PyProof.Rows.boot_list rfl
/-- what nobody looks at any more is left out -/
def lax (R : W → Mem → Prop) : W → Mem → Prop := fun x M => ∃ M0, (∀ a o, M0 a = some o → M a = some o) ∧ R x M0
theorem Rl.less {K : PySem.W.Frag} {F H : Hp} {M M0 : Mem} (h : Rl K F H M) (e : ∀ a o, M0 a = some o → M a = some o) : Rl K F H M0 :=
  ⟨h.fh, fun a o c => h.mf a o (e a o c), fun a o c => h.at_ a o (e a o c)⟩
theorem none_less {M M0 : Mem} (e : ∀ a o, M0 a = some o → M a = some o) {b : Addr} (h : M b = none) : M0 b = none := by
  cases c : M0 b with
  | none => rfl
  | some o => rw [e b o c] at h; cases h
theorem kt_lax {K : PySem.W.Frag} {F H : Hp} {M : Mem} {R : W → Mem → Prop} {Q : VK} (k : Kt K F H M R Q) : Kt K F H M (lax R) Q := fun v H' F' M' x r g rx ⟨M0, e, h⟩ =>
  k v H' F' M0 x (r.less e) ⟨g.ff, fun b u h1 h2 => ⟨(g.un b u h1 h2).1, none_less e (g.un b u h1 h2).2⟩, g.nf⟩ rx h
section
variable {P : Program} {w : World} {K : PySem.W.Frag} {mg : Str → Option Value} {base : Heap}
theorem okDL {f : Addr} {fd : FuncData} {k n : Nat} {x qual : Str} {st : Stmt} {N ps : List Str} {tf : TF} (F : Fun K x qual st f fd) (S : FnScope N ps (defScope st)) (hp : ps.length = n)
    (hb : ∀ (cdv : Value) (A : Around) (outer : List Env) (s : Shared) (H : Hp) (E : XK), Room k (A.deeper (PyProof.Rows.envOfC qual (defScope st) s.heap.objs.size f cdv)) →
      ∃ (t : TS) (T : TDS), PSs (cxOf CX0 P w K mg base N qual (defScope st) f cdv A outer s H E).nox (defBody st) t ∧ SSt K (fun _ _ _ _ => False) (fun _ _ _ => False) t T ∧
        ∀ ws M R RX, ws.length = n → tf ws M R RX → T (endD (lax R)) (start0 N.length ws) M) : FnOk P w K mg base CX0 (k + 1) f fd ps (spD K n tf) := by
  refine F.ok S (fun vs H Q E h => ?_) (fun cdv A outer s H vs Q E hr h => ?_)
  · obtain ⟨F0, M, ws, R, RX, r, rs, hl, _⟩ := h
    rw [rs.len, hl, hp]
  · obtain ⟨F0, M, ws, R, RX, r, rs, hl, hf, hk, _⟩ := h
    obtain ⟨t, T, h1, h2, h3⟩ := hb cdv A outer s H E hr
    refine ⟨t, h1, h2 F0 H M _ _ _ _ r (fun F' H' M' σ ρ cls d x _ _ _ _ z => z) (rel_start rs) (h3 ws M R RX hl hf) (ek_def (kt_lax hk))⟩
end
section
variable {K : PySem.W.Frag} {Wx : WX} {RE : REx}
/-- a range with a step -/
@[reducible] def itR3 (T : TDA) : TDI := fun ρ M R => T ρ M fun xs M1 => match xs with
  | [x, y, z] => gI x fun i => gI y fun j => gI z fun c => ∃ n, RgC i j c n ∧ R (rows1 (rngC i c n)) any1 M1
  | _ => False
theorem rngC_ok {F H : Hp} {M : Mem} {lo c : Int} {n : Nat} : ItOk K F H M (Itc lo c n) (rows1 (rngC lo c n)) any1 false := by
  refine ItOk.of (walk_rangeC (lo := lo) (c := c) (n := n)) (by unfold rows1 rngC; rw [List.length_map, List.length_map, List.length_range]) (fun F2 H2 M2 r2 g2 _ => True.intro) (fun i x H2 H3 F2 M2 row hrow r2 g2 _ y => ?_)
  obtain ⟨w, hw, rfl⟩ := rows1_get hrow
  unfold rngC at hw
  rw [List.getElem?_map] at hw
  obtain ⟨e, he, rfl⟩ := Option.map_eq_some_iff.mp hw
  have e' : e = i := by
    obtain ⟨h1, h2⟩ := List.getElem?_eq_some_iff.mp he
    rw [← h2]
    simp
  subst e'
  obtain ⟨rfl, rfl⟩ := y
  exact ⟨_, rfl, rfl, .d (.int _)⟩
theorem si_r3 {t : TA} {T : TDA} {n : Nat} (h : SAn K Wx RE n t T) : SI K Wx RE (iRng3 t) false (itR3 T) := fun F H M σ ρ R Q hr hx hs ht k =>
  h F H M σ ρ _ _ hr hx hs ht fun vs H1 F1 M1 xs r1 g1 rxs hl h1 => by
    split at h1
    · obtain ⟨i, rfl, h2⟩ := gI_of h1
      obtain ⟨j, rfl, h3⟩ := gI_of h2
      obtain ⟨c, rfl, m, hc, h4⟩ := gI_of h3
      cases rxs with
      | cons a rxs =>
      cases rxs with
      | cons b rxs =>
      cases rxs with
      | cons d rxs =>
      cases rxs
      exact ⟨i, j, c, m, by rw [a.int, b.int, d.int], hc, k _ H1 F1 M1 _ _ r1 g1 rngC_ok h4⟩
    · exact h1.elim
end
/-- some new lists -/
theorem lc_new {ρ : EnvD} {i : Nat} {fin : List W → Mem → Prop} : ∀ (rows : List W) (acc : List Addr) (M M' : Mem), acc.length + rows.length ≤ sizeLine → acc.Nodup → (∀ a ∈ acc, M a = none ∧ M' a = some (.lst [])) → (∀ b, ¬ b ∈ acc → M' b = M b) →
    (∀ (as : List Addr) (M2 : Mem), as.length = acc.length + rows.length → as.Nodup → (∀ a ∈ as, M a = none ∧ M2 a = some (.lst [])) → (∀ b, ¬ b ∈ as → M2 b = M b) → fin (as.map W.r) M2) → lcGo (bName i) any1 yesT (lstT nilA) ρ fin (rows1 rows) (acc.map W.r) M'
  | [], acc, M, M', hl, hn, ha, hb, h => by
    show any1 M' ∧ fin _ M'
    exact ⟨trivial, h acc M' rfl hn ha hb⟩
  | r :: rows, acc, M, M', hl, hn, ha, hb, h => by
    show any1 M' ∧ IfB true (∀ p, M' p = none → (acc.map W.r).length < sizeLine ∧ lcGo (bName i) any1 yesT (lstT nilA) ρ fin (rows1 rows) (acc.map W.r ++ [W.r p]) (mset M' p (.lst []))) _
    rw [List.length_cons] at hl
    refine ⟨trivial, .t rfl fun p hp => ⟨by rw [List.length_map]; omega, ?_⟩⟩
    have np : ¬ p ∈ acc := fun z => by rw [(ha p z).2] at hp; cases hp
    have e : acc.map W.r ++ [W.r p] = (acc ++ [p]).map W.r := by rw [List.map_append]; rfl
    rw [e]
    have hMp : M p = none := by rw [← hb p np]; exact hp
    refine lc_new rows (acc ++ [p]) M _ (by rw [List.length_append]; simp; omega) ?_ (fun a h1 => ?_) (fun b h1 => ?_) (fun as M2 h1 h2 h3 h4 => h as M2 (by rw [h1, List.length_append, List.length_cons]; simp; omega) h2 h3 h4)
    · rw [List.nodup_append]
      exact ⟨hn, by simp, fun x hx y hy => by
        rw [List.mem_singleton.mp hy]
        exact fun z => np (by rw [← z]; exact hx)⟩
    · rcases List.mem_append.mp h1 with h1 | h1
      · have : a ≠ p := fun z => np (by rw [← z]; exact h1)
        rw [mset_ne this]
        exact ha a h1
      · rw [List.mem_singleton.mp h1]
        exact ⟨hMp, mset_same⟩
    · have h2 : b ≠ p := fun z => h1 (by rw [z]; exact List.mem_append_right _ (List.mem_singleton.mpr rfl))
      rw [mset_ne h2]
      exact hb b fun z => h1 (List.mem_append_left _ z)
/-- numbers with a step -/
theorem forRC {i : Nat} {lo c : Int} {n : Nat} {keep : Mem → Prop} {body : TDS} {D : EndD} {ρ : EnvD} {M : Mem} (Pv : Nat → EnvD → Mem → Prop) (h0 : Pv 0 ρ M) (hk : ∀ i ρ M, i ≤ n → Pv i ρ M → keep M)
    (hs : ∀ j ρ M (N : EnvD → Mem → Prop), j < n → Pv j ρ M → (∀ ρ' M', Pv (j + 1) ρ' M' → N ρ' M') → body ⟨N, D.rt, D.nx, N⟩ (put ρ i (some (.d (.int (lo + (j : Nat) * c))))) M) (hd : ∀ ρ M, Pv n ρ M → D.nx ρ M) : forGo (bName i) keep body D (rows1 (rngC lo c n)) ρ M := by
  unfold rngC
  refine for1 Pv h0 (fun i ρ M hi p => hk i ρ M (by simpa using hi) p) (fun j a ρ M N ha p hN => ?_) (fun ρ M p => hd ρ M (by simpa using p))
  have e : a = j ∧ j < n := by
    obtain ⟨h1, h2⟩ := List.getElem?_eq_some_iff.mp ha
    rw [List.length_range] at h1
    simp at h2
    exact ⟨h2.symm, h1⟩
  obtain ⟨rfl, hj⟩ := e
  exact hs a ρ M N hj p hN
end Tl
set_option Elab.async false
set_option linter.all false
set_option maxRecDepth 100000
set_option maxHeartbeats 4000000
/-! Elders and levels, lists of kids by their weights and places. -/
namespace Tl
open PySem L2
structure RelEL (es ls : List Nat) : Prop where
  first : ls[0]? = some 1
  lev : ∀ (j l : Nat), ls[j]? = some l → 1 ≤ l ∧ l ≤ 10
  eld : ∀ (j e : Nat), 1 ≤ j → es[j]? = some e → e < j ∧ ∀ (l l' : Nat), ls[e]? = some l → ls[j]? = some l' → l' = l + 1
theorem get_snoc {α : Type} {xs : List α} {x y : α} {j : Nat} (h : (xs ++ [x])[j]? = some y) : (j < xs.length ∧ xs[j]? = some y) ∨ (j = xs.length ∧ y = x) := by
  by_cases c : j < xs.length
  · rw [List.getElem?_append_left c] at h
    exact .inl ⟨c, h⟩
  · rw [List.getElem?_append_right (by omega)] at h
    have e : j - xs.length = 0 := by
      by_cases z : j - xs.length = 0
      · exact z
      · rw [List.getElem?_eq_none (by show 1 ≤ _; omega)] at h
        cases h
    rw [e] at h
    exact .inr ⟨by omega, (Option.some.inj h).symm⟩
theorem RelEL.app {es ls : List Nat} (r : RelEL es ls) {e l : Nat} (hlen : es.length = ls.length) (he : ls[e]? = some l) (hl : l ≤ 9) : RelEL (es ++ [e]) (ls ++ [l + 1]) := by
  have hel : e < ls.length := (List.getElem?_eq_some_iff.mp he).1
  refine ⟨?_, fun j m h => ?_, fun j e' hj h => ?_⟩
  · rw [List.getElem?_append_left (by omega)]
    exact r.first
  · rcases get_snoc h with ⟨_, h⟩ | ⟨_, rfl⟩
    · exact r.lev j m h
    · omega
  · rcases get_snoc h with ⟨c, h⟩ | ⟨rfl, rfl⟩
    · obtain ⟨h1, h2⟩ := r.eld j e' hj h
      refine ⟨h1, fun a b ha hb => ?_⟩
      rw [List.getElem?_append_left (by omega)] at ha hb
      exact h2 a b ha hb
    · refine ⟨by omega, fun a b ha hb => ?_⟩
      rw [List.getElem?_append_left hel] at ha
      rw [hlen, List.getElem?_append_right (Nat.le_refl _), Nat.sub_self] at hb
      rw [he] at ha
      cases ha
      exact (Option.some.inj hb).symm
theorem RelEL.one : RelEL [0] [1] := by
  refine ⟨rfl, fun j l h => ?_, fun j e hj h => ?_⟩
  · match j, h with
    | 0, h => have := Option.some.inj h; omega
    | j + 1, h => simp at h
  · match j, h with
    | 0, _ => omega
    | j + 1, h => simp at h
/-- the weights of the first m lists together -/
def sw (m : Nat) (tss : List (List PyData)) : Nat := ((tss.take m).map wtAll).sum
theorem sw_succ {m : Nat} {tss : List (List PyData)} {ts : List PyData} (h : tss[m]? = some ts) : sw (m + 1) tss = sw m tss + wtAll ts := by
  unfold sw
  rw [List.take_add_one, h, List.map_append, List.sum_append]
  simp
theorem sw_set : ∀ {m e : Nat} {tss : List (List PyData)} {ts : List PyData} {T : PyData}, e < m → tss[e]? = some ts → sw m (tss.set e (ts ++ [T])) = sw m tss + (wt T + 2)
  | 0, _, _, _, _, h, _ => by omega
  | m + 1, 0, a :: r, ts, T, _, h => by
    have e : a = ts := Option.some.inj h
    subst e
    show ((a ++ [T]) :: r.take m |>.map wtAll).sum = ((a :: r.take m).map wtAll).sum + _
    rw [List.map_cons, List.map_cons, List.sum_cons, List.sum_cons, wtAll_app, wtAll, wtAll]
    omega
  | m + 1, e + 1, a :: r, ts, T, h, h2 => by
    have ih := sw_set (m := m) (e := e) (tss := r) (ts := ts) (T := T) (by omega) h2
    unfold sw at ih ⊢
    show ((a :: (r.set e (ts ++ [T])).take m).map wtAll).sum = ((a :: r.take m).map wtAll).sum + _
    rw [List.map_cons, List.map_cons, List.sum_cons, List.sum_cons, ih]
    omega
  | _ + 1, _, [], _, _, _, h => by simp at h
theorem wt_sw : ∀ {m e : Nat} {tss : List (List PyData)} {ts : List PyData}, e < m → tss[e]? = some ts → wtAll ts ≤ sw m tss
  | 0, _, _, _, h, _ => by omega
  | m + 1, 0, a :: r, ts, _, h => by
    have e : a = ts := Option.some.inj h
    subst e
    show wtAll a ≤ ((a :: r.take m).map wtAll).sum
    rw [List.map_cons, List.sum_cons]
    omega
  | m + 1, e + 1, a :: r, ts, h, h2 => by
    have ih := wt_sw (m := m) (e := e) (tss := r) (ts := ts) (by omega) h2
    unfold sw at ih ⊢
    show _ ≤ ((a :: r.take m).map wtAll).sum
    rw [List.map_cons, List.sum_cons]
    omega
  | _ + 1, _, [], _, _, h => by simp at h
theorem sw_rep (m n : Nat) : sw m (List.replicate n []) = 0 := by
  unfold sw
  rw [List.take_replicate, List.map_replicate]
  generalize min m n = k
  induction k with
  | zero => rfl
  | succ k ih => rw [List.replicate_succ, List.sum_cons, ih]; rfl
mutual
def nn : PyData → Nat
  | .tuple [_, .tuple ks] => 1 + nnAll ks
  | _ => 1
def nnAll : List PyData → Nat
  | [] => 0
  | k :: ks => nn k + nnAll ks
end
theorem nnAll_app : ∀ (a b : List PyData), nnAll (a ++ b) = nnAll a + nnAll b
  | [], b => by rw [List.nil_append, nnAll]; omega
  | k :: a, b => by
    rw [List.cons_append, nnAll, nnAll, nnAll_app a b]
    omega
theorem nnAll_rev : ∀ (a : List PyData), nnAll a.reverse = nnAll a
  | [] => rfl
  | k :: a => by
    rw [List.reverse_cons, nnAll_app, nnAll_rev a, nnAll, nnAll, nnAll]
    omega
/-- how many places the first m lists have together -/
def sn (m : Nat) (tss : List (List PyData)) : Nat := ((tss.take m).map nnAll).sum
theorem sn_succ {m : Nat} {tss : List (List PyData)} {ts : List PyData} (h : tss[m]? = some ts) : sn (m + 1) tss = sn m tss + nnAll ts := by
  unfold sn
  rw [List.take_add_one, h, List.map_append, List.sum_append]
  simp
theorem sn_set : ∀ {m e : Nat} {tss : List (List PyData)} {ts : List PyData} {T : PyData}, e < m → tss[e]? = some ts → sn m (tss.set e (ts ++ [T])) = sn m tss + nn T
  | 0, _, _, _, _, h, _ => by omega
  | m + 1, 0, a :: r, ts, T, _, h => by
    have e : a = ts := Option.some.inj h
    subst e
    show ((a ++ [T]) :: r.take m |>.map nnAll).sum = ((a :: r.take m).map nnAll).sum + _
    rw [List.map_cons, List.map_cons, List.sum_cons, List.sum_cons, nnAll_app, nnAll, nnAll]
    omega
  | m + 1, e + 1, a :: r, ts, T, h, h2 => by
    have ih := sn_set (m := m) (e := e) (tss := r) (ts := ts) (T := T) (by omega) h2
    unfold sn at ih ⊢
    show ((a :: (r.set e (ts ++ [T])).take m).map nnAll).sum = ((a :: r.take m).map nnAll).sum + _
    rw [List.map_cons, List.map_cons, List.sum_cons, List.sum_cons, ih]
    omega
  | _ + 1, _, [], _, _, _, h => by simp at h
theorem sn_rep (m n : Nat) : sn m (List.replicate n []) = 0 := by
  unfold sn
  rw [List.take_replicate, List.map_replicate]
  generalize min m n = k
  induction k with
  | zero => rfl
  | succ k ih => rw [List.replicate_succ, List.sum_cons, ih]; rfl
theorem wtAll_rev (ts : List PyData) : wtAll ts.reverse = wtAll ts := by
  induction ts with
  | nil => rfl
  | cons a r ih => rw [List.reverse_cons, wtAll_app, ih, wtAll, wtAll, wtAll]; omega
def tags5 : List Str := ["a", "b", "ab", "zz", "abcdefgh"]
theorem tags5_ok : ∀ s ∈ tags5, 1 ≤ s.length ∧ s.length ≤ 8 ∧ (PyData.strOk s = true ∧ s ∈ tags6) := by decide +kernel
end Tl
set_option Elab.async false
set_option linter.all false
set_option maxRecDepth 100000
set_option maxHeartbeats 4000000
/-! What the program's own looks answer, as Lean functions; promises. -/
namespace Tl
open PySem L2
/-! ### what they answer -/
def isCount : PyData → Bool
  | .int i => decide (0 ≤ i)
  | _ => false
def isNum (m : Int) : PyData → Bool
  | .int i => decide (0 ≤ i) && decide (i ≤ m)
  | _ => false
def small (c : Nat) : Bool := decide (97 ≤ c) && decide (c ≤ 122)
def isTag : PyData → Bool
  | .str s => decide (1 ≤ s.length) && decide (s.length ≤ 8) && s.cps.toList.all small
  | _ => false
def isPath : PyData → Bool
  | .tuple ds => decide (ds.length < 12) && ds.all (isNum 59)
  | _ => false
def tagKids : PyData → Bool
  | .tuple [a, b] => isTag a && isTup b
  | _ => false
/-- the program's own numbers -/
structure Cs (mg : Str → Option Value) : Prop where
  SIZE : ∃ t, mg "SIZE" = some (.int 60 t)
  DEPTH : ∃ t, mg "DEPTH" = some (.int 12 t)
  SIGNS : ∃ t, mg "SIGNS" = some (.int 8 t)
theorem c_SIZE {X : Cx} (C : Cs X.mg) {p : Pos} (hg : Gl X "SIZE" := by rfl) : PE X (.Name "SIZE" p) (tC (.int 60)) := by
  obtain ⟨t, e⟩ := C.SIZE
  exact pe_glob hg e ⟨t, rfl⟩
theorem c_DEPTH {X : Cx} (C : Cs X.mg) {p : Pos} (hg : Gl X "DEPTH" := by rfl) : PE X (.Name "DEPTH" p) (tC (.int 12)) := by
  obtain ⟨t, e⟩ := C.DEPTH
  exact pe_glob hg e ⟨t, rfl⟩
theorem c_SIGNS {X : Cx} (C : Cs X.mg) {p : Pos} (hg : Gl X "SIGNS" := by rfl) : PE X (.Name "SIGNS" p) (tC (.int 8)) := by
  obtain ⟨t, e⟩ := C.SIGNS
  exact pe_glob hg e ⟨t, rfl⟩
/-- a truth about one thing -/
@[reducible] def tfB (f : PyData → Bool) : TF := fun ws M R _ => g1 ws fun x => gD x fun d => txt d = true ∧ R (.d (.bool (f d))) M
@[reducible] def tfB2 (f : Int → PyData → Bool) : TF := fun ws M R _ => g2 ws fun x y => gD x fun d => gI y fun m => txt d = true ∧ R (.d (.bool (f m d))) M
theorem lex1 (a b : Nat) : ([a] : List Nat) < [b] ↔ a < b := by
  constructor
  · intro h
    cases h with
    | rel h => exact h
    | cons h => cases h
  · intro h
    exact List.Lex.rel h
theorem le_a (c : Nat) : (!decide ((⟨#[c]⟩ : Str).cps.toList < ("a" : Str).cps.toList)) = decide (97 ≤ c) := by
  show (!decide ([c] < [97])) = _
  rw [decide_eq_decide.mpr (lex1 c 97)]
  by_cases h : c < 97
  · rw [decide_eq_true h, decide_eq_false (by omega)]; rfl
  · rw [decide_eq_false h, decide_eq_true (by omega)]; rfl
theorem le_z (c : Nat) : (!decide (("z" : Str).cps.toList < (⟨#[c]⟩ : Str).cps.toList)) = decide (c ≤ 122) := by
  show (!decide ([122] < [c])) = _
  rw [decide_eq_decide.mpr (lex1 122 c)]
  by_cases h : 122 < c
  · rw [decide_eq_true h, decide_eq_false (by omega)]; rfl
  · rw [decide_eq_false h, decide_eq_true (by omega)]; rfl
/-! ### trees -/
def kidsD : PyData → List PyData
  | .tuple [_, .tuple ks] => ks
  | _ => []
/-- the room behind a tree, its kids one behind another -/
def roomB : Nat → PyData → Nat → Option Nat
  | 0, _, _ => none
  | _ + 1, _, 0 => none
  | l + 1, d, r + 1 => if tagKids d = true then (kidsD d).foldl (fun o kd => o.bind (roomB l kd)) (some r) else none
@[reducible] def optD : Option Nat → PyData
  | none => .none
  | some n => .int n
def isTreeD (d : PyData) : Bool := (roomB 12 d 60).isSome
theorem fold_none {α : Type} (f : α → Nat → Option Nat) : ∀ ks : List α, ks.foldl (fun o kd => o.bind (f kd)) none = none
  | [] => rfl
  | _ :: r => by rw [List.foldl_cons]; exact fold_none f r
@[reducible] def tfRoom (n : Nat) : TF := fun ws M R _ => ∃ (d : PyData) (l r : Nat), ws = [.d d, .d (.int l), .d (.int r)] ∧ txt d = true ∧ l < n ∧ R (.d (optD (roomB l d r))) M
theorem no0 {tf : TF} {P : Program} {w : World} {K : PySem.W.Frag} {mg : Str → Option Value} {base : Heap} {CX : CXT} {f : Addr} {fd : FuncData} {k n : Nat} {ps : List Str} (h : ∀ ws M R RX, ¬ tf ws M R RX) : FnOk P w K mg base CX k f fd ps (spD K n tf) :=
  ⟨fun vs H Q E ⟨F0, M, ws, R, RX, r, rs, hl, hf, _⟩ => absurd hf (h _ _ _ _), fun A outer s H args us vs Q E _ _ _ _ ⟨F0, M, ws, R, RX, r, rs, hl, hf, _⟩ => absurd hf (h _ _ _ _)⟩
/-! ### refusals -/
/-- an own error without a word, as the top has left its class -/
structure Er (K : PySem.W.Frag) (mg : Str → Option Value) (x : Str) (C : Addr) : Prop where
  g : mg x = some (.ref C)
  x : PySem.W.excIn K C [.type "ValueError", .type "Exception", .type "BaseException", .type "object"] "ValueError.__new__" = true
  k : PySem.W.keepIn K (.ref C) = true
  b : PySem.W.subIn K (.ref C) (.type "BaseException") = some true
  t : PySem.W.typeIn K (.ref C) = some (.type "type")
/-- a def that errors may leave -/
structure UseX (P : Program) (w : World) (K : PySem.W.Frag) (mg : Str → Option Value) (base : Heap) (x : Str) (ps : List Str) (k : Nat) (sp : Sp) where
  f : Addr
  fd : FuncData
  ok : FnOk P w K mg base (L2.CX P w) k f fd ps sp
  m : mg x = some (.ref f)
  kp : PySem.W.keepIn K (.ref f) = true
  b : Binds K fd ps []
/-- one thing is refused, or not -/
@[reducible] def tfChk (f : PyData → Bool) (C : Addr) : TF := fun ws M R RX => g1 ws fun x => gD x fun d => txt d = true ∧ (f d = true → R (.d .none) M) ∧ (f d = false → RX ⟨.ref C, []⟩ M)
/-! ### trees by their form -/
def TrT : Nat → PyData → Prop
  | 0, _ => False
  | h + 1, d => ∃ (s : Str) (ks : List PyData), d = .tuple [.str s, .tuple ks] ∧ isTag (.str s) = true ∧ ∀ k ∈ ks, TrT h k
theorem TrT.mono : ∀ {h h' : Nat} {d : PyData}, h ≤ h' → TrT h d → TrT h' d
  | 0, _, _, _, t => t.elim
  | h + 1, 0, _, e, _ => by omega
  | h + 1, h' + 1, d, e, t => by
    obtain ⟨s, ks, rfl, a, b⟩ := t
    exact ⟨s, ks, rfl, a, fun k hk => TrT.mono (by omega) (b k hk)⟩
theorem tags6_tag : ∀ s ∈ tags6, isTag (.str s) = true := by decide +kernel
theorem TrD.t : ∀ {h : Nat} {d : PyData}, TrD h d → TrT h d
  | 0, _, t => t.elim
  | h + 1, d, t => by
    obtain ⟨s, ks, rfl, a, b⟩ := t
    exact ⟨s, ks, rfl, tags6_tag s a.2.2.2, fun k hk => TrD.t (b k hk)⟩
theorem nn_pos (d : PyData) : 1 ≤ nn d := by
  unfold nn
  split <;> omega
theorem tagKids_node {s : Str} {ks : List PyData} (h : isTag (.str s) = true) : tagKids (.tuple [.str s, .tuple ks]) = true := by
  rw [tagKids, h]
  rfl
theorem fold_room {l : Nat} : ∀ (ks : List PyData) (r : Nat), (∀ k ∈ ks, ∀ r, nn k ≤ r → roomB l k r = some (r - nn k)) → nnAll ks ≤ r → ks.foldl (fun o kd => o.bind (roomB l kd)) (some r) = some (r - nnAll ks)
  | [], r, _, _ => rfl
  | k :: ks, r, h, hr => by
    rw [nnAll] at hr
    rw [List.foldl_cons]
    show ks.foldl _ (roomB l k r) = _
    rw [h k (.head _) r (by omega), fold_room ks (r - nn k) (fun x hx => h x (.tail _ hx)) (by omega), nnAll]
    congr 1
    omega
theorem room_nn : ∀ {l : Nat} {d : PyData}, TrT l d → ∀ r, nn d ≤ r → roomB l d r = some (r - nn d)
  | 0, _, t, _, _ => t.elim
  | l + 1, _, ⟨s, ks, rfl, a, b⟩, r, hr => by
    rw [nn] at hr
    obtain ⟨r, rfl⟩ : ∃ r', r = r' + 1 := ⟨r - 1, by omega⟩
    rw [roomB, if_pos (tagKids_node a), kidsD, fold_room ks r (fun k hk => room_nn (b k hk)) (by omega), nn]
    congr 1
    omega
theorem fold_back {l : Nat} : ∀ (ks : List PyData) (r m : Nat), (∀ k ∈ ks, ∀ r m, roomB l k r = some m → TrT l k ∧ m + nn k = r) → ks.foldl (fun o kd => o.bind (roomB l kd)) (some r) = some m → (∀ k ∈ ks, TrT l k) ∧ m + nnAll ks = r
  | [], r, m, _, h => by
    cases h
    exact ⟨fun k hk => absurd hk List.not_mem_nil, rfl⟩
  | k :: ks, r, m, hk, h => by
    rw [List.foldl_cons] at h
    have h' : ks.foldl (fun o kd => o.bind (roomB l kd)) (roomB l k r) = some m := h
    cases c : roomB l k r with
    | none =>
      rw [c, fold_none] at h'
      cases h'
    | some m' =>
      rw [c] at h'
      obtain ⟨q1, q2⟩ := hk k (.head _) r m' c
      obtain ⟨q3, q4⟩ := fold_back ks m' m (fun x hx => hk x (.tail _ hx)) h'
      rw [nnAll]
      exact ⟨fun x hx => (List.mem_cons.mp hx).elim (fun z => by rw [z]; exact q1) (q3 x), by omega⟩
theorem tagKids_of {d : PyData} (h : tagKids d = true) : ∃ (s : Str) (ks : List PyData), d = .tuple [.str s, .tuple ks] ∧ isTag (.str s) = true := by
  unfold tagKids at h
  split at h
  · rename_i a b
    rw [Bool.and_eq_true] at h
    cases b with
    | tuple ks =>
      cases a with
      | str s => exact ⟨s, ks, rfl, h.1⟩
      | _ => exact absurd h.1 (by simp [isTag])
    | _ => exact absurd h.2 (by simp [isTup])
  · cases h
theorem room_back : ∀ {l : Nat} {d : PyData} {r m : Nat}, roomB l d r = some m → TrT l d ∧ m + nn d = r
  | 0, _, _, _, h => by rw [roomB] at h; cases h
  | l + 1, _, 0, _, h => by rw [roomB] at h; cases h
  | l + 1, d, r + 1, m, h => by
    rw [roomB] at h
    split at h
    · rename_i c
      obtain ⟨s, ks, rfl, hs⟩ := tagKids_of c
      rw [kidsD] at h
      obtain ⟨q1, q2⟩ := fold_back ks r m (fun k hk r m => room_back) h
      rw [nn]
      exact ⟨⟨s, ks, rfl, hs, q1⟩, by omega⟩
    · cases h
theorem tree_iff {d : PyData} : isTreeD d = true ↔ TrT 12 d ∧ nn d ≤ 60 := by
  unfold isTreeD
  constructor
  · intro h
    cases c : roomB 12 d 60 with
    | none => rw [c] at h; cases h
    | some m =>
      obtain ⟨q1, q2⟩ := room_back c
      exact ⟨q1, by omega⟩
  · intro h
    rw [room_nn h.1 60 h.2]
    rfl
theorem TrT.node {n : Nat} {d : PyData} (h : TrT n d) : ∃ (s : Str) (ks : List PyData), d = .tuple [.str s, .tuple ks] ∧ isTag (.str s) = true ∧ ∀ k ∈ ks, TrT (n - 1) k := by
  cases n with
  | zero => exact h.elim
  | succ n => exact h
theorem tag_small {s : Str} (h : isTag (.str s) = true) : 1 ≤ s.length ∧ s.length ≤ 8 ∧ PyData.strOk s = true := by
  rw [isTag, Bool.and_eq_true, Bool.and_eq_true] at h
  refine ⟨of_decide_eq_true h.1.1, of_decide_eq_true h.1.2, ?_⟩
  rw [PyData.strOk, ← Array.all_toList, List.all_eq_true]
  intro c hc
  have := List.all_eq_true.mp h.2 c hc
  unfold small at this
  rw [Bool.and_eq_true] at this
  have h2 := of_decide_eq_true this.2
  exact decide_eq_true (Nat.lt_of_le_of_lt h2 (by decide))
mutual
theorem TrT.gd : ∀ {h : Nat} {d : PyData}, TrT h d → Tl.gd d = true ∧ d.depth ≤ 2 * h ∧ wt d + 2 ≤ 96 * nn d ∧ noL d = true
  | 0, _, t => t.elim
  | h + 1, d, t => by
    obtain ⟨s, ks, rfl, a, b⟩ := t
    obtain ⟨a1, a2, a3⟩ := tag_small a
    obtain ⟨q1, q2, q3, q4⟩ := TrT.gds b
    refine ⟨?_, ?_, ?_, ?_⟩
    · rw [Tl.gd, gdAll, gdAll, gdAll, Tl.gd, Tl.gd, q1, a3, decide_eq_true (by omega)]
      rfl
    · simp only [PyData.depth, PyData.depthAll]
      omega
    · rw [wt_node, nn]
      omega
    · simp [noL, noLs, q4]
theorem TrT.gds : ∀ {h : Nat} {ks : List PyData}, (∀ k ∈ ks, TrT h k) → gdAll ks = true ∧ PyData.depthAll ks ≤ 2 * h ∧ wtAll ks ≤ 96 * nnAll ks ∧ noLs ks = true
  | h, [], _ => ⟨rfl, Nat.zero_le _, Nat.le_refl _, rfl⟩
  | h, k :: ks, hk => by
    obtain ⟨p1, p2, p3, p4⟩ := TrT.gd (hk k (.head _))
    obtain ⟨q1, q2, q3, q4⟩ := TrT.gds fun x hx => hk x (.tail _ hx)
    refine ⟨by rw [gdAll, p1, q1]; rfl, ?_, ?_, by rw [noLs, p4, q4]; rfl⟩
    · rw [PyData.depthAll]
      omega
    · rw [wtAll, nnAll]
      have := nn_pos k
      omega
end
end Tl
set_option Elab.async false
set_option linter.all false
set_option maxRecDepth 100000
set_option maxHeartbeats 4000000
/-! Flat rows of trees: the row, where parts end, where kids begin, and back. -/
set_option Elab.async false
set_option linter.all false
set_option maxRecDepth 100000
set_option maxHeartbeats 4000000
/-! Errors: raised with fields, caught, looked at. -/
namespace Tl
open PySem PySem.Spec PyProof.Rows L2
section
variable {K : PySem.W.Frag} {Wx Wout : WX} {RE : REx}
/-! ### try -/
/-- try .. except c as n: name j = n, looked at behind -/
@[reducible] def tryA (K : PySem.W.Frag) (c : Value) (i j : Nat) (TB : REx → TDS) (RE : REx) : TDS := fun D ρ M => TB (fun x ρ' M' => gO (PySem.W.exmOne K x.cls c) fun yes => IfB yes
  (i < ρ'.length ∧ (match x.cls with | .ref C => ∀ a dd, M' a = none → D.nx (put (put (put ρ' i (some (.x a C dd x.fs))) j (some (.x a C dd x.fs))) i none) (mset M' a (.exc C dd)) | _ => False)) (RE x ρ' M')) D ρ M
theorem ss_tryA {c : Value} {i j : Nat} {tb : WX → TS} {TB : REx → TDS} (hb : ∀ Wx RE, SSt K Wx RE (tb Wx) (TB RE)) :
    SSt K Wout RE (fun D σ H => tb (wKeep K c i (fun _ _ _ => tAsg (tVar i) (gName j)) Wout D) D σ H) (tryA K c i j TB RE) := fun F H M σ ρ D E hr hx hs ht k => by
  refine hb _ _ F H M σ ρ D E hr (fun F' H' M' σ' ρ' cls d x g r s xr hre => ?_) hs ht k
  obtain ⟨yes, h1, h2⟩ := gO_of hre
  have h2 := h2.ite
  refine ⟨yes, by rw [xr.1]; exact h1, fun hy a ha => ?_, fun hn => hx F' H' M' σ' ρ' cls d x g r s xr (by rw [hn, if_neg Bool.false_ne_true] at h2; exact h2)⟩
  rw [if_pos hy] at h2
  obtain ⟨hi, h4⟩ := h2
  cases hC : x.cls with
  | ref C =>
    rw [hC] at h4
    have hcls : cls = .ref C := xr.1.trans hC
    have hMa := r.new ha
    refine ⟨.ref a, by rw [List.getElem?_set_self (by rw [s.len]; exact hi)], ?_⟩
    have hFa := r.fh.free ha
    have s2 := ((s.set (.x (a := a) (C := C) xr.2) i).set (.x (a := a) (C := C) xr.2) j).del i none
    refine k.nx _ _ F' (mset M' a (.exc C d)) _ ⟨same_mut r.fh hFa, fun b o q => ?_, fun b o q => ?_⟩ ⟨g.ff, fun b u q n => ?_, g.nf⟩ s2 (h4 a d hMa)
    · by_cases z : b = a
      · rw [z]; exact hFa
      · rw [mset_ne z] at q; exact r.mf b o q
    · by_cases z : b = a
      · subst z
        rw [mset_same] at q
        cases q
        exact ⟨_, upd_same, by rw [hcls]; rfl⟩
      · rw [mset_ne z] at q
        rw [upd_ne z]
        exact r.at_ b o q
    · obtain ⟨q1, q2⟩ := g.un b u q n
      have z : b ≠ a := ne_of_none q1 ha
      rw [upd_ne z, mset_ne z]
      exact ⟨q1, q2⟩
  | _ => rw [hC] at h4; exact h4.elim
/-- try .. except c as n: a suite that looks at n -/
@[reducible] def tryB (K : PySem.W.Frag) (c : Value) (i : Nat) (TB : REx → TDS) (TU : Addr → Value → Option Addr → TDS) (RE : REx) : TDS := fun D ρ M => TB (fun x ρ' M' => gO (PySem.W.exmOne K x.cls c) fun yes => IfB yes
  (match x.cls with | .ref C => ∀ a dd, TU a (.ref C) dd ⟨fun ρ2 M2 => D.nx (put ρ2 i none) M2, D.rt, fun ρ2 M2 => D.bk (put ρ2 i none) M2, fun ρ2 M2 => D.ct (put ρ2 i none) M2⟩ (put ρ' i (some (.x a C dd x.fs))) M' | _ => False) (RE x ρ' M')) D ρ M
theorem ss_tryB {c : Value} {i : Nat} {ts : Addr → Value → Option Addr → TS} {TU : Addr → Value → Option Addr → TDS} {tb : WX → TS} {TB : REx → TDS} (hb : ∀ Wx RE, SSt K Wx RE (tb Wx) (TB RE)) (hu : ∀ a cls d, SSt K (fun _ _ _ _ => False) (fun _ _ _ => False) (ts a cls d) (TU a cls d)) :
    SSt K Wout RE (fun D σ H => tb (wAs K c i ts Wout D) D σ H) (tryB K c i TB TU RE) := fun F H M σ ρ D E hr hx hs ht k => by
  refine hb _ _ F H M σ ρ D E hr (fun F' H' M' σ' ρ' cls d x g r s xr hre => ?_) hs ht k
  obtain ⟨yes, h1, h2⟩ := gO_of hre
  have h2 := h2.ite
  refine ⟨yes, by rw [xr.1]; exact h1, fun hy a ha => ?_, fun hn => hx F' H' M' σ' ρ' cls d x g r s xr (by rw [hn, if_neg Bool.false_ne_true] at h2; exact h2)⟩
  rw [if_pos hy] at h2
  cases hC : x.cls with
  | ref C =>
    rw [hC] at h2
    have hcls : cls = .ref C := xr.1.trans hC
    subst hcls
    refine hu a (.ref C) d F' H' M' _ _ _ _ r (fun _ _ _ _ _ _ _ _ _ _ _ _ z => z) (s.set (.x (a := a) (C := C) xr.2) i) (h2 a d) ⟨fun σ2 H2 F2 M2 ρ2 r2 g2 s2 q => ?_, fun v H2 F2 M2 x2 r2 g2 => k.rt v H2 F2 M2 x2 r2 (g.trans g2), fun σ2 H2 F2 M2 ρ2 r2 g2 s2 q => ?_, fun σ2 H2 F2 M2 ρ2 r2 g2 s2 q => ?_⟩
    · exact k.nx _ H2 F2 M2 _ r2 (g.trans g2) (s2.del i none) q
    · exact k.bk _ H2 F2 M2 _ r2 (g.trans g2) (s2.del i none) q
    · exact k.ct _ H2 F2 M2 _ r2 (g.trans g2) (s2.del i none) q
  | _ => rw [hC] at h2; exact h2.elim
/-! ### isinstance of an error -/
@[reducible] def clsW : W → Option Value
  | .o (.ty n) => some (.type n)
  | .o (.ref C) => some (.ref C)
  | _ => none
theorem clsW_of {F : Hp} {v : V} {x : W} {c : Value} (r : RW K F v x) (h : clsW x = some c) : ClsV v c := by
  unfold clsW at h
  split at h
  · cases r; cases h; exact .ty _
  · cases r; cases h; exact .own _
  · cases h
theorem clsV_val {c : V} {cv : Value} (k : ClsV c cv) : ∀ u, RelV c u → u = cv := fun u r => k.eq r
theorem fx_dx {F H : Hp} {d : Option Addr} {fs : List (Str × PyData)} (e : Same F H) (h : FX K F d fs) : DxO H d := by
  cases d with
  | none => trivial
  | some dd =>
    obtain ⟨fv, h1, _⟩ := h
    exact ⟨fv, e _ _ h1⟩
/-- kept.n -/
theorem dx_lookup {F : Hp} {n : Str} : ∀ {fv : List (Str × V)} {fs : List (Str × PyData)} {y : PyData}, fv.map (·.1) = fs.map (·.1) → DxL K F (fv.map (·.2)) (fs.map (·.2)) → fs.lookup n = some y → ∃ v, fv.lookup n = some v ∧ Dx K F v y
  | [], [], _, _, _, h => by cases h
  | [], _ :: _, _, e, _, _ => by simp at e
  | _ :: _, [], _, e, _, _ => by simp at e
  | (f, v) :: fv, (g, d) :: fs, y, e, r, h => by
    simp only [List.map_cons, List.cons.injEq] at e
    obtain ⟨e1, e2⟩ := e
    subst e1
    cases r with
    | cons r1 r2 =>
      rw [List.lookup_cons] at h ⊢
      cases c : n == f with
      | true =>
        rw [c] at h
        cases h
        exact ⟨v, rfl, r1⟩
      | false =>
        rw [c] at h
        exact dx_lookup e2 r2 h
/-! ### within the suite -/
/-- isinstance(e, c), e the error that the suite holds -/
def rIsS (K : PySem.W.Frag) (a : Addr) (cls : Value) (d : Option Addr) : List V → Hp → VK → Prop := fun xs H Q => ∃ (D : Addr) (c : V) (cv : Value) (b : Bool), cls = .ref D ∧ xs = [.ref a, c] ∧ DxO H d ∧ ExcC K D ∧ (∀ u, RelV c u → u = cv) ∧ PySem.W.kitOne K (.ref D) cv = some b ∧ Q (.bl b) H
theorem su_inst {X : Cx} {a D : Addr} {d : Option Addr} {oe : Obj} {pn pins : List (Addr × Obj)} {σ : L2.St} {H : Hp} {s : Shared} (I : Inv (X.suite a ((a, oe) :: pn)) pins σ H s) (hz : Zc (.ref D) d oe) (hf : ∃ vs, oe.data = .fields vs) (hd : DxO H d) : ∃ od, PySem.W.InstAt s.heap a oe D od := by
  obtain ⟨hget, _⟩ := I.pin (a, oe) (List.mem_append.mpr (.inl List.mem_cons_self))
  obtain ⟨vs, hv⟩ := hf
  have no : PySem.W.notCls oe = true := by unfold PySem.W.notCls; rw [hv] <;> rfl
  cases d with
  | none => exact ⟨none, hget, hz.1, no, by rw [hz.2]; trivial⟩
  | some dd =>
    obtain ⟨fs, hf⟩ := hd
    obtain ⟨mA, hns, _⟩ : ∃ mA, s.heap.Ns1 dd mA ∧ ∀ f, RelO (fs.lookup f) (mA f) := I.hok dd _ hf
    obtain ⟨od, ho, _⟩ := lookIn_ns hns
    exact ⟨some od, hget, hz.1, no, by rw [hz.2]; exact ho⟩
theorem call_isS {X : Cx} {a : Addr} {cls : Value} {d : Option Addr} {oe : Obj} {pn : List (Addr × Obj)} (hz : Zc cls d oe) (hf : ∃ vs, oe.data = .fields vs) : CallR (X.suite a ((a, oe) :: pn)) (.builtin "isinstance") (rIsS X.K a cls d) := by
  intro pins s σ H xs us Q I r h
  obtain ⟨D, c, cv, b, rfl, rfl, hd, C, hc, hk, q⟩ := h
  rcases r with _ | ⟨rx, r⟩
  rcases r with _ | ⟨rt, r⟩
  cases r
  cases rx
  obtain rfl := hc _ rt
  obtain ⟨od, J⟩ := su_inst I hz hf hd
  obtain ⟨cd, hcd, _⟩ := PySem.W.any_some C.hd
  exact PySem.W.kia_one (PySem.W.kitx_exc (by rw [hcd]; rfl) C.hg C.hk C.hs C.ha C.hn C.ht C.hm) I.kIn J hk (fun z => nomatch z) fun tk => ⟨.bl b, H, I.kept (t' := tk) fun _ _ z => z, rfl, q⟩
@[reducible] def heldX (K : PySem.W.Frag) (a : Addr) (cls : Value) (d : Option Addr) (x : W) (k : Addr → Prop) : Prop := match x with | .x a' C dd _ => (a' = a ∧ cls = .ref C ∧ dd = d) ∧ ExcC K C ∧ k C | _ => False
theorem heldX_of {F H : Hp} {a : Addr} {cls : Value} {d : Option Addr} {v : V} {x : W} {k : Addr → Prop} (e : Same F H) (r : RW K F v x) (h : heldX K a cls d x k) : ∃ C, cls = .ref C ∧ v = .ref a ∧ DxO H d ∧ ExcC K C ∧ k C := by
  cases x with
  | x a' C dd fs =>
    obtain ⟨⟨rfl, h1, rfl⟩, h2, h3⟩ := h
    cases r with
    | x fx => exact ⟨C, h1, rfl, fx_dx e fx, h2, h3⟩
  | d _ => exact h.elim
  | r _ => exact h.elim
  | o _ => exact h.elim
@[reducible] def fIsS (K : PySem.W.Frag) (a : Addr) (cls : Value) (d : Option Addr) : FL := fun xs M R => g2 xs fun x y => heldX K a cls d x fun C => gO (clsW y) fun c => gO (PySem.W.kitOne K (.ref C) c) fun b => R (.d (.bool b)) M
theorem sc_isS {a : Addr} {cls : Value} {d : Option Addr} : SC K (rIsS K a cls d) (fIsS K a cls d) := fun F H M vs xs R Q hr rx hf k => by
  obtain ⟨x, y, rfl, h1⟩ := g2_of hf
  obtain ⟨v, u, rfl, r, r'⟩ := rx.two
  obtain ⟨C, e1, rfl, e2, e3, h2⟩ := heldX_of hr.fh r h1
  obtain ⟨c, h3, h4⟩ := gO_of h2
  obtain ⟨b, h5, h6⟩ := gO_of h4
  exact ⟨C, u, c, b, e1, rfl, e2, e3, clsV_val (clsW_of r' h3), h5, k _ H F M _ hr .refl (.d (.bl _)) h6⟩
end
end Tl
set_option Elab.async false
set_option linter.all false
set_option maxRecDepth 100000
set_option maxHeartbeats 4000000
/-! Further rules: a list extended by a tuple. -/
set_option Elab.async false
set_option linter.all false
set_option maxRecDepth 100000
set_option maxHeartbeats 4000000
/-! t[::-1] of a tuple; rows by their places. -/
set_option Elab.async false
set_option linter.all false
set_option maxRecDepth 100000
set_option maxHeartbeats 4000000
/-! What the readings are unfolded by. -/
namespace Tl
open PySem L2
theorem tyIs_int {d : PyData} : tyIs d "int" = some (isInt d) := by simp [tyIs]
theorem tyIs_bool {d : PyData} : tyIs d "bool" = some (isBl d) := by simp [tyIs]
theorem tyIs_str {d : PyData} : tyIs d "str" = some (isStr d) := by simp [tyIs]
theorem tyIs_tuple {d : PyData} : tyIs d "tuple" = some (isTup d) := by simp [tyIs]
theorem tyIs_list {d : PyData} : tyIs d "list" = some (isList d) := by simp [tyIs]
theorem map_c {α β : Type} {f : α → β} {a : α} {l : List α} : (a :: l).map f = f a :: l.map f := rfl
theorem map_n {α β : Type} {f : α → β} : ([] : List α).map f = [] := rfl
theorem app_c {α : Type} {a : α} {l r : List α} : (a :: l) ++ r = a :: (l ++ r) := rfl
theorem app_n {α : Type} {r : List α} : ([] : List α) ++ r = r := rfl
theorem len_c {α : Type} {a : α} {l : List α} : (a :: l).length = l.length + 1 := rfl
theorem len_n {α : Type} : ([] : List α).length = 0 := rfl
theorem rep_0 {α : Type} {a : α} : List.replicate 0 a = [] := rfl
theorem rep_s {α : Type} {a : α} {n : Nat} : List.replicate (n + 1) a = a :: List.replicate n a := rfl
theorem isE_c {α : Type} {a : α} {l : List α} : (a :: l).isEmpty = false := rfl
theorem isE_n {α : Type} : ([] : List α).isEmpty = true := rfl
theorem IfB.nil {ds : List PyData} {A B : Prop} (h : IfB ds.isEmpty A B) : IfB (PyData.eqv (.list ds) (.list [])) A B := by
  cases ds <;> exact h
theorem IfB.nilT {ds : List PyData} {A B : Prop} (h : IfB ds.isEmpty A B) : IfB (PyData.eqv (.tuple ds) (.tuple [])) A B := by
  cases ds <;> exact h
theorem at_0 {α : Type} {x0 : α} {r : List α} : atI (x0 :: r) 0 = some x0 := atI_nat (j := 0) rfl
theorem at_m0 {α β : Type} {f : α → β} {x0 : α} {r : List α} : atI ((x0 :: r).map f) 0 = some (f x0) := atI_nat (j := 0) rfl
theorem at_1 {α : Type} {x0 x1 : α} {r : List α} : atI (x0 :: x1 :: r) 1 = some x1 := atI_nat (j := 1) rfl
theorem at_m1 {α β : Type} {f : α → β} {x0 x1 : α} {r : List α} : atI ((x0 :: x1 :: r).map f) 1 = some (f x1) := atI_nat (j := 1) rfl
theorem at_2 {α : Type} {x0 x1 x2 : α} {r : List α} : atI (x0 :: x1 :: x2 :: r) 2 = some x2 := atI_nat (j := 2) rfl
theorem at_m2 {α β : Type} {f : α → β} {x0 x1 x2 : α} {r : List α} : atI ((x0 :: x1 :: x2 :: r).map f) 2 = some (f x2) := atI_nat (j := 2) rfl
theorem at_3 {α : Type} {x0 x1 x2 x3 : α} {r : List α} : atI (x0 :: x1 :: x2 :: x3 :: r) 3 = some x3 := atI_nat (j := 3) rfl
theorem at_m3 {α β : Type} {f : α → β} {x0 x1 x2 x3 : α} {r : List α} : atI ((x0 :: x1 :: x2 :: x3 :: r).map f) 3 = some (f x3) := atI_nat (j := 3) rfl
theorem at_4 {α : Type} {x0 x1 x2 x3 x4 : α} {r : List α} : atI (x0 :: x1 :: x2 :: x3 :: x4 :: r) 4 = some x4 := atI_nat (j := 4) rfl
theorem at_m4 {α β : Type} {f : α → β} {x0 x1 x2 x3 x4 : α} {r : List α} : atI ((x0 :: x1 :: x2 :: x3 :: x4 :: r).map f) 4 = some (f x4) := atI_nat (j := 4) rfl
theorem at_5 {α : Type} {x0 x1 x2 x3 x4 x5 : α} {r : List α} : atI (x0 :: x1 :: x2 :: x3 :: x4 :: x5 :: r) 5 = some x5 := atI_nat (j := 5) rfl
theorem at_m5 {α β : Type} {f : α → β} {x0 x1 x2 x3 x4 x5 : α} {r : List α} : atI ((x0 :: x1 :: x2 :: x3 :: x4 :: x5 :: r).map f) 5 = some (f x5) := atI_nat (j := 5) rfl
theorem at_6 {α : Type} {x0 x1 x2 x3 x4 x5 x6 : α} {r : List α} : atI (x0 :: x1 :: x2 :: x3 :: x4 :: x5 :: x6 :: r) 6 = some x6 := atI_nat (j := 6) rfl
theorem at_m6 {α β : Type} {f : α → β} {x0 x1 x2 x3 x4 x5 x6 : α} {r : List α} : atI ((x0 :: x1 :: x2 :: x3 :: x4 :: x5 :: x6 :: r).map f) 6 = some (f x6) := atI_nat (j := 6) rfl
theorem at_7 {α : Type} {x0 x1 x2 x3 x4 x5 x6 x7 : α} {r : List α} : atI (x0 :: x1 :: x2 :: x3 :: x4 :: x5 :: x6 :: x7 :: r) 7 = some x7 := atI_nat (j := 7) rfl
theorem at_m7 {α β : Type} {f : α → β} {x0 x1 x2 x3 x4 x5 x6 x7 : α} {r : List α} : atI ((x0 :: x1 :: x2 :: x3 :: x4 :: x5 :: x6 :: x7 :: r).map f) 7 = some (f x7) := atI_nat (j := 7) rfl
theorem exW {o : Option MO} {ws : List W} {k : List W → Prop} (h : o = some (.lst ws)) (q : k ws) : ∃ ws, o = some (.lst ws) ∧ k ws := ⟨ws, h, q⟩
theorem gDs_i {ds : List PyData} {k : List PyData → Prop} (q : k ds) : gDs (ds.map W.d) k := by rw [gDs_map]; exact q
end Tl
set_option Elab.async false
set_option linter.all false
set_option maxRecDepth 100000
set_option maxHeartbeats 4000000
namespace Tl
open PySem L2
mutual
theorem gd_nd : ∀ d : PyData, gd d = true → d.hasDict = false
  | .none, _ => rfl
  | .bool _, _ => rfl
  | .int _, _ => rfl
  | .str _, _ => rfl
  | .list ds, h => by rw [gd] at h; rw [PyData.hasDict]; exact gds_nd ds h
  | .tuple ds, h => by rw [gd] at h; rw [PyData.hasDict]; exact gds_nd ds h
  | .dict _, h => Bool.noConfusion h
theorem gds_nd : ∀ ds : List PyData, gdAll ds = true → PyData.hasDictAll ds = false
  | [], _ => rfl
  | d :: ds, h => by
    rw [gdAll, Bool.and_eq_true] at h
    rw [PyData.hasDictAll, gd_nd d h.1, gds_nd ds h.2]
    rfl
end
end Tl
set_option Elab.async false
set_option linter.all false
set_option maxRecDepth 100000
set_option maxHeartbeats 4000000
/-! The empty dict; one of some; rows that are good to be shown, cut and put together. -/
namespace Tl
open PySem L2
theorem at_mem {α : Type} {xs : List α} {r : Int} (h0 : 0 ≤ r) (h1 : r < (xs.length : Nat)) : ∃ x, atI xs r = some x ∧ x ∈ xs := by
  obtain ⟨n, rfl⟩ : ∃ n : Nat, r = (n : Int) := ⟨r.toNat, by omega⟩
  have hn : n < xs.length := by omega
  exact ⟨xs[n], atI_nat (List.getElem?_eq_getElem hn), List.getElem_mem hn⟩
/-- good to be shown, of a weight and a depth -/
def Gk (m k : Nat) (d : PyData) : Prop := gd d = true ∧ wt d ≤ m ∧ d.depth ≤ k
def Gks (m k : Nat) (ds : List PyData) : Prop := gdAll ds = true ∧ wtAll ds ≤ m ∧ PyData.depthAll ds ≤ k
def GdE (d : PyData) : Prop := Gk 1000000 40 d ∨ d = .dict []
theorem Gk.mono {m k m' k' : Nat} {d : PyData} (h : Gk m k d) (h1 : m ≤ m') (h2 : k ≤ k') : Gk m' k' d := ⟨h.1, Nat.le_trans h.2.1 h1, Nat.le_trans h.2.2 h2⟩
theorem Gks.nil {m k : Nat} : Gks m k [] := ⟨rfl, Nat.zero_le _, Nat.zero_le _⟩
theorem Gks.cons {m k m' m'' : Nat} {d : PyData} {ds : List PyData} (h : Gk m k d) (h' : Gks m' k ds) (e : m + 2 + m' ≤ m'') : Gks m'' k (d :: ds) := by
  refine ⟨by rw [gdAll, h.1, h'.1]; rfl, ?_, ?_⟩
  · rw [wtAll]
    have := h.2.1
    have := h'.2.1
    omega
  · rw [PyData.depthAll]
    have := h.2.2
    have := h'.2.2
    omega
theorem Gks.tup {m k m' : Nat} {ds : List PyData} (h : Gks m k ds) (e : 3 + m ≤ m') : Gk m' (k + 1) (.tuple ds) := ⟨by rw [gd]; exact h.1, by rw [wt]; have := h.2.1; omega, by rw [PyData.depth]; have := h.2.2; omega⟩
theorem Gks.lst {m k m' : Nat} {ds : List PyData} (h : Gks m k ds) (e : 3 + m ≤ m') : Gk m' (k + 1) (.list ds) := ⟨by rw [gd]; exact h.1, by rw [wt]; have := h.2.1; omega, by rw [PyData.depth]; have := h.2.2; omega⟩
theorem Gks.app {m k m' m'' : Nat} {a b : List PyData} (h : Gks m k a) (h' : Gks m' k b) (e : m + m' ≤ m'') : Gks m'' k (a ++ b) := by
  refine ⟨by rw [gdAll_app, h.1, h'.1]; rfl, ?_, ?_⟩
  · rw [wtAll_app]
    have := h.2.1
    have := h'.2.1
    omega
  · rw [depthAll_app]
    have := h.2.2
    have := h'.2.2
    omega
theorem Gks.of_app {m k : Nat} {a b : List PyData} (h : Gks m k (a ++ b)) : Gks m k a ∧ Gks m k b := by
  obtain ⟨h1, h2, h3⟩ := h
  rw [gdAll_app, Bool.and_eq_true] at h1
  rw [wtAll_app] at h2
  rw [depthAll_app] at h3
  exact ⟨⟨h1.1, by omega, by omega⟩, h1.2, by omega, by omega⟩
theorem Gks.take {m k : Nat} {ds : List PyData} (h : Gks m k ds) (n : Nat) : Gks m k (ds.take n) := by
  rw [← List.take_append_drop n ds] at h
  exact h.of_app.1
theorem Gks.drop {m k : Nat} {ds : List PyData} (h : Gks m k ds) (n : Nat) : Gks m k (ds.drop n) := by
  rw [← List.take_append_drop n ds] at h
  exact h.of_app.2
theorem Gks.rev {m k : Nat} {ds : List PyData} (h : Gks m k ds) : Gks m k ds.reverse := by
  induction ds generalizing m with
  | nil => exact h
  | cons a r ih =>
    obtain ⟨h1, h2, h3⟩ := h
    rw [gdAll, Bool.and_eq_true] at h1
    rw [wtAll] at h2
    rw [PyData.depthAll] at h3
    rw [List.reverse_cons]
    exact Gks.app (m := wtAll r) (m' := wt a + 2) (ih ⟨h1.2, Nat.le_refl _, by omega⟩) (Gks.cons (m := wt a) (m' := 0) ⟨h1.1, Nat.le_refl _, by omega⟩ Gks.nil (Nat.le_refl _)) (by omega)
theorem Gks.get {m k : Nat} {ds : List PyData} {d : PyData} (h : Gks m k ds) (hd : d ∈ ds) : Gk m k d := by
  obtain ⟨i, hi, rfl⟩ := List.getElem_of_mem hd
  obtain ⟨q1, q2, q3⟩ := gdAll_get h.1 (List.getElem?_eq_getElem hi)
  have := h.2.1
  have := h.2.2
  exact ⟨q1, by omega, by omega⟩
theorem gk_int {i : Int} {m k : Nat} (h : i.natAbs < 10 ^ 41) (hm : 1930 ≤ m) : Gk m k (.int i) := ⟨by rw [gd]; exact decide_eq_true h, by rw [wt]; exact hm, Nat.zero_le _⟩
theorem gk_str {s : Str} {m k : Nat} (h : s.length ≤ 1000) (h2 : PyData.strOk s = true) (hm : 10 * s.length + 4 ≤ m) : Gk m k (.str s) := ⟨by rw [gd, decide_eq_true h, h2]; rfl, by rw [wt]; exact hm, Nat.zero_le _⟩
theorem gk_none {m k : Nat} (hm : 4 ≤ m) : Gk m k .none := ⟨rfl, hm, Nat.zero_le _⟩
theorem strOk_app {a b : Str} (h1 : PyData.strOk a = true) (h2 : PyData.strOk b = true) : PyData.strOk (a ++ b) = true ∧ (a ++ b).length = a.length + b.length := by
  refine ⟨?_, strLen_append a b⟩
  rw [PyData.strOk, ← Array.all_toList, List.all_eq_true] at h1 h2 ⊢
  intro c hc
  have e : (a ++ b).cps.toList = a.cps.toList ++ b.cps.toList := by
    show (a.cps ++ b.cps).toList = _
    rw [Array.toList_append]
  rw [e] at hc
  rcases List.mem_append.mp hc with hc | hc
  · exact h1 c hc
  · exact h2 c hc
theorem gO_atD {ds : List PyData} {r : Int} {k : W → Prop} (Pq : PyData → Prop) (h0 : 0 ≤ r) (h1 : r < (ds.length : Nat)) (hp : ∀ d ∈ ds, Pq d) (q : ∀ d, Pq d → k (W.d d)) : gO (atI (ds.map W.d) r) k := by
  obtain ⟨d, e, hm⟩ := at_mem (xs := ds) h0 h1
  refine gO_i (a := W.d d) ?_ (q d (hp d hm))
  rw [atI_map, e]
  rfl
theorem all1 {α : Type} {P : α → Prop} {a : α} {l : List α} (h : P a) (t : ∀ x ∈ l, P x) : ∀ x ∈ a :: l, P x := fun x hx => (List.mem_cons.mp hx).elim (fun z => by rw [z]; exact h) (t x)
theorem all0 {α : Type} {P : α → Prop} : ∀ x ∈ ([] : List α), P x := fun x hx => absurd hx List.not_mem_nil
theorem GdE.txt {d : PyData} (h : GdE d) : txt d = true := by
  rcases h with h | rfl
  · exact gd_txt d h.1
  · rfl
theorem GdE.sh {d : PyData} (h : GdE d) : (d.hasDict = false ∨ d = .dict []) ∧ shOk d := by
  rcases h with h | rfl
  · refine ⟨.inl (gd_nd d h.1), gd_show d h.1, by have := h.2.2; omega, ?_⟩
    have := shown_le d h.1
    have h2 := h.2.1
    exact Nat.le_trans (Nat.le_trans this h2) (by decide)
  · exact ⟨.inr rfl, by decide +kernel, by decide +kernel, by decide +kernel⟩
end Tl
set_option Elab.async false
set_option linter.all false
set_option maxRecDepth 100000
set_option maxHeartbeats 4000000
/-! A def called at one place alone (what stands around it is known), and a law's end by it. -/
namespace Tl
open PySem PySem.Spec PyProof.Rows L2
theorem run_at {P : Program} {w : World} {K : PySem.W.Frag} {mg : Str → Option Value} {base : Heap} {k : Nat} {f : Addr} {fd : FuncData} {x qual : Str} {st : Stmt} {N ps : List Str} {A0 : Around} {outer : List Env} {s : Shared} {H : Hp} {args : Args} {us : List Value} {vs : List V} {Q : VK} {E : XK}
    (F : Fun K x qual st f fd) (S : FnScope N ps (defScope st)) (hr : Room (k + 1) A0) (e0 : Env0 P w K mg base A0 outer s H) (hb : BindsTo s fd args (ps.zip us)) (r : Vals vs us) (hl : vs.length = ps.length)
    (body : ∀ cdv : Value, Room k (A0.deeper (envOfC qual (defScope st) s.heap.objs.size f cdv)) →
      ∃ t, PSs (cxOf CX0 P w K mg base N qual (defScope st) f cdv A0 outer s H E).nox (defBody st) t ∧ t { nx := fun _ H' => Q .non H', rt := Q } (start N vs) H) :
    codeAny (model P w) A0 (.call (.ref f) args) (CR CX0 outer P w H s Q E) s := by
  obtain ⟨oc, od, kV, doc, pm, an, cdv, ct, osl, rfl, lk, hcd⟩ := F.ex
  have keep : ∀ b o, base.get? b = some o → s.heap.get? b = some o := fun b o q => (e0.bs b o q).1
  have KX : K.In s.heap := e0.mod.kin.keeps keep
  have hkind : ∀ y ∈ ps.zip us, (defScope st).names.lookup y.1 = some .local ∨
      ((defScope st).names.lookup y.1 = some .cell ∧ ((cellsFrom (s.heap.objs.size + 1) (defScope st).names []).lookup y.1).isSome = true) := by
    rintro ⟨n, v⟩ hy
    exact (S.par n (List.of_mem_zip hy).1).imp id fun q => ⟨q, PySem.W.cellsFrom_some _ _ _ (.inl q)⟩
  refine codeAny_call_function hr.depth (KX _ _ lk) rfl S.co S.gen rfl
    (PySem.W.codeRec_of KX hcd) (hb _ _ _ _ ?_)
  refine wpAny_newFunctionEnv_cells S.kind hkind fun env he s1 xx => ?_
  subst he
  refine ⟨(e0.mod.nolimit.keeps keep).keeps xx.toInCall.keep, codeAny_func ?_⟩
  obtain ⟨t, ht, hq⟩ := body cdv (hr.deeper _)
  have I := inv_start (CX := CX0) (E := E) S hr.hd e0 hl r xx
  refine wpAny_mono (ht.nox.run [] s1 (start N vs) H _ I hq) (fun fl s' hs => ?_) fun e s' hs => hs
  cases fl with
  | ret u =>
    obtain ⟨v, σ', H', J, rv, q⟩ := hs
    exact ⟨v, H', J.os, J.bare, J.base, J.hok, rv, q⟩
  | next =>
    obtain ⟨σ', H', J, q⟩ := hs
    exact ⟨V.non, H', J.os, J.bare, J.base, J.hok, rfl, q⟩
  | brk =>
    obtain ⟨_, _, _, q⟩ := hs
    exact q.elim
  | cont =>
    obtain ⟨_, _, _, q⟩ := hs
    exact q.elim
/-- what is tracked as a law begins: nothing, or the script alone, locked -/
def onlyAt (a : Addr) (o : Obj) (xs : List V) : Hp := fun b => if b = a then some (.frz o (.lst xs)) else none
theorem end_at {P : Program} {w : World} {K : PySem.W.Frag} {mg mb : Str → Option Value} {fa a : Addr} {s₁ : Shared} {vs : List Value} {ns : List Int}
    (KX : K.In s₁.heap) (hns : s₁.heap.Ns mainGlobals mg) (hmb : s₁.heap.Ns builtinsNs mb) (hbb : ∀ x : Str, x ≠ "__name__" → mb x = bootBuiltins x)
    (hlim : s₁.heap.NoLimit) (hg : s₁.gens = #[]) (ha : s₁.heap.get? a = some { cls := .type "list", data := .seq vs.toArray }) (hi : IntsAre vs ns) (hl : ns.length ≤ sizeLine)
    (run : ∀ (base : Heap) (H : Hp), K.In base → base.Ns mainGlobals mg → SqL K H a (ns.map V.int) → Env0 P w K mg base callerA [] s₁ H →
      codeAny (model P w) callerA (.call (.ref fa) ⟨[.ref a], []⟩) (CR CX0 [] P w H s₁ (fun v _ => v = V.bl true) fun _ _ _ => False) s₁) :
    codeAny (model P w) callerA (.call (.ref fa) ⟨[.ref a], []⟩)
      (fun r s' => r = .ok (.ret (.bool true)) ∧ OldK s₁.heap s'.heap ∧ s'.os = s₁.os ∧ AllBare s'.gens) s₁ := by
  have rv := vals_ints hi
  have go : ∀ H : Hp, (∀ b u, H b = some u → b = a ∧ ∃ o xs, u = .frz o (.lst xs)) → SqL K H a (ns.map V.int) → HOk P w H s₁.heap → (H a ≠ none → K.lookup a = none) →
      codeAny (model P w) callerA (.call (.ref fa) ⟨[.ref a], []⟩)
        (fun r s' => r = .ok (.ret (.bool true)) ∧ OldK s₁.heap s'.heap ∧ s'.os = s₁.os ∧ AllBare s'.gens) s₁ := by
    intro H hO hS hok hK
    have bo : ∀ {b : Addr} {o : Obj}, s₁.heap.get? b = some o → H b = none → (hidT s₁.heap H).get? b = some o := fun q n => hidT_get q n
    have nd : ∀ {b : Addr} {o : Obj} {es : Array DictEntry} {ep : Nat}, s₁.heap.get? b = some o → o.data = .dict es ep → H b = none := by
      intro b o es ep q d
      cases z : H b with
      | none => rfl
      | some u =>
        obtain ⟨rfl, _⟩ := hO b u z
        rw [ha] at q
        cases q
        have d' : Data.seq vs.toArray _ = Data.dict es ep := d
        cases d'
    have nsK : ∀ {b : Addr} {m : Str → Option Value}, s₁.heap.Ns b m → (hidT s₁.heap H).Ns b m := by
      rintro b m ⟨o, es, ep, q, d, r⟩
      exact ⟨o, es, ep, bo q (nd q d), d, r⟩
    have hKb : K.In (hidT s₁.heap H) := fun b o q => bo (KX b o q) (by
      cases z : H b with
      | none => rfl
      | some u =>
        obtain ⟨rfl, _⟩ := hO b u z
        have := hK (by rw [z]; exact fun y => nomatch y)
        rw [this] at q
        cases q)
    obtain ⟨mc, l1, l2⟩ := hlim
    have hM : Mod K mg (hidT s₁.heap H) := ⟨hKb, nsK hns, ⟨mb, nsK hmb, hbb⟩, ⟨mc, nsK l1, l2⟩⟩
    have e0 : Env0 P w K mg (hidT s₁.heap H) callerA [] s₁ H :=
      ⟨rfl, hM, fun b o q => of_hidT q, Nat.le_of_eq (hidT_size _ _), trivial, fun b hb => absurd (show b ∈ ([] : List Addr) from hb) (by simp), hok, .of_eq hg⟩
    refine codeAny_mono (run _ H hKb (nsK hns) hS e0) fun r s' h => ?_
    cases r with
    | error e => exact h.elim
    | ok fl =>
      cases fl with
      | ret u =>
        obtain ⟨v, H', os, bare, un, hok', r', q⟩ := h
        have q' : v = .bl true := q
        subst q'
        obtain rfl : u = Value.bool true := r'
        refine ⟨rfl, OldK.of_keep fun b o e => ?_, os, bare⟩
        cases z : H b with
        | none => exact un.keep b o e z (fun y => absurd (show b ∈ ([] : List Addr) from y) (by simp)) (by simp)
        | some u =>
          obtain ⟨rfl, ob, xs, rfl⟩ := hO b u z
          have z2 := un.frzs b ob _ z
          obtain ⟨e1, _⟩ := hok b _ z
          obtain ⟨e2, _⟩ := hok' b _ z2
          rw [e] at e1
          cases e1
          exact e2
      | next => exact h.elim
      | brk => exact h.elim
      | cont => exact h.elim
  have lenV := hi.length
  cases hk : K.lookup a with
  | some o =>
    have e := KX a o hk
    rw [ha] at e
    cases e
    have no : ∀ (b : Addr) (u : HO), (fun _ : Addr => (none : Option HO)) b = some u → False := fun b u z => by
      have z' : (none : Option HO) = some u := z
      cases z'
    exact go (fun _ => none) (fun b u z => (no b u z).elim) (.inr ⟨_, vs.toArray, _, hk, rfl, rfl, rfl, by rw [List.size_toArray, lenV]; exact hl, by simpa using rv⟩)
      (fun b u z => (no b u z).elim) fun z => absurd rfl z
  | none =>
    have at_a : onlyAt a { cls := .type "list", data := .seq vs.toArray } (ns.map V.int) a = some (.frz { cls := .type "list", data := .seq vs.toArray } (.lst (ns.map V.int))) := if_pos rfl
    have only : ∀ b u, onlyAt a { cls := .type "list", data := .seq vs.toArray } (ns.map V.int) b = some u → b = a ∧ u = .frz { cls := .type "list", data := .seq vs.toArray } (.lst (ns.map V.int)) := fun b u z => by
      unfold onlyAt at z
      by_cases hb : b = a
      · rw [if_pos hb] at z
        exact ⟨hb, (Option.some.inj z).symm⟩
      · rw [if_neg hb] at z
        cases z
    refine go (onlyAt a { cls := .type "list", data := .seq vs.toArray } (ns.map V.int)) (fun b u z => ?_) (.inl (.inr ⟨_, at_a⟩)) (fun b u z => ?_) fun _ => hk
    · obtain ⟨h1, h2⟩ := only b u z
      exact ⟨h1, _, _, h2⟩
    · obtain ⟨rfl, rfl⟩ := only b u z
      exact ⟨ha, by rw [List.length_map]; exact hl, vs, _, rv, ha⟩
theorem walk_at_top {l : PySem.W.OpenLaw} {n : Nat} {q : Program} {loose : List Str} {XP : (Str → Option Value) → Heap → Prop} {YP : World → Heap → Prop} {d : DefRec} {K : Params → PySem.W.Frag}
    (hn : l.most = some n) (hn2 : n ≤ sizeLine) (hdf : d.params.defaults = []) (hY : ∀ (w : World) (h : Heap), YP w h → (K w.params).In h)
    (F : ∀ (w : World) (mg : Str → Option Value) (fa : Addr) (h : Heap), (K w.params).In h → h.Ns mainGlobals mg → mg d.name = some (.ref fa) →
      ∀ (s₁ : Shared) (base : Heap) (H : Hp) (a : Addr) (ns : List Int), ns.length ≤ n → (K w.params).In base → base.Ns mainGlobals mg → SqL (K w.params) H a (ns.map V.int) → Env0 l.prog w (K w.params) mg base callerA [] s₁ H →
        codeAny (model l.prog w) callerA (.call (.ref fa) ⟨[.ref a], []⟩) (CR CX0 [] l.prog w H s₁ (fun v _ => v = V.bl true) fun _ _ _ => False) s₁) :
    PySem.W.WalkO q loose XP YP l.row.toRowW d [] (fun f vs => PySem.call f vs) := by
  refine Att.attach_call hn hdf fun w s₀ s₁ mg mb fa o pm cd doc a vs ns G Y ho hd hcd hmg hobj hints hlen hg => ?_
  have KX := hY w _ Y
  exact end_at KX G.T.g G.T.b G.T.builtins G.T.nolimit hg hobj hints (Nat.le_trans hlen hn2)
    fun base H h1 h2 h3 h4 => F w mg fa _ KX G.T.g hmg s₁ base H a ns hlen h1 h2 h3 h4
end Tl
set_option Elab.async false
set_option linter.all false
set_option maxRecDepth 100000
set_option maxHeartbeats 4000000
/-! Defs that show things: they are run where no text is being made. -/
namespace Tl
open PySem PySem.Spec PyProof.Rows L2
/-- a promise of a def that is kept where nothing is being shown -/
structure FnG (P : Program) (w : World) (K : PySem.W.Frag) (mg : Str → Option Value) (base : Heap) (k : Nat) (f : Addr) (fd : FuncData) (ps : List Str) (sp : Sp) : Prop where
  len : ∀ vs H Q E, sp vs H Q E → vs.length = ps.length
  run : ∀ (A : Around) (st : List Env) (s : Shared) (H : Hp) (args : Args) (us : List Value) (vs : List V) (Q : VK) (E : XK), A.guards = some [] → Room k A → Env0 P w K mg base A st s H → BindsTo s fd args (ps.zip us) → Vals vs us → sp vs H Q E →
    codeAny (model P w) A (.call (.ref f) args) (CR CX0 st P w H s Q E) s
structure UseG (P : Program) (w : World) (K : PySem.W.Frag) (mg : Str → Option Value) (base : Heap) (x : Str) (ps : List Str) (k : Nat) (sp : Sp) where
  f : Addr
  fd : FuncData
  ok : FnG P w K mg base k f fd ps sp
  m : mg x = some (.ref f)
  kp : PySem.W.keepIn K (.ref f) = true
  b : Binds K fd ps []
section
variable {X : Cx} {k : Nat} {f : Addr} {fd : FuncData} {ps : List Str} {sp : Sp} {E : XK} {x : Str} {p pos : Pos} {e : Expr} {es : List Expr} {t : TA}
theorem run_G {pins : List (Addr × Obj)} {σ : L2.St} {H : Hp} {s : Shared} {Q : VK} {us : List Value} {vs : List V} (F : FnG X.prog X.w X.K X.mg X.base k f fd ps sp) (hr : Room k X.A) (g : X.A.guards = some []) (hb : Binds X.K fd ps [])
    (I : Inv X pins σ H s) (r : Vals vs us) (h : sp vs H Q E) : wpAny (model X.prog X.w) X.A (call (.ref f) us) (EP X pins σ Q) X.xe s := by
  have hl : us.length = ps.length := by
    rw [← r.length]
    exact F.len _ _ _ _ h
  have hB := hb s us I.kIn (by rw [List.append_nil]; exact hl)
  rw [List.append_nil] at hB
  refine wpAny_call (codeAny_mono (F.run X.A X.stack s H _ us vs Q E g hr I.env0 hB r h) fun z s' hq => ?_)
  match z, hq with
  | .ok (.ret u), hq => exact I.after hq
theorem pe_callG (F : FnG X.prog X.w X.K X.mg X.base k f fd ps sp) (hr : Room k X.A) (g : X.A.guards = some []) (hg : Gl X x) (hm : X.mg x = some (.ref f)) (hk : PySem.W.keepIn X.K (.ref f) = true) (hb : Binds X.K fd ps [])
    (ha : PA X (e :: es) t) (hdb : (x == ("__debug__" : Str)) = false := by decide) (he : starEach (e :: es) X.env = (false, eval e X.env) :: starEach es X.env := by rfl)
    (hpl : (backTo pos (starEach es X.env)).any (·.1) = false := by rfl) : PE X (.Call (.Name x p) (e :: es) [] pos) (tCall sp [] E t) :=
  ⟨fun pn s σ H Q I h => wpAny_Call_Name_kw (ld_glob I hg hm (PySem.W.callWith_K (h₀ := X.base) I.ok.mod.kin hk
    (thn (ha.run pos pn s σ H _ I h) fun us s1 ⟨vs, H1, I1, r, q⟩ => ⟨I1.kIn, run_G (E := E) F hr g hb I1 r (List.append_nil vs ▸ q)⟩) he hpl) hdb)⟩
end
section
variable {P : Program} {w : World} {K : PySem.W.Frag} {mg : Str → Option Value} {base : Heap}
theorem okDG {f : Addr} {fd : FuncData} {k n : Nat} {x qual : Str} {st : Stmt} {N ps : List Str} {tf : TF} (F : Fun K x qual st f fd) (S : FnScope N ps (defScope st)) (hp : ps.length = n)
    (hb : ∀ (cdv : Value) (A : Around) (outer : List Env) (s : Shared) (H : Hp) (E : XK), (A.deeper (PyProof.Rows.envOfC qual (defScope st) s.heap.objs.size f cdv)).guards = some [] → Room k (A.deeper (PyProof.Rows.envOfC qual (defScope st) s.heap.objs.size f cdv)) →
      ∃ (t : TS) (T : TDS), PSs (cxOf CX0 P w K mg base N qual (defScope st) f cdv A outer s H E).nox (defBody st) t ∧ SSt K (fun _ _ _ _ => False) (fun _ _ _ => False) t T ∧
        ∀ ws M R RX, ws.length = n → tf ws M R RX → T (endD (lax R)) (start0 N.length ws) M) : FnG P w K mg base (k + 1) f fd ps (spD K n tf) := by
  refine ⟨fun vs H Q E h => ?_, fun A outer s H args us vs Q E hg hr e0 hB rv h => ?_⟩
  · obtain ⟨F0, M, ws, R, RX, r, rs, hl, _⟩ := h
    rw [rs.len, hl, hp]
  · obtain ⟨F0, M, ws, R, RX, r, rs, hl, hf, hk, _⟩ := h
    refine run_at F S hr e0 hB rv (by rw [rs.len, hl, hp]) fun cdv hr2 => ?_
    obtain ⟨t, T, h1, h2, h3⟩ := hb cdv A outer s H E hg hr2
    exact ⟨t, h1, h2 F0 H M _ _ _ _ r (fun F' H' M' σ ρ cls d x _ _ _ _ z => z) (rel_start rs) (h3 ws M R RX hl hf) (ek_def (kt_lax hk))⟩
end
end Tl
set_option Elab.async false
set_option linter.all false
set_option maxRecDepth 100000
set_option maxHeartbeats 4000000
/-! A law that makes its source of numbers by its first row. -/
namespace Tl
open PySem PySem.Spec PyProof.Rows L2
/-- a new source of numbers, from a script -/
def spState (K : PySem.W.Frag) : Sp := fun vs H Q _ => ∃ (a : Addr) (ns : List Int), vs = [.ref a] ∧ SqL K H a (ns.map V.int) ∧ ∀ (st c : Addr) (cs : List Int) (z : Int) (H' : Hp), Same H H' → H st = none → H c = none → c ≠ st → H' st = some (.lst [.ref c, .int 0, .int 0, .int z]) → H' c = some (.lst (cs.map V.int)) → 0 < cs.length → cs.length ≤ 63 → 0 ≤ z → z < 2147483647 → Q (.ref st) H'
section
variable {P : Program} {w : World} {K : PySem.W.Frag} {mg : Str → Option Value} {base : Heap}
theorem src_new {H : Hp} {sa c : Addr} {cs : List Int} {z : Int} (n : c ≠ sa) (h1 : H sa = some (.lst [.ref c, .int 0, .int 0, .int z])) (h2 : H c = some (.lst (cs.map V.int))) (l0 : 0 < cs.length) (l1 : cs.length ≤ 63) (z0 : 0 ≤ z) (z1 : z < 2147483647) : ∃ F M, Rl K F H M ∧ M sa = some (.src true) := by
  refine ⟨fun b => if b = c then some (.lst (cs.map V.int)) else none, fun b => if b = sa then some (.src true) else none, ⟨fun b u q => ?_, fun b o q => ?_, fun b o q => ?_⟩, if_pos rfl⟩
  · have q' : (if b = c then some (HO.lst (cs.map V.int)) else none) = some u := q
    split at q'
    · rename_i e
      rw [e, h2]
      exact q'
    · cases q'
  · have q' : (if b = sa then some (MO.src true) else none) = some o := q
    split at q'
    · rename_i e
      exact if_neg (fun z => n (by rw [← z, e]))
    · cases q'
  · have q' : (if b = sa then some (MO.src true) else none) = some o := q
    split at q'
    · rename_i e
      cases q'
      exact ⟨_, by rw [e]; exact h1, _, rfl, c, cs, 0, 0, z, rfl, SqL.of (if_pos rfl), l1, fun _ => l0, by decide, by decide, z0, by rw [if_pos rfl]; exact z1⟩
    · cases q'
theorem law_at {f : Addr} {fd : FuncData} {k : Nat} {st : Stmt} {N : List Str} {s : Shared} {H : Hp} {a : Addr} {ns : List Int} (F : Fun K "law" "law" st f fd) (S : FnScope N ["_law_script"] (defScope st)) (hS : SqL K H a (ns.map V.int)) (e0 : Env0 P w K mg base callerA [] s H) (hk : Room (k + 1) callerA) (hbi : Binds K fd ["_law_script"] [])
    (hb : ∀ cdv : Value, (callerA.deeper (envOfC "law" (defScope st) s.heap.objs.size f cdv)).guards = some [] → Room k (callerA.deeper (envOfC "law" (defScope st) s.heap.objs.size f cdv)) →
      ∃ (E : XK) (t : TS) (T : TDS), PSs (cxOf CX0 P w K mg base N "law" (defScope st) f cdv callerA [] s H (fun _ _ _ => False)).nox (defBody st) (tSeq (tAsg (tCall (spState K) [] E (tCons (tVar 0) tNil)) (gName 1)) t) ∧ SSt K (fun _ _ _ _ => False) (fun _ _ _ => False) t T ∧
        ∀ (sa : Addr) (M : Mem), M sa = some (.src true) → T (endD fun x _ => x = .d (.bool true)) (put (start0 N.length [.o (.ref a)]) 1 (some (.r sa))) M) :
    codeAny (model P w) callerA (.call (.ref f) ⟨[.ref a], []⟩) (CR CX0 [] P w H s (fun v _ => v = V.bl true) fun _ _ _ => False) s := by
  have KX : K.In s.heap := e0.mod.kin.keeps fun b o q => (e0.bs b o q).1
  refine run_at (k := k) (vs := [V.ref a]) (us := [Value.ref a]) F S hk e0 (hbi s [.ref a] KX rfl) (.cons rfl .nil) rfl (fun cdv hr => ?_)
  obtain ⟨E, t, T, h1, h2, h3⟩ := hb cdv rfl hr
  refine ⟨_, h1, ?_⟩
  have hst : L2.start N [V.ref a] = some (V.ref a) :: List.replicate (N.length - 1) none := rfl
  refine ⟨V.ref a, by rw [hst]; rfl, ?_⟩
  refine ⟨a, ns, rfl, hS, fun sa c cs z H' e hsa hc n q1 q2 l0 l1 z0 z1 => ?_⟩
  obtain ⟨F1, M1, r1, hM⟩ := src_new (K := K) n q1 q2 l0 l1 z0 z1
  refine h2 F1 H' M1 _ _ _ _ r1 (fun F' H' M' σ ρ cls d x _ _ _ _ z => z) ?_ (h3 sa M1 hM) ?_
  · exact (rel_start (N := N) (K := K) (F := F1) (.cons (.o (V.ref a)) .nil)).set (.r sa) 1
  · exact ek_def (Q := fun v _ => v = V.bl true) fun v H2 F2 M2 x r g rx q => by
      subst q
      exact rx.bl
end
end Tl
set_option Elab.async false
set_option linter.all false
set_option maxRecDepth 100000
set_option maxHeartbeats 4000000
/-! What a top needs: facts of classes, promises lifted to one level. -/
namespace Tl
open PySem L2
theorem kit_sub0 {K : PySem.W.Frag} {D C : Addr} {b : Bool} (h1 : PySem.W.isClsIn K C = true) (h2 : PySem.W.typeIn K (.ref C) = some (.type "type")) (h : PySem.W.subIn K (.ref D) (.ref C) = some b) (hb : D = C → b = true) : PySem.W.kitOne K (.ref D) (.ref C) = some b := by
  unfold PySem.W.kitOne
  by_cases e : D = C
  · rw [hb e, e, if_pos (by simp)]
  · rw [if_neg (fun z => e (Value.ref.inj (eq_of_beq z)))]
    unfold PySem.W.kitCls
    have h1' : (PySem.W.clsIn K C).isSome = true := h1
    have e2 : ((PySem.W.clsIn K C).isSome && PySem.W.typeIn K (.ref C) == some (.type "type")) = true := by rw [h1', h2] <;> rfl
    show (if ((PySem.W.clsIn K C).isSome && PySem.W.typeIn K (.ref C) == some (.type "type")) = true then PySem.W.subIn K (.ref D) (.ref C) else none) = some b
    rw [if_pos e2]
    exact h
theorem kit_sub {K : PySem.W.Frag} {D C : Addr} (h1 : PySem.W.isClsIn K C = true) (h2 : PySem.W.typeIn K (.ref C) = some (.type "type")) (h : PySem.W.subIn K (.ref D) (.ref C) = some true) : PySem.W.kitOne K (.ref D) (.ref C) = some true := kit_sub0 h1 h2 h fun _ => rfl
theorem kit_no {K : PySem.W.Frag} {D C : Addr} (h1 : PySem.W.isClsIn K C = true) (h2 : PySem.W.typeIn K (.ref C) = some (.type "type")) (hs : PySem.W.subIn K (.ref D) (.ref D) = some true) (h : PySem.W.subIn K (.ref D) (.ref C) = some false) : PySem.W.kitOne K (.ref D) (.ref C) = some false :=
  kit_sub0 h1 h2 h fun e => by
    subst e
    rw [hs] at h
    cases h
theorem kit_ve {K : PySem.W.Frag} {D : Addr} (h : PySem.W.subIn K (.ref D) (.type "ValueError") = some true) : PySem.W.kitOne K (.ref D) (.type "ValueError") = some true := by
  unfold PySem.W.kitOne
  rw [if_neg (by simp)]
  show (if PySem.W.kitMeta "ValueError" = true then PySem.W.subIn K (.ref D) (.type "ValueError") else none) = some true
  rw [if_pos (by decide +kernel)]
  exact h
section
variable {P : Program} {w : World} {K : PySem.W.Frag} {mg : Str → Option Value} {base : Heap} {x : Str} {ps : List Str} {k k' : Nat} {sp : Sp}
def Use.up (u : Use P w K mg base x ps k sp) (h : k ≤ k') : Use P w K mg base x ps k' sp := ⟨u.f, u.fd, u.ok.mono h, u.m, u.kp, u.b⟩
def UseX.up (u : UseX P w K mg base x ps k sp) (h : k ≤ k') : UseX P w K mg base x ps k' sp := ⟨u.f, u.fd, u.ok.mono h, u.m, u.kp, u.b⟩
theorem FnG.mono {f : Addr} {fd : FuncData} (F : FnG P w K mg base k f fd ps sp) (h : k ≤ k') : FnG P w K mg base k' f fd ps sp := ⟨F.len, fun A st s H args us vs Q E g hr => F.run A st s H args us vs Q E g (hr.mono h)⟩
def UseG.up (u : UseG P w K mg base x ps k sp) (h : k ≤ k') : UseG P w K mg base x ps k' sp := ⟨u.f, u.fd, u.ok.mono h, u.m, u.kp, u.b⟩
/-- a def as the top has left it -/
structure At (K : PySem.W.Frag) (mg : Str → Option Value) (x : Str) (st : Stmt) where
  f : Addr
  fd : FuncData
  F : Fun K x x st f fd
  m : mg x = some (.ref f)
def use {st : Stmt} (d : At K mg x st) (b : Binds K d.fd ps []) (ok : FnOk P w K mg base CX0 k d.f d.fd ps sp) : Use P w K mg base x ps k sp := ⟨d.f, d.fd, ok, d.m, d.F.kp, b⟩
def useX {st : Stmt} (d : At K mg x st) (b : Binds K d.fd ps []) (ok : FnOk P w K mg base (L2.CX P w) k d.f d.fd ps sp) : UseX P w K mg base x ps k sp := ⟨d.f, d.fd, ok, d.m, d.F.kp, b⟩
def useG {st : Stmt} (d : At K mg x st) (b : Binds K d.fd ps []) (ok : FnG P w K mg base k d.f d.fd ps sp) : UseG P w K mg base x ps k sp := ⟨d.f, d.fd, ok, d.m, d.F.kp, b⟩
/-- one def, from what the top has written -/
def at_mk {h : Heap} {x : Str} {st : Stmt} (X : K.In h) (G : h.Ns mainGlobals mg) {f : Addr} {od an : Option Addr} {sl : Array (Option Value)} {oc kV dc pm cd ct : Value} (a : PySem.W.nsIn K mainGlobals x = some (some (.ref f)))
    (l : K.lookup f = some ⟨oc, od, .func (PySem.W.fnOf x x (defArgs st) (defBody st) (defScope st) .none kV dc pm an cd ct), sl⟩) (c : PySem.W.codeIn K cd x = true) (k : PySem.W.keepIn K (.ref f) = true) : At K mg x st :=
  ⟨f, _, fun_mk (st := st) l c k, PySem.W.mg_of X G a⟩
end
end Tl
set_option Elab.async false
set_option linter.all false
set_option maxRecDepth 100000
set_option maxHeartbeats 4000000
/-! Places, levels and parts of a tree that is data. -/
namespace Tl
open PySem L2
def pathD (q : List Nat) : PyData := .tuple (q.map fun n : Nat => .int (n : Int))
mutual
def plc : PyData → List (List Nat)
  | .tuple [_, .tuple ks] => [] :: plcAll 0 ks
  | _ => [[]]
def plcAll : Nat → List PyData → List (List Nat)
  | _, [] => []
  | i, k :: ks => (plc k).map (i :: ·) ++ plcAll (i + 1) ks
end
mutual
def lev : PyData → Nat
  | .tuple [_, .tuple ks] => 1 + levAll ks
  | _ => 1
def levAll : List PyData → Nat
  | [] => 0
  | k :: ks => max (lev k) (levAll ks)
end
/-- the part at a path -/
def sub : PyData → List Nat → Option PyData
  | d, [] => some d
  | .tuple [_, .tuple ks], n :: q => (match ks[n]? with | some k => sub k q | none => none)
  | _, _ :: _ => none
def optP : Option PyData → PyData
  | some d => d
  | none => .none
theorem plc_node (s : PyData) (ks : List PyData) : plc (.tuple [s, .tuple ks]) = [] :: plcAll 0 ks := by rw [plc]
theorem sub_node (s : PyData) (ks : List PyData) (n : Nat) (q : List Nat) : sub (.tuple [s, .tuple ks]) (n :: q) = (match ks[n]? with | some k => sub k q | none => none) := by rw [sub]
theorem sub_nil (d : PyData) : sub d [] = some d := by
  rw [sub]
theorem plcAll_app : ∀ (i : Nat) (a b : List PyData), plcAll i (a ++ b) = plcAll i a ++ plcAll (i + a.length) b
  | i, [], b => by rw [plcAll]; rfl
  | i, k :: a, b => by
    rw [List.cons_append, plcAll, plcAll, plcAll_app (i + 1) a b, List.append_assoc, List.length_cons, show i + 1 + a.length = i + (a.length + 1) by omega]
theorem plcAll_one (i : Nat) (k : PyData) : plcAll i [k] = (plc k).map (i :: ·) := by rw [plcAll, plcAll, List.append_nil]
mutual
theorem plc_len : ∀ {n : Nat} {d : PyData}, TrT n d → (plc d).length = nn d
  | 0, _, h => h.elim
  | n + 1, d, h => by
    obtain ⟨s, ks, rfl, _, hk⟩ := h
    rw [plc_node, List.length_cons, plcAll_len 0 hk, nn]
    omega
theorem plcAll_len : ∀ {n : Nat} {ks : List PyData} (i : Nat), (∀ k ∈ ks, TrT n k) → (plcAll i ks).length = nnAll ks
  | _, [], _, _ => by rw [plcAll, nnAll]; rfl
  | n, k :: ks, i, h => by rw [plcAll, List.length_append, List.length_map, plc_len (h k (.head _)), plcAll_len (i + 1) fun x hx => h x (.tail _ hx), nnAll]
end
theorem sub_tr : ∀ {q : List Nat} {n : Nat} {d e : PyData}, TrT n d → sub d q = some e → TrT (n - q.length) e ∧ q.length < n ∧ nn e ≤ nn d
  | [], n, d, e, h, hs => by
    rw [sub_nil] at hs
    cases hs
    refine ⟨h, ?_, Nat.le_refl _⟩
    cases n with
    | zero => exact h.elim
    | succ n => exact Nat.succ_pos _
  | i :: q, 0, d, e, h, hs => h.elim
  | i :: q, n + 1, d, e, h, hs => by
    obtain ⟨s, ks, rfl, _, hk⟩ := h
    rw [sub_node] at hs
    cases c : ks[i]? with
    | none => rw [c] at hs; cases hs
    | some k =>
      rw [c] at hs
      have hm := List.mem_of_getElem? c
      obtain ⟨h1, h2, h3⟩ := sub_tr (hk k hm) hs
      refine ⟨?_, by rw [List.length_cons]; omega, ?_⟩
      · rw [List.length_cons, show n + 1 - (q.length + 1) = n - q.length by omega]
        exact h1
      · have : ∀ {ks : List PyData} {k : PyData}, k ∈ ks → nn k ≤ nnAll ks := fun {ks k} h => by
          induction ks with
          | nil => cases h
          | cons z r ih =>
            rw [nnAll]
            rcases List.mem_cons.mp h with rfl | h
            · omega
            · have := ih h; omega
        have := this hm
        rw [nn]
        omega
mutual
theorem plc_sub : ∀ {n : Nat} {d : PyData}, TrT n d → ∀ q ∈ plc d, ∃ e, sub d q = some e
  | 0, _, h => h.elim
  | n + 1, d, h => by
    obtain ⟨s, ks, rfl, _, hk⟩ := h
    intro q hq
    rw [plc_node] at hq
    rcases List.mem_cons.mp hq with rfl | hq
    · exact ⟨_, sub_nil _⟩
    · obtain ⟨i, r, k, rfl, _, hi, hr⟩ := plcAll_sub 0 hk q hq
      obtain ⟨e, he⟩ := hr
      exact ⟨e, by rw [sub_node, show ks[i]? = some k by rw [← hi]; rfl]; exact he⟩
theorem plcAll_sub : ∀ {n : Nat} {ks : List PyData} (j : Nat), (∀ k ∈ ks, TrT n k) → ∀ q ∈ plcAll j ks, ∃ i r k, q = i :: r ∧ j ≤ i ∧ ks[i - j]? = some k ∧ ∃ e, sub k r = some e
  | _, [], _, _, q, hq => by rw [plcAll] at hq; cases hq
  | n, k :: ks, j, h, q, hq => by
    rw [plcAll] at hq
    rcases List.mem_append.mp hq with hq | hq
    · obtain ⟨r, hr, rfl⟩ := List.mem_map.mp hq
      obtain ⟨e, he⟩ := plc_sub (h k (.head _)) r hr
      exact ⟨j, r, k, rfl, Nat.le_refl _, by rw [Nat.sub_self]; rfl, e, he⟩
    · obtain ⟨i, r, k', rfl, hi, hk, he⟩ := plcAll_sub (j + 1) (fun x hx => h x (.tail _ hx)) q hq
      exact ⟨i, r, k', rfl, by omega, by rw [show i - j = (i - (j + 1)) + 1 by omega]; exact hk, he⟩
end
/-- a new list, told as data -/
theorem FnOk.dat {P : Program} {w : World} {K : PySem.W.Frag} {mg : Str → Option Value} {base : Heap} {CX : CXT} {f : Addr} {fd : FuncData} {k n : Nat} {ps : List Str} {tf tf' : TF} (F : FnOk P w K mg base CX k f fd ps (spD K n tf))
    (h : ∀ ws M R RX, ws.length = n → tf' ws M R RX → tf ws M (fun x M' => ∃ p ds, x = .r p ∧ M p = none ∧ M' = mset M p (.lst (ds.map W.d)) ∧ R (.d (.list ds)) M) RX) : FnOk P w K mg base CX k f fd ps (spD K n tf') :=
  F.imp fun vs H Q E ⟨F0, M, ws, R, RX, r, rs, hl, hf, hk, hx⟩ => ⟨F0, M, ws, _, RX, r, rs, hl, h ws M R RX hl hf, fun v H' F' M' x r' g rx q => by
    obtain ⟨p, ds, rfl, hp, rfl, hR⟩ := q
    obtain ⟨F2, r2, g2, d2⟩ := r'.freeze (p := p) (ds := ds) mset_same
    rw [mdel_mset, mdel_none hp] at r2 g2
    rw [rx.ref]
    exact hk _ H' F2 M _ r2 (g.trans g2) (.d d2) hR, hx⟩
theorem mapW {α : Type} (g : α → PyData) (xs : List α) : (xs.map g).map W.d = xs.map fun a => W.d (g a) := by rw [List.map_map]; rfl
theorem lc1F {α : Type} {b : TDG} {keep : Mem → Prop} {te : TDE} {ρ : EnvD} {k : List PyData → Prop} {M : Mem} {i : Nat} {f : α → W} (g : α → PyData) (hk : keep M) {xs : List α} (hb : ∀ a ∈ xs, ∀ Rk : W → Mem → Prop, Rk (.d (g a)) M → te (put ρ i (some (f a))) M Rk) (hl : xs.length ≤ sizeLine) {fin : List PyData → Mem → Prop} (h : fin (xs.map g) M) : lcGo (bName i) keep yesT te ρ (fun acc M2 => gDs acc fun ds => fin ds M2) (rows1 (xs.map f)) [] M := by
  refine lc1 (fun a => .d (g a)) hk hb hl ?_
  rw [show (xs.map fun a => W.d (g a)) = (xs.map g).map W.d by rw [List.map_map]; rfl]
  exact gDs_i h
end Tl
set_option Elab.async false
set_option linter.all false
set_option maxRecDepth 100000
set_option maxHeartbeats 4000000
/-! The very value told; count papers. -/
namespace Tl
open PySem L2
mutual
theorem gd_lay : ∀ d : PyData, gd d = true → d.canLay0 = true
  | .none, _ => rfl
  | .bool _, _ => rfl
  | .int _, _ => rfl
  | .str s, h => by
    rw [gd, Bool.and_eq_true] at h
    rw [PyData.canLay0]
    exact h.2
  | .list ds, h => by rw [gd] at h; rw [PyData.canLay0]; exact gds_lay ds h
  | .tuple ds, h => by rw [gd] at h; rw [PyData.canLay0]; exact gds_lay ds h
  | .dict _, h => Bool.noConfusion h
theorem gds_lay : ∀ ds : List PyData, gdAll ds = true → PyData.canLayAll0 ds = true
  | [], _ => rfl
  | d :: ds, h => by
    rw [gdAll, Bool.and_eq_true] at h
    rw [PyData.canLayAll0, gd_lay d h.1, gds_lay ds h.2]
    rfl
end
theorem gd_eqOk {d : PyData} (h : gd d = true) (hd : d.depth ≤ 64) : eqOk d = true := by
  unfold eqOk SeqAt.shaped
  rw [gd_nd d h, gd_lay d h, decide_eq_true hd]
  rfl
/-- a row of a count paper -/
def rowD (q : List Nat) (m h : Nat) : PyData := .tuple [pathD q, .int (m : Int), .int (h : Int)]
theorem sub_app : ∀ {q : List Nat} {n : Nat} {d : PyData} (r : List Nat), TrT n d → sub d (q ++ r) = (match sub d q with | some e => sub e r | none => none)
  | [], n, d, r, h => by rw [List.nil_append, sub_nil]
  | i :: q, 0, d, r, h => h.elim
  | i :: q, n + 1, d, r, h => by
    obtain ⟨s, ks, rfl, _, hk⟩ := h
    rw [List.cons_append, sub_node, sub_node]
    cases c : ks[i]? with
    | none => rfl
    | some k => exact sub_app r (hk k (List.mem_of_getElem? c))
end Tl
set_option Elab.async false
set_option linter.all false
set_option maxRecDepth 100000
set_option maxHeartbeats 4000000
/-! More names at once; what is good to be shown, decided. -/
namespace Tl
open PySem L2
instance {m k : Nat} {d : PyData} : Decidable (Gk m k d) := inferInstanceAs (Decidable (_ ∧ _ ∧ _))
instance {m k : Nat} {d : List PyData} : Decidable (Gks m k d) := inferInstanceAs (Decidable (_ ∧ _ ∧ _))
theorem Gks.of {m k : Nat} : ∀ {ds : List PyData}, (∀ d ∈ ds, Gk m k d) → Gks ((m + 2) * ds.length) k ds
  | [], _ => ⟨rfl, Nat.zero_le _, Nat.zero_le _⟩
  | d :: ds, h => Gks.cons (h d (.head _)) (Gks.of fun x hx => h x (.tail _ hx)) (by rw [List.length_cons, Nat.mul_succ]; omega)
theorem Gks.mono {m k m' k' : Nat} {ds : List PyData} (h : Gks m k ds) (h1 : m ≤ m') (h2 : k ≤ k') : Gks m' k' ds := ⟨h.1, Nat.le_trans h.2.1 h1, Nat.le_trans h.2.2 h2⟩
theorem Gks.ofL {m k n m' : Nat} {ds : List PyData} (h : ∀ d ∈ ds, Gk m k d) (hl : ds.length ≤ n) (hm : (m + 2) * n ≤ m') : Gks m' k ds := (Gks.of h).mono (Nat.le_trans (Nat.mul_le_mul (Nat.le_refl _) hl) hm) (Nat.le_refl _)
theorem GdE.of {m k : Nat} {d : PyData} (h : Gk m k d) (h1 : m ≤ 1000000) (h2 : k ≤ 40) : GdE d := .inl (h.mono h1 h2)
theorem small41 {i : Int} (h : -100000 ≤ i) (h2 : i ≤ 100000) : i.natAbs < 10 ^ 41 := Nat.lt_of_le_of_lt (show i.natAbs ≤ 100000 by omega) (by decide)
theorem gk_i {i : Int} {k : Nat} (h : -100000 ≤ i) (h2 : i ≤ 100000) : Gk 1930 k (.int i) := gk_int (small41 h h2) (Nat.le_refl _)
/-- a path that is good to be shown -/
theorem gk_path {q : List Nat} (hl : q.length ≤ 20) (h : ∀ i ∈ q, i ≤ 1000) : Gk 40000 1 (pathD q) := by
  unfold pathD
  refine (Gks.ofL (m := 1930) (k := 0) (n := 20) (m' := 39000) (fun d hd => ?_) (by rw [List.length_map]; exact hl) (by decide)).tup (by decide)
  obtain ⟨i, hi, rfl⟩ := List.mem_map.mp hd
  have := h i hi
  exact gk_i (by omega) (by omega)
/-- good to be shown, up to a greater weight -/
def GdB (d : PyData) : Prop := Gk 8000000 40 d ∨ d = .dict []
theorem GdB.of {m k : Nat} {d : PyData} (h : Gk m k d) (h1 : m ≤ 8000000) (h2 : k ≤ 40) : GdB d := .inl (h.mono h1 h2)
theorem GdB.txt {d : PyData} (h : GdB d) : txt d = true := by
  rcases h with h | rfl
  · exact gd_txt d h.1
  · rfl
theorem GdB.sh {d : PyData} (h : GdB d) : (d.hasDict = false ∨ d = .dict []) ∧ shOk d := by
  rcases h with h | rfl
  · refine ⟨.inl (gd_nd d h.1), gd_show d h.1, by have := h.2.2; omega, ?_⟩
    have := shown_le d h.1
    have h2 := h.2.1
    exact Nat.le_trans (Nat.le_trans this h2) (by decide)
  · exact ⟨.inr rfl, by decide +kernel, by decide +kernel, by decide +kernel⟩
/-! ### papers -/
structure ROk (d : PyData) : Prop where
  e : ∃ (q : List Nat) (m h : Nat), d = rowD q m h ∧ q.length ≤ 12 ∧ (∀ i ∈ q, i ≤ 60) ∧ m ≤ 60 ∧ h ≤ 12
theorem ROk.g {d : PyData} (r : ROk d) : Gk 30000 2 d := by
  obtain ⟨q, m, h, rfl, h1, h2, h3, h4⟩ := r.e
  unfold rowD
  have hp : Gk 25000 1 (pathD q) := by
    unfold pathD
    refine (Gks.ofL (m := 1930) (k := 0) (n := 12) (m' := 24000) (fun d hd => ?_) (by rw [List.length_map]; exact h1) (by decide)).tup (by decide)
    obtain ⟨i, hi, rfl⟩ := List.mem_map.mp hd
    have := h2 i hi
    exact gk_i (by omega) (by omega)
  exact (Gks.cons (m' := 3864) (m'' := 28866) hp (.cons (m' := 1932) (gk_i (by omega) (by omega)) (.cons (m' := 0) (gk_i (by omega) (by omega)) .nil (by decide)) (by decide)) (by decide)).tup (by decide)
structure POk (ds : List PyData) : Prop where
  n0 : 1 ≤ ds.length
  n1 : ds.length ≤ 60
  e : ∀ d ∈ ds, ROk d
theorem POk.g {ds : List PyData} (h : POk ds) : Gks 1900000 2 ds := Gks.ofL (m := 30000) (n := 60) (fun d hd => (h.e d hd).g) h.n1 (by decide)
end Tl
set_option Elab.async false
set_option linter.all false
set_option maxRecDepth 100000
set_option maxHeartbeats 4000000
/-! A law whose source of numbers is a list with the script itself. -/
set_option Elab.async false
set_option linter.all false
set_option maxRecDepth 100000
set_option maxHeartbeats 4000000
/-! Places in the walk behind, and the least number within each part. -/
namespace Tl
open PySem L2
/-- the law's rows: a place, its tag, the number at which its part begins -/
abbrev Wk := List Nat × PyData × Nat
mutual
def wk : PyData → List Nat → Nat → List Wk
  | .tuple [s, .tuple ks], q, n => wkAll ks q 0 n ++ [(q, s, n)]
  | d, q, n => [(q, d, n)]
def wkAll : List PyData → List Nat → Nat → Nat → List Wk
  | [], _, _, _ => []
  | k :: ks, q, i, n => wk k (q ++ [i]) n ++ wkAll ks q (i + 1) (n + nn k)
end
end Tl
set_option Elab.async false
set_option linter.all false
set_option maxRecDepth 100000
set_option maxHeartbeats 4000000
/-! Defs that are handed on by a name: a walk over some of them, a call of one of them. -/
set_option Elab.async false
set_option linter.all false
set_option maxRecDepth 100000
set_option maxHeartbeats 4000000
/-! list.pop() and min of a list. -/
set_option Elab.async false
set_option linter.all false
set_option maxRecDepth 100000
set_option maxHeartbeats 4000000
/-! A list beside the empty list. -/
namespace Tl
open PySem L2
section
variable {X : Cx}
def rEqN : R2 := fun x y H Q => ∃ a b xs, x = .ref a ∧ y = .ref b ∧ H a = some (.lst xs) ∧ H b = some (.lst []) ∧ Q (.bl xs.isEmpty) H
theorem op_eqN (hu : X.A.units + 64 < cLine) : OpR X (compareOp .Eq) rEqN := by
  intro pins s σ H x y v u Q I rx ry h
  obtain ⟨a, b, xs, rfl, rfl, ea, eb, q⟩ := h
  obtain rfl : v = Value.ref a := rx
  obtain rfl : u = Value.ref b := ry
  obtain ⟨za, ia, na, ra, la, ha⟩ := I.lstM ea
  obtain ⟨zb, ib, nb, rb, lb, hb⟩ := I.lstM eb
  have e0 : ib = [] := by cases rb; rfl
  subst e0
  have hl : s.heap.IsList a ia.toArray := ⟨_, ha, rfl, na, rfl⟩
  have hl2 : s.heap.IsList b #[] := ⟨_, hb, rfl, nb, rfl⟩
  cases xs with
  | nil =>
    have e1 : ia = [] := by cases ra; rfl
    subst e1
    exact SeqAt.eq_listAt (e := fun _ => true) hl hl2 rfl (by omega) (fun j h1 _ => absurd h1 (by simp)) ⟨.bl _, H, I, rfl, q⟩
  | cons x0 r0 =>
    refine SeqAt.eq_list_lengthsAt hl hl2 ?_ (by omega) ⟨.bl _, H, I, rfl, q⟩
    rw [List.size_toArray, ← la, List.length_cons]
    simp
end
section
variable {K : PySem.W.Frag}
/-- a list, whatever is in it, beside [] -/
@[reducible] def fEqN (neg : Bool) : F2 := fun x y M R => y = .d (.list []) ∧ gW M x fun ws => R (.d (.bool (ng neg ws.isEmpty))) M
theorem rws_empty {F : Hp} {vs : List V} {ws : List W} (h : RWs K F vs ws) : vs.isEmpty = ws.isEmpty := by cases h <;> rfl
theorem so_eqN : SO K rEqN (fEqN false) := fun F H M v u x y R Q hr rx ry hf k => by
  obtain ⟨rfl, h1⟩ := hf
  obtain ⟨a, vs, ws, rfl, h2, h3, h4⟩ := gW_of hr rx h1
  obtain ⟨b, us, rfl, h5, h6⟩ := ry.lst
  cases h6
  refine ⟨a, b, vs, rfl, rfl, h2, hr.fh _ _ h5, ?_⟩
  rw [rws_empty h3]
  exact k _ H F M _ hr .refl (.d (.bl _)) h4
end
end Tl
set_option Elab.async false
set_option linter.all false
set_option maxRecDepth 100000
set_option maxHeartbeats 4000000
/-! Objects of own classes: fields, methods, making one. -/
namespace Tl
open PySem PySem.Spec PyProof.Rows L2
/-! ### fields -/
def putW (f : Str) (v : W) : List (Str × W) → List (Str × W)
  | [] => [(f, v)]
  | (g, x) :: r => if g = f then (g, v) :: r else (g, x) :: putW f v r
inductive gPut (f : Str) (v : W) (fs : List (Str × W)) (k : List (Str × W) → Prop) : Prop where
  | mk (q : k (putW f v fs))
theorem gPut_n {f : Str} {v : W} {k : List (Str × W) → Prop} (q : k [(f, v)]) : gPut f v [] k := .mk q
theorem gPut_0 {f : Str} {v x : W} {r : List (Str × W)} {k : List (Str × W) → Prop} (q : k ((f, v) :: r)) : gPut f v ((f, x) :: r) k := .mk (by rw [putW, if_pos rfl]; exact q)
theorem gPut_s {f g : Str} {v x : W} {r : List (Str × W)} {k : List (Str × W) → Prop} (h : (g == f) = false) (q : gPut f v r fun r' => k ((g, x) :: r')) : gPut f v ((g, x) :: r) k := by
  obtain ⟨q⟩ := q
  exact .mk (by rw [putW, if_neg (fun z => by rw [z] at h; simp at h)]; exact q)
theorem exI {o : Option MO} {C dx : Addr} {fs : List (Str × W)} {k : Addr → Addr → List (Str × W) → Prop} (h : o = some (.ins C dx fs)) (q : k C dx fs) : ∃ C dx fs, o = some (.ins C dx fs) ∧ k C dx fs := ⟨C, dx, fs, h, q⟩
theorem exI2 {o : Option MO} {C dx : Addr} {fs : List (Str × W)} {k : Addr → List (Str × W) → Prop} (h : o = some (.ins C dx fs)) (q : k dx fs) : ∃ dx fs, o = some (.ins C dx fs) ∧ k dx fs := ⟨dx, fs, h, q⟩
section
variable {K : PySem.W.Frag} {F H : Hp} {M : Mem}
theorem prR_lookup {F : Hp} : ∀ {fv : List (Str × V)} {fw : List (Str × W)} {f : Str} {w : W}, PrR K F fv fw → fw.lookup f = some w → ∃ v, fv.lookup f = some v ∧ RW K F v w
  | [], [], _, _, _, h => by cases h
  | [], _ :: _, _, _, h, _ => by have := h.1; simp at this
  | _ :: _, [], _, _, h, _ => by have := h.1; simp at this
  | (a, x) :: fv, (b, y) :: fw, f, w, h, e => by
    obtain ⟨h1, h2⟩ := h
    simp only [List.map_cons, List.cons.injEq] at h1
    obtain ⟨e1, e2⟩ := h1
    subst e1
    cases h2 with
    | cons r1 r2 =>
      rw [List.lookup] at e ⊢
      cases c : f == a with
      | true => rw [c] at e; cases e; exact ⟨x, rfl, r1⟩
      | false => rw [c] at e; exact prR_lookup ⟨e2, r2⟩ e
theorem prR_none {F : Hp} : ∀ {fv : List (Str × V)} {fw : List (Str × W)} {f : Str}, PrR K F fv fw → fw.lookup f = none → fv.lookup f = none
  | [], _, _, _, _ => rfl
  | _ :: _, [], _, h, _ => by have := h.1; simp at this
  | (a, x) :: fv, (b, y) :: fw, f, h, e => by
    obtain ⟨h1, h2⟩ := h
    simp only [List.map_cons, List.cons.injEq] at h1
    obtain ⟨e1, e2⟩ := h1
    subst e1
    cases h2 with
    | cons r1 r2 =>
      rw [List.lookup] at e ⊢
      cases c : f == a with
      | true => rw [c] at e; cases e
      | false => rw [c] at e; exact prR_none ⟨e2, r2⟩ e
theorem prR_put {F : Hp} {f : Str} {v : V} {w : W} (r : RW K F v w) : ∀ {fv : List (Str × V)} {fw : List (Str × W)}, PrR K F fv fw → PrR K F (putF f v fv) (putW f w fw)
  | [], [], _ => ⟨rfl, .cons r .nil⟩
  | [], _ :: _, h => by have := h.1; simp at this
  | _ :: _, [], h => by have := h.1; simp at this
  | (a, x) :: fv, (b, y) :: fw, h => by
    obtain ⟨h1, h2⟩ := h
    simp only [List.map_cons, List.cons.injEq] at h1
    obtain ⟨e1, e2⟩ := h1
    subst e1
    cases h2 with
    | cons r1 r2 =>
      rw [putF, putW]
      by_cases c : a = f
      · rw [if_pos c, if_pos c]
        exact ⟨by simp [e2], .cons r r2⟩
      · rw [if_neg c, if_neg c]
        obtain ⟨q1, q2⟩ := prR_put r (fv := fv) (fw := fw) ⟨e2, r2⟩
        exact ⟨by simp [q1], .cons r1 q2⟩
theorem PrR.len {F : Hp} {fv : List (Str × V)} {fw : List (Str × W)} (h : PrR K F fv fw) : fv.length = fw.length := by
  have := congrArg List.length h.1
  simpa using this
theorem Rl.ins (h : Rl K F H M) {a C dx : Addr} {fw : List (Str × W)} (e : M a = some (.ins C dx fw)) : ∃ fv, H a = some (.ins C dx fv) ∧ PrR K F fv fw := by
  obtain ⟨u, h1, fv, rfl, h2⟩ := h.at_ a _ e
  exact ⟨fv, h1, h2⟩
end
section
variable {K : PySem.W.Frag} {Wx : WX} {RE : REx}
@[reducible] def fldT (K : PySem.W.Frag) (f : Str) (T : TDE) : TDE := fun ρ M R => T ρ M fun x M1 => gR x fun a => ∃ C dx fs, M1 a = some (.ins C dx fs) ∧ (L2.Cls K C ∧ NoAttr K C f) ∧ gO (List.lookup f fs) fun w => R w M1
theorem se_fld {f : Str} {t : TE} {T : TDE} (h : SE K Wx RE t T) : SE K Wx RE (tFld K t f) (fldT K f T) := fun F H M σ ρ R Q hr hx hs ht k =>
  h F H M σ ρ _ _ hr hx hs ht fun v H1 F1 M1 x r1 g1 rx h1 => by
    obtain ⟨a, rfl, C, dx, fs, hM, ⟨hc, hn⟩, h2⟩ := gR_of h1
    obtain ⟨w, hl, h3⟩ := gO_of h2
    obtain ⟨fv, e1, e2⟩ := r1.ins hM
    obtain ⟨u, e3, e4⟩ := prR_lookup e2 hl
    exact ⟨a, C, dx, fv, u, rx.ref, e1, hc, hn, e3, k u H1 F1 M1 w r1 g1 e4 h3⟩
@[reducible] def setF (K : PySem.W.Frag) (f : Str) (T O : TDE) : TDS := fun D ρ M => T ρ M fun y M1 => O ρ M1 fun x M2 => gR x fun a => ∃ C dx fs, M2 a = some (.ins C dx fs) ∧ (L2.Cls K C ∧ NoAttr K C f ∧ fs.length < 1000) ∧ gPut f y fs fun fs' => D.nx ρ (mset M2 a (.ins C dx fs'))
theorem ss_fld {f : Str} {tv to : TE} {T O : TDE} (h1 : SE K Wx RE tv T) (h2 : SE K Wx RE to O) : SSt K Wx RE (sFld K to tv f) (setF K f T O) := fun F H M σ ρ D E hr hx hs ht k =>
  h1 F H M σ ρ _ _ hr hx hs ht fun v H1 F1 M1 y r1 g1 ry q1 => h2 F1 H1 M1 σ ρ _ _ r1 (hx.mono g1) (hs.mono g1.ff) q1 fun o H2 F2 M2 x r2 g2 rx q2 => by
    obtain ⟨a, rfl, C, dx, fs, hM, ⟨hc, hn, hl⟩, ⟨q3⟩⟩ := gR_of q2
    obtain ⟨fv, e1, e2⟩ := r2.ins hM
    have e3 := prR_put (f := f) (ry.mono g2.ff) e2
    obtain ⟨r3, g3⟩ := r2.put (u := .ins C dx (putF f v fv)) (o := .ins C dx (putW f y fs)) hM ⟨_, rfl, e3⟩
    have g := (g1.trans g2).trans g3
    exact ⟨a, C, dx, fv, rx.ref, e1, hc, hn, by rw [e2.len]; exact hl, k.nx σ _ _ _ ρ r3 g (hs.mono g.ff) q3⟩
/-! ### methods -/
@[reducible] def methT (C : Addr) (m : Str) (f : TF) (T : TDE) (U : TDA) : TDE := fun ρ M R => T ρ M fun x M1 => gR x fun a => ∃ dx fs, M1 a = some (.ins C dx fs) ∧ List.lookup m fs = none ∧ U ρ M1 fun xs M2 => f (.r a :: xs) M2 R fun _ _ => False
@[reducible] def methX (RE : REx) (C : Addr) (m : Str) (f : TF) (T : TDE) (U : TDA) : TDE := fun ρ M R => T ρ M fun x M1 => gR x fun a => ∃ dx fs, M1 a = some (.ins C dx fs) ∧ List.lookup m fs = none ∧ U ρ M1 fun xs M2 => f (.r a :: xs) M2 R fun x M' => RE x ρ M'
theorem se_meth {C : Addr} {m : Str} {n : Nat} {f : TF} {E : XK} {to : TE} {t : TA} {T : TDE} {U : TDA} (h1 : SE K Wx RE to T) (h2 : SAn K Wx RE n t U) : SE K Wx RE (tMeth C m (spD K (n + 1) f) [] E to t) (methT C m f T U) := fun F H M σ ρ R Q hr hx hs ht k =>
  h1 F H M σ ρ _ _ hr hx hs ht fun v H1 F1 M1 x r1 g1 rx q1 => by
    obtain ⟨a, rfl, dx, fs, hM, hl, q2⟩ := gR_of q1
    obtain ⟨fv, e1, e2⟩ := r1.ins hM
    refine ⟨a, dx, fv, rx.ref, e1, prR_none e2 hl, h2 F1 H1 M1 σ ρ _ _ r1 (hx.mono g1) (hs.mono g1.ff) q2 fun vs H2 F2 M2 xs r2 g2 rxs hl2 q3 => ?_⟩
    show spD K (n + 1) f (v :: (vs ++ [])) H2 Q E
    rw [List.append_nil]
    exact ⟨F2, M2, _, R, _, r2, .cons (rx.mono g2.ff) rxs, by rw [List.length_cons, hl2], q3, fun w H3 F3 M3 z r3 g3 rz hz => k w H3 F3 M3 z r3 ((g1.trans g2).trans g3) rz hz, fun cls d H' F' M' x _ _ _ z => z.elim⟩
/-- a method that may raise -/
def tMethS (C : Addr) (m : Str) (sp : Sp) (E : L2.St → XK) (ta : TE) (t : TA) : TE := fun σ H Q => ta σ H fun x H1 => ∃ a dx fs, x = .ref a ∧ H1 a = some (.ins C dx fs) ∧ fs.lookup m = none ∧ t σ H1 fun vs H2 => sp (x :: vs) H2 Q (E σ)
theorem se_methX {C : Addr} {m : Str} {n : Nat} {f : TF} {to : TE} {t : TA} {T : TDE} {U : TDA} (h1 : SE K Wx RE to T) (h2 : SAn K Wx RE n t U) : SE K Wx RE (tMethS C m (spD K (n + 1) f) (WE Wx) to t) (methX RE C m f T U) := fun F H M σ ρ R Q hr hx hs ht k =>
  h1 F H M σ ρ _ _ hr hx hs ht fun v H1 F1 M1 x r1 g1 rx q1 => by
    obtain ⟨a, rfl, dx, fs, hM, hl, q2⟩ := gR_of q1
    obtain ⟨fv, e1, e2⟩ := r1.ins hM
    refine ⟨a, dx, fv, rx.ref, e1, prR_none e2 hl, h2 F1 H1 M1 σ ρ _ _ r1 (hx.mono g1) (hs.mono g1.ff) q2 fun vs H2 F2 M2 xs r2 g2 rxs hl2 q3 => ?_⟩
    exact ⟨F2, M2, _, R, _, r2, .cons (rx.mono g2.ff) rxs, by rw [List.length_cons, hl2], q3, fun w H3 F3 M3 z r3 g3 rz hz => k w H3 F3 M3 z r3 ((g1.trans g2).trans g3) rz hz, fun cls d H' F' M' x r3 g3 xr z => hx F' H' M' σ ρ cls d x ((g1.trans g2).trans g3) r3 (hs.mono ((g1.trans g2).trans g3).ff) xr z⟩
/-! ### making one -/
@[reducible] def makeX (RE : REx) (C : Addr) (f : TF) (U : TDA) : TDE := fun ρ M R => U ρ M fun xs M1 => ∀ a dx, M1 a = none → f (.r a :: xs) (mset M1 a (.ins C dx [])) (fun v M2 => v = .d .none ∧ R (.r a) M2) fun x M' => RE x ρ M'
theorem Rl.made {F H : Hp} {M : Mem} (h : Rl K F H M) {x dx C : Addr} (e1 : H x = none) (e2 : H dx = none) (hne : dx ≠ x) : Rl K F (upd (upd H dx (.own x)) x (.ins C dx [])) (mset M x (.ins C dx [])) ∧ Gr F H M F (upd (upd H dx (.own x)) x (.ins C dx [])) (mset M x (.ins C dx [])) := by
  obtain ⟨r1, g1⟩ := h.same (same_new (o := .own x) e2)
  have e3 : upd H dx (.own x) x = none := by rw [upd_ne (fun z => hne z.symm)]; exact e1
  obtain ⟨r2, g2⟩ := r1.born (u := .ins C dx []) (o := .ins C dx []) e3 ⟨[], rfl, rfl, .nil⟩
  exact ⟨r2, g1.trans g2⟩
def tMakeS (C : Addr) (sp : Sp) (E : L2.St → XK) (t : TA) : TE := fun σ H Q => t σ H fun vs H1 => ∀ x dx, H1 x = none → H1 dx = none → dx ≠ x →
  sp (.ref x :: vs) (upd (upd H1 dx (.own x)) x (.ins C dx [])) (fun v H2 => v = .non ∧ Q (.ref x) H2) (E σ)
theorem se_makeX {C : Addr} {n : Nat} {f : TF} {t : TA} {U : TDA} (h : SAn K Wx RE n t U) : SE K Wx RE (tMakeS C (spD K (n + 1) f) (WE Wx) t) (makeX RE C f U) := fun F H M σ ρ R Q hr hx hs ht k =>
  h F H M σ ρ _ _ hr hx hs ht fun vs H1 F1 M1 xs r1 g1 rxs hl q1 x dx e1 e2 hne => by
    obtain ⟨r2, g2⟩ := r1.made (C := C) e1 e2 hne
    refine ⟨F1, _, _, _, _, r2, .cons (.r x) (rxs.mono g2.ff), by rw [List.length_cons, hl], q1 x dx (r1.new e1), fun w H3 F3 M3 z r3 g3 rz hz => ?_, fun cls d H' F' M' y r3 g3 xr z => hx F' H' M' σ ρ cls d y ((g1.trans g2).trans g3) r3 (hs.mono ((g1.trans g2).trans g3).ff) xr z⟩
    obtain ⟨rfl, hz⟩ := hz
    exact ⟨rz.non, k _ H3 F3 M3 _ r3 ((g1.trans g2).trans g3) (.r x) hz⟩
end
section
variable {X : Cx} {CX : CXT} {k : Nat} {f C : Addr} {fd : FuncData} {ps : List Str} {sp : Sp} {E : L2.St → XK} {x m : Str} {p pos apos : Pos} {e o : Expr} {es : List Expr} {ta : TE} {t : TA}
theorem pe_methE {pl : Sem Bool} (he : PE X o ta) (c : L2.Cls X.K C) (hm : Meth X.K C m f) (F : FnOk X.prog X.w X.K X.mg X.base CX k f fd ps sp) (hr : Room k X.A) (hb : Binds X.K fd ps []) (hx : ∀ σ, PassesAt CX X σ (E σ)) (ha : PA X (e :: es) t)
    (hst : starEach (e :: es) X.env = (false, eval e X.env) :: starEach es X.env := by rfl) (hpl : (backTo pos (starEach es X.env)).any (·.1) = false := by rfl)
    (ht : eval (.Call (.Attribute o m apos) (e :: es) [] pos) X.env = (do
      let ov ← eval o X.env
      standAt apos.atName
      let (f, first) ← holding [ov] (getMethod ov m pl)
      callWith pos f first (backTo pos (starEach (e :: es) X.env)) (backToKw pos (keywordEach [] X.env))) := by rfl) :
    PE X (.Call (.Attribute o m apos) (e :: es) [] pos) (tMethS C m sp E ta t) := by
  refine ⟨fun pins s σ H Q I h => ?_⟩
  refine PySem.W.methodCall_KW (pl := pl) (thn (he.run pins s σ H _ I h) fun u s1 ⟨x, H1, I1, rx, a, dx, fs, ex, ea, l, q⟩ => ?_) ht
  subst ex
  obtain rfl : u = Value.ref a := rx
  refine getmeth_ok I1 ea c hm l ?_
  refine PySem.W.callWith_K (first := [.ref a]) (h₀ := X.base) I.ok.mod.kin hm.kp (thn (ha.run pos pins s1 σ H1 _ I1 q) fun us s2 ⟨vs, H2, I2, r, q2⟩ => ⟨I2.kIn, ?_⟩) hst hpl
  exact run_fnS (us := .ref a :: us) (vs := .ref a :: vs) F hr hb (hx σ) I2 (.cons rfl r) q2
end
section
variable {K : PySem.W.Frag} {Wx : WX} {RE : REx}
/-- o.f op= e -/
@[reducible] def augF (K : PySem.W.Frag) (g : F2) (f : Str) (O T : TDE) : TDS := fun D ρ M => O ρ M fun x M1 => gR x fun a => ∃ C dx fs, M1 a = some (.ins C dx fs) ∧ (L2.Cls K C ∧ NoAttr K C f) ∧ gO (List.lookup f fs) fun v => T ρ M1 fun y M2 => g v y M2 fun z M3 =>
  ∃ dx' fs', M3 a = some (.ins C dx' fs') ∧ fs'.length < 1000 ∧ gPut f z fs' fun fs2 => D.nx ρ (mset M3 a (.ins C dx' fs2))
theorem ss_augF {f : Str} {rd : R2} {g : F2} {to tv : TE} {O T : TDE} (hg : SO K rd g) (h1 : SE K Wx RE to O) (h2 : SE K Wx RE tv T) : SSt K Wx RE (sFldAug K to tv rd f) (augF K g f O T) := fun F H M σ ρ D E hr hx hs ht k =>
  h1 F H M σ ρ _ _ hr hx hs ht fun v H1 F1 M1 x r1 g1 rx q1 => by
    obtain ⟨a, rfl, C, dx, fs, hM, ⟨hc, hn⟩, q2⟩ := gR_of q1
    obtain ⟨w, hl, q3⟩ := gO_of q2
    obtain ⟨fv, e1, e2⟩ := r1.ins hM
    obtain ⟨u, e3, e4⟩ := prR_lookup e2 hl
    refine ⟨a, C, dx, fv, u, rx.ref, e1, hc, hn, e3, h2 F1 H1 M1 σ ρ _ _ r1 (hx.mono g1) (hs.mono g1.ff) q3 fun y H2 F2 M2 yw r2 g2 ry q4 => ?_⟩
    refine hg F2 H2 M2 u y w yw _ _ r2 (e4.mono g2.ff) ry q4 fun z H3 F3 M3 zw r3 g3 rz q5 => ?_
    obtain ⟨dx', fs', hM3, hl3, ⟨q6⟩⟩ := q5
    obtain ⟨fv3, e5, e6⟩ := r3.ins hM3
    have e7 := prR_put (f := f) rz e6
    obtain ⟨r4, g4⟩ := r3.put (u := .ins C dx' (putF f z fv3)) (o := .ins C dx' (putW f zw fs')) hM3 ⟨_, rfl, e7⟩
    have g := ((g1.trans g2).trans g3).trans g4
    exact ⟨dx', fv3, e5, by rw [e6.len]; exact hl3, k.nx σ _ _ _ ρ r4 g (hs.mono g.ff) q6⟩
end
end Tl
set_option Elab.async false
set_option linter.all false
set_option maxRecDepth 100000
set_option maxHeartbeats 4000000
/-! Errors with a field, raised. -/
namespace Tl
open PySem PySem.Spec PyProof.Rows L2
def inClsN (s : Stmt) (i : Nat) : Stmt := match s with
  | .ClassDef _ _ _ b _ _ _ _ _ _ _ => b.getD i (.Pass ⟨0, 0, 0, 0⟩)
  | _ => .Pass ⟨0, 0, 0, 0⟩
def spInitF (K : PySem.W.Frag) (C : Addr) (fld : Str) : Sp := fun vs H Q _ => ∃ (a : Addr) (v : V), vs = [.ref a, v] ∧ H a = some (exo a C none) ∧ ∀ dx, H dx = none → dx ≠ a → Q .non (upd (upd H dx (exd dx [(fld, v)])) a (exo a C (some dx)))
/-- an own error with one field, as the top has left it -/
structure ErF (K : PySem.W.Frag) (mg : Str → Option Value) (nm qual fld : Str) (st : Stmt) (C : Addr) : Prop where
  o : OexC K C
  g : mg nm = some (.ref C)
  n : PySem.W.findIn K (.ref C) fld = some none
  i : ∃ fI fdI, PySem.W.findIn K (.ref C) "__init__" = some (some (.ref fI)) ∧ PySem.W.typeIn K (.ref fI) = some (.type "function") ∧ Fun K "__init__" qual st fI fdI
section
variable {K : PySem.W.Frag} {Wx : WX} {RE : REx}
@[reducible] def raiseF (RE : REx) (C : Addr) (fld : Str) (T : TDA) : TDS := fun _ ρ M => T ρ M fun xs M1 => g1 xs fun x => gD x fun d => RE ⟨.ref C, [(fld, d)]⟩ ρ M1
theorem ss_raiseF {C : Addr} {fld : Str} {n : Nat} {t : TA} {T : TDA} (h : SAn K Wx RE n t T) : SSt K Wx RE (fun _ σ H => tMkO C (spInitF K C fld) [] t σ H fun cls d H' => Wx cls d σ H') (raiseF RE C fld T) := fun F H M σ ρ D E hr hx hs ht k =>
  h F H M σ ρ _ _ hr hx hs ht fun vs H1 F1 M1 xs r1 g1 rxs hl q1 => by
    obtain ⟨x, rfl, q2⟩ := g1_of q1
    obtain ⟨d, rfl, q3⟩ := gD_of q2
    obtain ⟨v, rfl, rv⟩ := rxs.one
    refine ⟨by show 1 ≤ 1000; decide, fun a ha => ⟨a, v, rfl, upd_same, fun dx hd1 hd2 => ⟨rfl, dx, [(fld, v)], upd_same, ?_, ?_, ?_⟩⟩⟩
    · rw [upd_ne hd2]
      exact upd_same
    · rw [upd_ne hd2] at hd1
      exact hd1
    · rw [upd_ne hd2] at hd1
      have e : upd (L2.del (upd (upd (upd H1 a (exo a C none)) dx (exd dx [(fld, v)])) a (exo a C (some dx))) a) dx (.xd [(fld, v)]) = upd H1 dx (.xd [(fld, v)]) := by
        funext b
        by_cases c : b = dx
        · rw [c, upd_same, upd_same]
        · rw [upd_ne c, upd_ne c]
          by_cases c2 : b = a
          · subst c2
            show (if b = b then none else _) = _
            rw [if_pos rfl, ha]
          · rw [L2.del_ne c2, upd_ne c2, upd_ne c, upd_ne c2]
      rw [e]
      obtain ⟨r2, g2⟩ := r1.fresh (u := .xd [(fld, v)]) hd1
      have g := g1.trans g2
      refine hx (upd F1 dx (.xd [(fld, v)])) _ M1 σ ρ (.ref C) (some dx) ⟨.ref C, [(fld, d)]⟩ g r2 (hs.mono g.ff) ⟨rfl, [(fld, v)], upd_same, rfl, .cons (Dx.mono g2.ff _ _ rv.dx) .nil⟩ q3
/-! ### isinstance of data, one of some built-in classes -/
def tyAny (d : PyData) : List String → Option Bool
  | [] => some false
  | n :: r => (tyIs d n).bind fun b => if b = true then some true else tyAny d r
inductive gNs (ys : List W) (k : List String → Prop) : Prop where
  | mk (ns : List String) (h : ys = ns.map fun n => W.o (.ty n)) (q : k ns)
theorem gNs_n {k : List String → Prop} (q : k []) : gNs [] k := .mk [] rfl q
theorem gNs_c {n : String} {r : List W} {k : List String → Prop} (h : gNs r fun ns => k (n :: ns)) : gNs (.o (.ty n) :: r) k := by
  obtain ⟨ns, rfl, q⟩ := h
  exact .mk (n :: ns) rfl q
theorem tyAny_lt {d : PyData} : tyAny d ["list", "tuple"] = some (isList d || isTup d) := by
  rw [tyAny, tyAny, tyAny, tyIs_list, tyIs_tuple]
  cases isList d <;> cases isTup d <;> rfl
end
end Tl
set_option Elab.async false
set_option linter.all false
set_option maxRecDepth 100000
set_option maxHeartbeats 4000000
/-! list and tuple of a range; a list taken apart; equal data. -/
namespace Tl
open PySem L2
section
variable {K : PySem.W.Frag} {Wx : WX} {RE : REx}
def rgD (a b : Int) : List PyData := (List.range (b - a).toNat).map fun i => PyData.int (a + (i : Nat))
theorem rgD_dx {F : Hp} (a b : Int) : DxL K F (rgV a b) (rgD a b) := by
  unfold rgV rgD
  generalize List.range (b - a).toNat = l
  induction l with
  | nil => exact .nil
  | cons x r ih => exact .cons (.int _) ih
@[reducible] def tupRg1 (T : TDE) : TDE := fun ρ M R => T ρ M fun x M1 => gI x fun n => (-1000000 ≤ n ∧ n ≤ 1000000) ∧ R (.d (.tuple (rgD 0 n))) M1
theorem se_tupRg1 {t : TE} {T : TDE} (h : SE K Wx RE t T) : SE K Wx RE (tTupRg (tRg1 t)) (tupRg1 T) := fun F H M σ ρ R Q hr hx hs ht k =>
  h F H M σ ρ _ _ hr hx hs ht fun v H1 F1 M1 x r1 g1 rx q1 => by
    obtain ⟨n, rfl, ⟨c1, c2⟩, q2⟩ := gI_of q1
    refine ⟨n, rx.int, ⟨by omega, by omega, by omega, by omega, by omega⟩, fun q hq => ?_⟩
    obtain ⟨r2, g2, rz⟩ := r1.tup hq (rgD_dx (K := K) (F := F1) 0 n)
    exact k _ _ _ _ _ r2 (g1.trans g2) rz q2
end
mutual
theorem eqv_self : ∀ d : PyData, d.hasDict = false → PyData.eqv d d = true
  | .none, _ => rfl
  | .bool b, _ => by rw [PyData.eqv]; exact beq_self_eq_true b
  | .int i, _ => by rw [PyData.eqv]; exact beq_self_eq_true i
  | .str x, _ => by rw [PyData.eqv]; exact beq_self_eq_true x
  | .list ds, h => by rw [PyData.hasDict] at h; rw [PyData.eqv]; exact eqvAll_self ds h
  | .tuple ds, h => by rw [PyData.hasDict] at h; rw [PyData.eqv]; exact eqvAll_self ds h
  | .dict _, h => by rw [PyData.hasDict] at h; cases h
theorem eqvAll_self : ∀ ds : List PyData, PyData.hasDictAll ds = false → PyData.eqvAll ds ds = true
  | [], _ => rfl
  | d :: r, h => by
    rw [PyData.hasDictAll, Bool.or_eq_false_iff] at h
    rw [PyData.eqvAll, eqv_self d h.1, eqvAll_self r h.2]
    rfl
end
end Tl
set_option Elab.async false
set_option linter.all false
set_option maxRecDepth 100000
set_option maxHeartbeats 4000000
/-! Slices of lists stored; tables by words (dicts that the top has left for good). -/
namespace Tl
open PySem PySem.Spec PyProof.Rows L2
/-! ### x in a list, of any data -/
theorem room65 {k : Nat} {A : Around} (r : Room k A) : A.units + 65 < cLine := by have := r.un; omega
section
variable {K : PySem.W.Frag}
@[reducible] def fInD (neg : Bool) : F2 := fun x y M R => gD x fun d => gL y fun ds => (eqOk d = true ∧ eqOk (.list ds) = true) ∧ R (.d (.bool (ng neg (ds.any fun z => PyData.eqv z d)))) M
theorem so_notInD : SO K (rNotInD K) (fInD true) := fun F H M v u x y R Q hr rx ry hf k => by
  obtain ⟨d, rfl, h1⟩ := gD_of hf
  obtain ⟨ds, rfl, ⟨c1, c2⟩, h2⟩ := gL_of h1
  exact ⟨d, ds, Dx.dp _ _ (Dx.mono hr.fh _ _ rx.dx) (eqOk_of c1).1, Dx.dp _ _ (Dx.mono hr.fh _ _ ry.dx) (eqOk_of c2).1, (eqOk_of c1).2, (eqOk_of c2).2, k _ H F M _ hr .refl (.d (.bl _)) h2⟩
end
/-! ### slices, by places -/
theorem cut_last {α : Type} {xs : List α} : cut xs none (some (-1)) = xs.dropLast := by
  unfold cut
  have e : HT.sIx xs.length xs.length (some (-1)) = xs.length - 1 := by
    unfold HT.sIx
    simp only
    split <;> (try split) <;> omega
  rw [HT.sIx_none, e, Nat.sub_zero, List.drop_zero, List.dropLast_eq_take]
/-! ### tables -/
/-- what stands in a table: a def, or data -/
inductive TV where
  | f (a : Addr)
  | d (x : PyData)
@[reducible] def TV.w : TV → W
  | .f a => .o (.ref a)
  | .d x => .d x
end Tl
set_option Elab.async false
set_option linter.all false
set_option maxRecDepth 100000
set_option maxHeartbeats 4000000
namespace Tl
open PySem L2 RZ
local macro_rules
  | `(tactic| decreasing_trivial) => `(tactic| ((with_reducible (conv => whnf)); (repeat ((first | (with_reducible refine gDs_c ?_) | (with_reducible refine gDs_n ?_) | (with_reducible refine gNs_c ?_) | (with_reducible refine gNs_n ?_) | (with_reducible refine gO_i tyAny_lt ?_) | (with_reducible refine gIs_c ?_) | (with_reducible refine gIs_n ?_) | (with_reducible refine gBs_c ?_) | (with_reducible refine gBs_n ?_) | (with_reducible refine gSs_c ?_) | (with_reducible refine gSs_n ?_) | (with_reducible refine gO_i tyIs_int ?_) | (with_reducible refine gO_i tyIs_bool ?_) | (with_reducible refine gO_i tyIs_str ?_) | (with_reducible refine gO_i tyIs_tuple ?_) | (with_reducible refine gO_i tyIs_list ?_) | (with_reducible refine gDs_i ?_) | (with_reducible refine gO_i (Eq.refl _) ?_) | (with_reducible refine gO_i (by assumption) ?_) | (with_reducible refine gO_i at_0 ?_) | (with_reducible refine gO_i at_m0 ?_) | (with_reducible refine gO_i at_1 ?_) | (with_reducible refine gO_i at_m1 ?_) | (with_reducible refine gO_i at_2 ?_) | (with_reducible refine gO_i at_m2 ?_) | (with_reducible refine gO_i at_3 ?_) | (with_reducible refine gO_i at_m3 ?_) | (with_reducible refine gO_i at_4 ?_) | (with_reducible refine gO_i at_m4 ?_) | (with_reducible refine gO_i at_5 ?_) | (with_reducible refine gO_i at_m5 ?_) | (with_reducible refine gO_i at_6 ?_) | (with_reducible refine gO_i at_m6 ?_) | (with_reducible refine gO_i at_7 ?_) | (with_reducible refine gO_i at_m7 ?_) | (with_reducible refine IfB.ngf ?_) | (with_reducible refine IfB.ngt ?_) | (with_reducible refine IfB.not ?_) | (with_reducible refine IfB.nil ?_) | (with_reducible refine IfB.nilT ?_) | (with_reducible refine IfB.f isE_c ?_) | (with_reducible refine IfB.t isE_n ?_) | (with_reducible refine IfB.t ?gha ?_; (case gha => rfl)) | (with_reducible refine IfB.f ?gha ?_; (case gha => rfl)) | (with_reducible refine IfB.t ?gha ?_; (case gha => assumption)) | (with_reducible refine IfB.f ?gha ?_; (case gha => assumption)) | (with_reducible refine IfB.yes (Eq.refl _) ?_) | (with_reducible refine IfB.yes ?gha ?_; (case gha => (first | omega | (simp only [len_c, len_n, List.length_map]; omega)))) | (with_reducible refine IfB.no ?gha ?_; (case gha => (first | omega | (simp only [len_c, len_n, List.length_map]; omega)))) | (with_reducible refine IfB.t ?gha ?_; (case gha => decide +kernel)) | (with_reducible refine IfB.f ?gha ?_; (case gha => decide +kernel))); (with_reducible (conv => whnf))))))
local macro_rules
  | `(tactic| decreasing_trivial_pre_omega) => `(tactic| (decreasing_trivial; (repeat ((first | ((with_reducible refine And.intro ?gha ?_); (case gha => (first | assumption | omega | exact rfl | (exact mset_same) | (exact ⟨_, mset_same⟩) | (exact Exists.intro _ (by first | exact mset_same | assumption | (rw [mset_ne (by assumption)]; first | exact mset_same | assumption))) | (exact sm_of (by omega) (by omega)) | (exact sz1000 (by first | omega | (simp; done) | (simp; omega))) | (exact Or.inl ⟨by decide, by decide⟩) | decide | (simp; done) | (refine ⟨?_, ?_⟩ <;> (first | assumption | omega | exact rfl | (exact mset_same) | (exact ⟨_, mset_same⟩) | (exact Exists.intro _ (by first | exact mset_same | assumption | (rw [mset_ne (by assumption)]; first | exact mset_same | assumption))) | (exact sm_of (by omega) (by omega)) | (exact sz1000 (by first | omega | (simp; done) | (simp; omega))) | (exact Or.inl ⟨by decide, by decide⟩) | decide | (simp; done))) | (refine ⟨?_, ?_, ?_⟩ <;> (first | assumption | omega | exact rfl | (exact mset_same) | (exact ⟨_, mset_same⟩) | (exact Exists.intro _ (by first | exact mset_same | assumption | (rw [mset_ne (by assumption)]; first | exact mset_same | assumption))) | (exact sm_of (by omega) (by omega)) | (exact sz1000 (by first | omega | (simp; done) | (simp; omega))) | (exact Or.inl ⟨by decide, by decide⟩) | decide | (simp; done))) | (refine ⟨?_, ?_, ?_, ?_⟩ <;> (first | assumption | omega | exact rfl | (exact mset_same) | (exact ⟨_, mset_same⟩) | (exact Exists.intro _ (by first | exact mset_same | assumption | (rw [mset_ne (by assumption)]; first | exact mset_same | assumption))) | (exact sm_of (by omega) (by omega)) | (exact sz1000 (by first | omega | (simp; done) | (simp; omega))) | (exact Or.inl ⟨by decide, by decide⟩) | decide | (simp; done)))))) | (with_reducible refine exW (by first | exact mset_same | assumption | (rw [mset_ne (by assumption)]; first | exact mset_same | assumption)) ?_)); decreasing_trivial))))
def top (i : Nat) : Stmt := PySem.Challenge.pw_treelore_k15_handles_begun.main.body.getD i (.Pass ⟨0, 0, 0, 0⟩)
section
variable {P : Program} {w : World} {K : PySem.W.Frag} {mg : Str → Option Value} {base : Heap}
abbrev sIsCount : Stmt := top 30
theorem scCount : FnScope ["thing"] ["thing"] (defScope sIsCount) := ⟨rfl, rfl, rfl, by decide +kernel, rfl, by decide +kernel, by decide +kernel⟩
theorem ok_count {f : Addr} {fd : FuncData} {k : Nat} (F : Fun K "is_count" "is_count" sIsCount f fd) (T : Bl mg) : FnOk P w K mg base CX0 (k + 1) f fd ["thing"] (spD K 1 (tfB isCount)) := by
  refine okD F scCount rfl fun cdv A outer s H E hr => ?_
  refine ⟨_, _, (pss_one (ps_ret (pe_and (pe_callB (r := rIsi K) call_isi (by rfl) T.isi PyProof.Rows.boot_isinstance (pa_cons (pv 0) (pa_cons (b_int T) pa_nil))) (pe_and (pe_not (pe_callB (r := rIsi K) call_isi (by rfl) T.isi PyProof.Rows.boot_isinstance (pa_cons (pv 0) (pa_cons (b_bool T) pa_nil)))) (pe_one (pe_cmpR op_ge (pv 0) pe_int (nomark _))))))),
    (ss_ret (se_and (se_cb sc_isi (sa_cons se_nm (sa_cons se_o sa_nil))) (se_and (se_not (se_cb sc_isi (sa_cons se_nm (sa_cons se_o sa_nil)))) (se_op so_ge se_nm se_int)))), fun ws M R RX hl h => ?_⟩
  obtain ⟨x, rfl, h1⟩ := g1_of h
  obtain ⟨d, rfl, ht, h2⟩ := gD_of h1
  cases d <;> (simp only [start0, len_c, len_n, map_c, map_n, app_c, app_n, rep_0, rep_s, Nat.reduceAdd, Nat.reduceSub]; decreasing_trivial; exact h2)
abbrev sIsNumber : Stmt := top 31
theorem scNumber : FnScope ["thing", "most"] ["thing", "most"] (defScope sIsNumber) := ⟨rfl, rfl, rfl, by decide +kernel, rfl, by decide +kernel, by decide +kernel⟩
theorem ok_number {f : Addr} {fd : FuncData} {k j : Nat} (F : Fun K "is_number" "is_number" sIsNumber f fd) (Uis_count : Use P w K mg base "is_count" ["thing"] j (spD K 1 (tfB isCount))) (hj : j ≤ k) (T : Bl mg) : FnOk P w K mg base CX0 (k + 1) f fd ["thing", "most"] (spD K 2 (tfB2 isNum)) := by
  refine okD F scNumber rfl fun cdv A outer s H E hr => ?_
  refine ⟨_, _, (pss_one (ps_ret (pe_and (pe_call Uis_count.ok (hr.mono (by omega)) rfl Uis_count.m Uis_count.kp Uis_count.b .nil pass0 (pa_cons (pv 0) pa_nil)) (pe_one (pe_cmpR op_le (pv 0) (pv 1) (nomark _)))))),
    (ss_ret (se_and (se_call (sa_cons se_nm sa_nil)) (se_op so_le se_nm se_nm))), fun ws M R RX hl h => ?_⟩
  obtain ⟨x, y, rfl, h1⟩ := g2_of h
  obtain ⟨d, rfl, h2⟩ := gD_of h1
  obtain ⟨m, rfl, ht, h3⟩ := gI_of h2
  simp only [start0, len_c, len_n, map_c, map_n, app_c, app_n, rep_0, rep_s, Nat.reduceAdd, Nat.reduceSub]
  decreasing_trivial_pre_omega
  cases d with
  | int i =>
    rw [isCount]
    rw [isNum] at h3
    refine IfB.d (fun c => ?_) (fun c => ?_)
    · decreasing_trivial_pre_omega
      rw [decide_eq_true c, Bool.true_and] at h3
      exact h3
    · decreasing_trivial_pre_omega
      rw [decide_eq_false c, Bool.false_and] at h3
      exact h3
  | _ => refine IfB.f rfl ?_; decreasing_trivial_pre_omega; exact h3
abbrev sIsTag : Stmt := top 32
theorem scTag : FnScope ["thing", "sign"] ["thing"] (defScope sIsTag) := ⟨rfl, rfl, rfl, by decide +kernel, rfl, by decide +kernel, by decide +kernel⟩
theorem ok_tag {f : Addr} {fd : FuncData} {k : Nat} (F : Fun K "is_tag" "is_tag" sIsTag f fd) (T : Bl mg) (C : Cs mg) : FnOk P w K mg base CX0 (k + 1) f fd ["thing"] (spD K 1 (tfB isTag)) := by
  refine okD F scTag rfl fun cdv A outer s H E hr => ?_
  refine ⟨_, _, (pss_cons (ps_if (PW.pt (pw_or (pt_not (pt_val (pe_callB (r := rIsi K) call_isi (by rfl) T.isi PyProof.Rows.boot_isinstance (pa_cons (pv 0) (pa_cons (b_str T) pa_nil))))) (pw_or1 (pt_not (pt_chain op_le op_le pe_int (pe_callB call_len_str (by rfl) T.len PySem.boot_len (pa_cons (pv 0) pa_nil)) (c_SIGNS C)))))) (pss_one (ps_ret pe_bl)) pss_nil)
    (pss_one (ps_ret (pe_callB (cr_all rfl) (by rfl) T.all PyProof.Rows.boot_all (pa_cons (pe_lc (own := [("sign", 1)]) (g := gName 1) (tt := tYes) (by rfl) scTag.nd (pi_str (pv 0)) (blkOk_by (N := ["thing", "sign"]) (sc := defScope sIsTag) (own := [("sign", 1)]) (by decide +kernel)) (fun _ _ _ _ _ => pg_name (i := 1) scTag.nd rfl (Or.inl rfl)) (fun _ _ _ _ _ => pts_nil) (fun _ _ _ _ _ => (pe_chain op_le_str op_le_str pe_str (pv 1) pe_str))) pa_nil))))),
    (ss_cons (ss_if (st_or (st_not (st_val (se_cb sc_isi (sa_cons se_nm (sa_cons se_o sa_nil))))) (st_not (st_test (se_chain so_le so_le se_int (se_cb sc_lenS (sa_cons se_nm sa_nil)) se_int)))) (ss_ret se_bl) ss_nil)
    (ss_ret (se_cb sc_all (sa_cons (se_lcF (si_str se_nm) sg_name st_yes (se_chain so_leS so_leS se_str se_nm se_str)) sa_nil)))), fun ws M R RX hl h => ?_⟩
  obtain ⟨x, rfl, h1⟩ := g1_of h
  obtain ⟨d, rfl, ht, h2⟩ := gD_of h1
  cases d with
  | str z =>
    have hz : z.length ≤ 1000 := (txt_str ht).1
    simp only [start0, len_c, len_n, map_c, map_n, app_c, app_n, rep_0, rep_s, Nat.reduceAdd, Nat.reduceSub]
    decreasing_trivial_pre_omega
    rw [isTag] at h2
    refine IfB.d (fun c1 => ?_) (fun c1 => ?_)
    · rw [decide_eq_true (p := 1 ≤ z.length) (by omega)] at h2
      decreasing_trivial_pre_omega
      refine IfB.d (fun c2 => ?_) (fun c2 => ?_)
      · rw [decide_eq_true (p := z.length ≤ 8) (by omega)] at h2
        decreasing_trivial_pre_omega
        unfold signs
        refine lc1 (fun c => .d (.bool (small c))) trivial (fun c _ Rk q => ?_) (sz1000 (by show z.length ≤ 1000; omega)) ?_
        · decreasing_trivial_pre_omega
          rw [show decide ((⟨#[c]⟩ : Str).cps.toList < ("a" : Str).cps.toList) = !decide (97 ≤ c) by rw [← le_a, Bool.not_not]]
          unfold small at q
          decreasing_trivial_pre_omega
          refine IfB.d (fun c3 => ?_) (fun c3 => ?_)
          · decreasing_trivial_pre_omega
            rw [decide_eq_true c3, Bool.true_and] at q
            show Rk (W.d (.bool (!decide (("z" : Str).cps.toList < (⟨#[c]⟩ : Str).cps.toList)))) M
            rw [le_z c]
            exact q
          · decreasing_trivial_pre_omega
            rw [decide_eq_false c3] at q
            exact q
        · rw [show (z.cps.toList.map fun c => W.d (.bool (small c))) = (z.cps.toList.map fun c => PyData.bool (small c)).map W.d by rw [List.map_map]; rfl, gDs_map]
          decreasing_trivial_pre_omega
          rw [List.map_map]
          show gBs (z.cps.toList.map fun c => W.d (.bool (small c))) _
          rw [gBs_map]
          simpa using h2
      · rw [decide_eq_false (p := z.length ≤ 8) (by omega)] at h2
        decreasing_trivial_pre_omega
        exact h2
    · rw [decide_eq_false (p := 1 ≤ z.length) (by omega)] at h2
      decreasing_trivial_pre_omega
      exact h2
  | _ => simp only [start0, len_c, len_n, map_c, map_n, app_c, app_n, rep_0, rep_s, Nat.reduceAdd, Nat.reduceSub]; decreasing_trivial_pre_omega; exact h2
abbrev sTagKids : Stmt := top 36
theorem scTagKids : FnScope ["thing"] ["thing"] (defScope sTagKids) := ⟨rfl, rfl, rfl, by decide +kernel, rfl, by decide +kernel, by decide +kernel⟩
theorem ok_tagKids {f : Addr} {fd : FuncData} {k j : Nat} (F : Fun K "is_tag_and_kids" "is_tag_and_kids" sTagKids f fd) (Uis_tag : Use P w K mg base "is_tag" ["thing"] j (spD K 1 (tfB isTag))) (hj : j ≤ k) (T : Bl mg) : FnOk P w K mg base CX0 (k + 1) f fd ["thing"] (spD K 1 (tfB tagKids)) := by
  refine okD F scTagKids rfl fun cdv A outer s H E hr => ?_
  refine ⟨_, _, (pss_one (ps_ret (pe_and (pe_callB (r := rIsi K) call_isi (by rfl) T.isi PyProof.Rows.boot_isinstance (pa_cons (pv 0) (pa_cons (b_tuple T) pa_nil))) (pe_and (pe_cmpR op_eq (pe_callB call_len_seq (by rfl) T.len PySem.boot_len (pa_cons (pv 0) pa_nil)) pe_int (nomark _)) (pe_and (pe_call Uis_tag.ok (hr.mono (by omega)) rfl Uis_tag.m Uis_tag.kp Uis_tag.b .nil pass0 (pa_cons (pe_ix ix_tup (pv 0) pe_int (fun _ _ => rfl)) pa_nil)) (pe_one (pe_callB (r := rIsi K) call_isi (by rfl) T.isi PyProof.Rows.boot_isinstance (pa_cons (pe_ix ix_tup (pv 0) pe_int (fun _ _ => rfl)) (pa_cons (b_tuple T) pa_nil))))))))),
    (ss_ret (se_and (se_cb sc_isi (sa_cons se_nm (sa_cons se_o sa_nil))) (se_and (se_op so_eqS (se_cb sc_len (sa_cons se_nm sa_nil)) se_int) (se_and (se_call (sa_cons (se_op so_ixT se_nm se_int) sa_nil)) (se_cb sc_isi (sa_cons (se_op so_ixT se_nm se_int) (sa_cons se_o sa_nil))))))), fun ws M R RX hl h => ?_⟩
  obtain ⟨x, rfl, h1⟩ := g1_of h
  obtain ⟨d, rfl, ht, h2⟩ := gD_of h1
  cases d with
  | tuple ds =>
    match ds with
    | [] => simp only [start0, len_c, len_n, map_c, map_n, app_c, app_n, rep_0, rep_s, Nat.reduceAdd, Nat.reduceSub]; decreasing_trivial_pre_omega; exact h2
    | [_] => simp only [start0, len_c, len_n, map_c, map_n, app_c, app_n, rep_0, rep_s, Nat.reduceAdd, Nat.reduceSub]; decreasing_trivial_pre_omega; exact h2
    | _ :: _ :: _ :: _ => simp only [start0, len_c, len_n, map_c, map_n, app_c, app_n, rep_0, rep_s, Nat.reduceAdd, Nat.reduceSub]; decreasing_trivial_pre_omega; exact h2
    | [a, b] =>
      have hta : txt a = true := by rw [txt] at ht; exact txtAll_get (i := 0) ht rfl
      rw [tagKids] at h2
      simp only [start0, len_c, len_n, map_c, map_n, app_c, app_n, rep_0, rep_s, Nat.reduceAdd, Nat.reduceSub]
      decreasing_trivial_pre_omega
      cases c : isTag a
      · rw [c] at h2; decreasing_trivial_pre_omega; exact h2
      · rw [c] at h2; decreasing_trivial_pre_omega; exact h2
  | _ => simp only [start0, len_c, len_n, map_c, map_n, app_c, app_n, rep_0, rep_s, Nat.reduceAdd, Nat.reduceSub]; decreasing_trivial_pre_omega; exact h2
abbrev sRoom : Stmt := top 35
theorem scRoom : FnScope ["thing", "levels", "room", "left", "kid"] ["thing", "levels", "room"] (defScope sRoom) := ⟨rfl, rfl, rfl, by decide +kernel, rfl, by decide +kernel, by decide +kernel⟩
theorem ok_room1 {f : Addr} {fd : FuncData} {n j : Nat} (F : Fun K "room_behind" "room_behind" sRoom f fd) (Uroom_behind : Use P w K mg base "room_behind" ["thing", "levels", "room"] (2 + n) (spD K 3 (tfRoom n))) (Uis_tag_and_kids : Use P w K mg base "is_tag_and_kids" ["thing"] j (spD K 1 (tfB tagKids))) (hj : j ≤ 2) (T : Bl mg) :
    FnOk P w K mg base CX0 (2 + n + 1) f fd ["thing", "levels", "room"] (spD K 3 (tfRoom (n + 1))) := by
  refine okD F scRoom rfl fun cdv A outer s H E hr => ?_
  refine ⟨_, _, (pss_cons (ps_if (PW.pt (pw_or (pt_cmpR op_eq (pv 1) pe_int (nomark _)) (pw_or (pt_cmpR op_eq (pv 2) pe_int (nomark _)) (pw_or1 (pt_not (pt_val (pe_call Uis_tag_and_kids.ok (hr.mono (by omega)) rfl Uis_tag_and_kids.m Uis_tag_and_kids.kp Uis_tag_and_kids.b .nil pass0 (pa_cons (pv 0) pa_nil)))))))) (pss_one (ps_ret pe_non)) pss_nil)
    (pss_cons (ps_set (i := 3) scRoom.nd rfl (.inl rfl) (pe_op op_sub (pv 2) pe_int))
    (pss_cons (ps_for PassesOwn.never rfl (pi_tup (pe_ix ix_tup (pv 0) pe_int (fun _ _ => rfl))) (pg_name (i := 4) scRoom.nd rfl (.inl rfl)) (pss_cons (ps_set (i := 3) scRoom.nd rfl (.inl rfl) (pe_call Uroom_behind.ok (hr.mono (by omega)) rfl Uroom_behind.m Uroom_behind.kp Uroom_behind.b .nil pass0 (pa_cons (pv 4) (pa_cons (pe_op op_sub (pv 1) pe_int) (pa_cons (pv 3) pa_nil)))))
      (pss_one (ps_if (pt_cmpR op_isN (pv 3) pe_non (nomark _)) (pss_one (ps_ret pe_non)) pss_nil))))
    (pss_one (ps_ret (pv 3)))))),
    (ss_cons (ss_if (st_or (st_test (se_op so_eqS se_nm se_int)) (st_or (st_test (se_op so_eqS se_nm se_int)) (st_not (st_val (se_call (sa_cons se_nm sa_nil)))))) (ss_ret se_non) ss_nil)
    (ss_cons (ss_set (se_op so_sub se_nm se_int))
    (ss_cons (ss_for (si_tup (se_op so_ixT se_nm se_int)) sg_name (ss_cons (ss_set (se_call (sa_cons se_nm (sa_cons (se_op so_sub se_nm se_int) (sa_cons se_nm sa_nil)))))
      (ss_if (st_test (se_op so_isN se_nm se_non)) (ss_ret se_non) ss_nil)))
    (ss_ret se_nm)))), fun ws M R RX hl h => ?_⟩
  obtain ⟨d, l, r, rfl, ht, hln, h2⟩ := h
  simp only [start0, len_c, len_n, map_c, map_n, app_c, app_n, rep_0, rep_s, Nat.reduceAdd, Nat.reduceSub]
  decreasing_trivial_pre_omega
  refine IfB.d (fun c => ?_) (fun c => ?_)
  · decreasing_trivial_pre_omega
    have e : l = 0 := by omega
    subst e
    exact h2
  obtain ⟨l, rfl⟩ : ∃ l', l = l' + 1 := ⟨l - 1, by omega⟩
  decreasing_trivial_pre_omega
  refine IfB.d (fun c2 => ?_) (fun c2 => ?_)
  · decreasing_trivial_pre_omega
    have e : r = 0 := by omega
    subst e
    exact h2
  obtain ⟨r, rfl⟩ : ∃ r', r = r' + 1 := ⟨r - 1, by omega⟩
  decreasing_trivial_pre_omega
  rw [roomB] at h2
  cases c3 : tagKids d with
  | false =>
    rw [c3] at h2
    decreasing_trivial_pre_omega
    exact h2
  | true =>
    rw [c3, if_pos rfl] at h2
    decreasing_trivial_pre_omega
    obtain ⟨a0, ks, rfl⟩ : ∃ a0 ks, d = .tuple [a0, .tuple ks] := by
      unfold tagKids at c3
      split at c3
      · rename_i a b
        cases b with
        | tuple ks => exact ⟨a, ks, rfl⟩
        | _ => simp [isTup] at c3
      · cases c3
    have ht2 : txtAll ks = true := by
      rw [txt, txtAll, txtAll, txt] at ht
      simp only [Bool.and_eq_true] at ht
      exact ht.2.1
    rw [kidsD] at h2
    decreasing_trivial_pre_omega
    refine for1 (fun i ρ M' => ∃ (m : Nat) (y : Option W), ρ = [some (.d (.tuple [a0, .tuple ks])), some (.d (.int ((l + 1 : Nat) : Int))), some (.d (.int ((r + 1 : Nat) : Int))), some (.d (.int (m : Int))), y] ∧ M' = M ∧ (ks.take i).foldl (fun o kd => o.bind (roomB l kd)) (some r) = some m)
      ⟨r, none, by show [some _, some _, some _, some (W.d (.int (((r + 1 : Nat) : Int) - 1))), none] = _; rw [show (((r + 1 : Nat) : Int) - 1) = (r : Int) by omega], rfl, rfl⟩ (fun _ _ _ _ _ => trivial) (fun i kd ρ M' N hk p hN => ?_) (fun ρ M' p => ?_)
    · obtain ⟨m, y, rfl, rfl, hm⟩ := p
      have hf : (ks.take (i + 1)).foldl (fun o kd => o.bind (roomB l kd)) (some r) = roomB l kd m := by
        rw [List.take_add_one, hk, List.foldl_append, hm]
        rfl
      decreasing_trivial_pre_omega
      refine ⟨kd, l, m, by show [W.d kd, W.d (.int (((l + 1 : Nat) : Int) - 1)), W.d (.int (m : Int))] = _; rw [show (((l + 1 : Nat) : Int) - 1) = (l : Int) by omega], txtAll_get ht2 hk, by omega, ?_⟩
      cases hr2 : roomB l kd m with
      | none =>
        rw [hr2] at hf
        decreasing_trivial_pre_omega
        have e : ks.foldl (fun o kd => o.bind (roomB l kd)) (some r) = none := by
          rw [← List.take_append_drop (i + 1) ks, List.foldl_append, hf]
          exact fold_none _ _
        rw [e] at h2
        exact h2
      | some m' =>
        decreasing_trivial_pre_omega
        exact hN _ _ ⟨m', _, rfl, rfl, by rw [hf]; exact hr2⟩
    · obtain ⟨m, y, rfl, rfl, hm⟩ := p
      rw [List.take_length] at hm
      rw [hm] at h2
      exact h2
theorem ok_room {f : Addr} {fd : FuncData} {j : Nat} (F : Fun K "room_behind" "room_behind" sRoom f fd) (mF : mg "room_behind" = some (.ref f)) (Uis_tag_and_kids : Use P w K mg base "is_tag_and_kids" ["thing"] j (spD K 1 (tfB tagKids))) (hj : j ≤ 2) (T : Bl mg) :
    ∀ n, FnOk P w K mg base CX0 (2 + n) f fd ["thing", "levels", "room"] (spD K 3 (tfRoom n))
  | 0 => no0 fun ws M R RX ⟨_, _, _, _, _, h, _⟩ => by omega
  | n + 1 => ok_room1 F ⟨f, fd, ok_room F mF Uis_tag_and_kids hj T n, mF, F.kp, F.binds (ps := ["thing", "levels", "room"]) fun _ _ _ _ _ _ us hl => match us, hl with | [_, _, _], _ => rfl⟩ Uis_tag_and_kids hj T
abbrev sIsTree : Stmt := top 34
theorem scTree : FnScope ["thing"] ["thing"] (defScope sIsTree) := ⟨rfl, rfl, rfl, by decide +kernel, rfl, by decide +kernel, by decide +kernel⟩
theorem ok_tree {f : Addr} {fd : FuncData} {k j : Nat} (F : Fun K "is_tree" "is_tree" sIsTree f fd) (Uroom_behind : Use P w K mg base "room_behind" ["thing", "levels", "room"] j (spD K 3 (tfRoom 13))) (hj : j ≤ k) (C : Cs mg) : FnOk P w K mg base CX0 (k + 1) f fd ["thing"] (spD K 1 (tfB isTreeD)) := by
  refine okD F scTree rfl fun cdv A outer s H E hr => ?_
  refine ⟨_, _, (pss_one (ps_ret (pe_cmpR op_notN (pe_call Uroom_behind.ok (hr.mono (by omega)) rfl Uroom_behind.m Uroom_behind.kp Uroom_behind.b .nil pass0 (pa_cons (pv 0) (pa_cons (c_DEPTH C) (pa_cons (c_SIZE C) pa_nil)))) pe_non (nomark _)))),
    (ss_ret (se_op so_notN (se_call (sa_cons se_nm (sa_cons se_int (sa_cons se_int sa_nil)))) se_non)), fun ws M R RX hl h => ?_⟩
  obtain ⟨x, rfl, h1⟩ := g1_of h
  obtain ⟨d, rfl, ht, h2⟩ := gD_of h1
  simp only [start0, len_c, len_n, map_c, map_n, app_c, app_n, rep_0, rep_s, Nat.reduceAdd, Nat.reduceSub]
  decreasing_trivial_pre_omega
  refine ⟨d, 12, 60, rfl, ht, by omega, ?_⟩
  unfold isTreeD at h2
  cases hr : roomB 12 d 60 <;> (rw [hr] at h2; decreasing_trivial_pre_omega; exact h2)
abbrev sChkTree : Stmt := top 42
theorem scChkTree : FnScope ["thing"] ["thing"] (defScope sChkTree) := ⟨rfl, rfl, rfl, by decide +kernel, rfl, by decide +kernel, by decide +kernel⟩
theorem ok_chkTree {f C : Addr} {fd : FuncData} {k j : Nat} (F : Fun K "check_tree" "check_tree" sChkTree f fd) (XNoTree : Er K mg "NoTree" C) (Uis_tree : Use P w K mg base "is_tree" ["thing"] j (spD K 1 (tfB isTreeD))) (hj : j ≤ k) :
    FnOk P w K mg base (L2.CX P w) (k + 1) f fd ["thing"] (spD K 1 (tfChk isTreeD C)) := by
  refine okDX F scChkTree rfl fun cdv A outer s H E hr => ?_
  refine ⟨_, fun RE => _, (pss_one (ps_if (pt_not (pt_val (PE.nox (pe_call Uis_tree.ok (hr.mono (by omega)) rfl Uis_tree.m Uis_tree.kp Uis_tree.b .nil pass0 (pa_cons (pv 0) pa_nil))))) (pss_one (ps_raise rfl (takes_of (E := E) rfl rfl rfl rfl) (pmk_own0 PySem.F.excBase_ValueError XNoTree.x XNoTree.g XNoTree.k (raises_own XNoTree.b XNoTree.t) (by exact rfl)))) pss_nil)), fun RE => (ss_if (st_not (st_val (se_call (sa_cons se_nm sa_nil)))) ss_raise0 ss_nil), fun ws M R RX hl h => ?_⟩
  obtain ⟨x, rfl, h1⟩ := g1_of h
  obtain ⟨d, rfl, ht, h2, h3⟩ := gD_of h1
  simp only [start0, len_c, len_n, map_c, map_n, app_c, app_n, rep_0, rep_s, Nat.reduceAdd, Nat.reduceSub]
  decreasing_trivial_pre_omega
  cases c : isTreeD d
  · decreasing_trivial_pre_omega
    exact h3 c
  · decreasing_trivial_pre_omega
    exact h2 c
end
end Tl
set_option Elab.async false
set_option linter.all false
set_option maxRecDepth 100000
set_option maxHeartbeats 8000000
namespace Tl
open PySem L2 RZ
/-- a number below m from the source at st -/
@[reducible] def tfNext (b : Bool) : TF := fun ws M R _ => g2 ws fun x y => gR x fun st => gI y fun m => (M st = some (.src b) ∧ 1 ≤ m ∧ m ≤ 100000) ∧ ∀ r : Int, 0 ≤ r → r < m → R (.d (.int r)) M
theorem fm_pos (x : Int) {m : Int} (h : 0 < m) : 0 ≤ x.fmod m ∧ x.fmod m < m := ⟨Int.fmod_nonneg_of_pos x h, Int.fmod_lt_of_pos x h⟩
theorem fd_pos {x m : Int} (hx : 0 ≤ x) (h : 0 < m) : 0 ≤ x.fdiv m := by
  rw [Int.fdiv_eq_ediv_of_nonneg _ (Int.le_of_lt h)]
  exact Int.ediv_nonneg hx (Int.le_of_lt h)
theorem cut63 (ns : List Int) : cutV (ns.map V.int) none (some 63) = (ns.take 63).map V.int := by
  unfold cutV
  rw [HT.sIx_none, show HT.sIx (ns.map V.int).length (ns.map V.int).length (some 63) = min 63 (ns.map V.int).length from HT.sIx_nat (ns.map V.int).length (ns.map V.int).length 63, List.length_map]
  rw [Nat.sub_zero, List.drop_zero, List.map_take]
  by_cases h : 63 ≤ ns.length
  · rw [Nat.min_eq_left h]
  · rw [Nat.min_eq_right (by omega), List.take_of_length_le (by simp), List.take_of_length_le (by simp; omega)]
theorem at4 {c : Addr} {i p z : Int} : atI [V.ref c, .int i, .int p, .int z] 0 = some (.ref c) ∧ atI [V.ref c, .int i, .int p, .int z] 1 = some (.int i) ∧ atI [V.ref c, .int i, .int p, .int z] 2 = some (.int p) ∧ atI [V.ref c, .int i, .int p, .int z] 3 = some (.int z) :=
  ⟨atI_nat (j := 0) rfl, atI_nat (j := 1) rfl, atI_nat (j := 2) rfl, atI_nat (j := 3) rfl⟩
theorem nz29 : (2147483629 : Int) ≠ 0 := by decide
theorem nz47 : (2147483647 : Int) ≠ 0 := by decide
section
variable {P : Program} {w : World} {K : PySem.W.Frag} {mg : Str → Option Value} {base : Heap}
/-- the source as it stands, and how it goes on -/
theorem src_at {b : Bool} {F H : Hp} {M : Mem} {st : Addr} {R : W → Mem → Prop} {Q : VK} {m : Int} (hr : Rl K F H M) (hM : M st = some (.src b)) (hk : Kt K F H M R Q) (q : ∀ r : Int, 0 ≤ r → r < m → R (.d (.int r)) M) :
    ∃ (c : Addr) (cs : List Int) (i p z : Int), H st = some (.lst [.ref c, .int i, .int p, .int z]) ∧ SqL K H c (cs.map V.int) ∧ (∀ o, SqL K (upd H st o) c (cs.map V.int)) ∧ cs.length ≤ 63 ∧ (b = true → 0 < cs.length) ∧ 0 ≤ i ∧ 0 ≤ p ∧ 0 ≤ z ∧ z < (if b = true then 2147483647 else 2305843009213693951) ∧
      ∀ r i' p' z' : Int, 0 ≤ r → r < m → 0 ≤ i' → 0 ≤ p' → 0 ≤ z' → z' < (if b = true then 2147483647 else 2305843009213693951) → Q (.int r) (upd H st (.lst [.ref c, .int i', .int p', .int z'])) := by
  obtain ⟨_, h1, _, rfl, c, cs, i, p, z, rfl, hc, hl, hl0, hi, hp, hz0, hz1⟩ := hr.at_ st _ hM
  refine ⟨c, cs, i, p, z, h1, same_l hr.fh hc, fun o => same_l (same_mut hr.fh (hr.mf _ _ hM)) hc, hl, hl0, hi, hp, hz0, hz1, fun r i' p' z' g1 g2 g3 g4 g5 g6 => ?_⟩
  obtain ⟨r2, g⟩ := hr.put (u := .lst [.ref c, .int i', .int p', .int z']) (o := .src b) hM ⟨_, rfl, c, cs, i', p', z', rfl, hc, hl, hl0, g3, g4, g5, g6⟩
  rw [mset_id hM] at r2 g
  exact hk _ _ _ _ _ r2 g (.d (.int _)) (q r g1 g2)
abbrev sNext : Stmt := top 86
theorem scNext : FnScope ["_law_state_here", "_law_below", "_law_cells", "_law_cell", "_law_found"] ["_law_state_here", "_law_below"] (defScope sNext) := ⟨rfl, rfl, rfl, by decide +kernel, rfl, by decide +kernel, by decide +kernel⟩
theorem ok_next {f : Addr} {fd : FuncData} {k : Nat} (F : Fun K "_law_next" "_law_next" sNext f fd) (T : Bl mg) : FnOk P w K mg base CX0 (k + 1) f fd ["_law_state_here", "_law_below"] (spD K 2 (tfNext true)) := by
  refine F.ok scNext (fun vs H Q E h => ?_) (fun cdv A outer s H vs Q E hr h => ?_)
  · obtain ⟨F0, M, ws, R, RX, r, rs, hl, _⟩ := h
    rw [rs.len, hl]
    rfl
  obtain ⟨F0, M, ws, R, RX, hr0, rs, _, hf, hk, _⟩ := h
  obtain ⟨x0, y0, rfl, hf1⟩ := g2_of hf
  obtain ⟨st, rfl, hf2⟩ := gR_of hf1
  obtain ⟨m, rfl, ⟨hM, hm0, hm1⟩, q0⟩ := gI_of hf2
  obtain ⟨v1, v2, rfl, e1, e2⟩ := rs.two
  obtain rfl := e1.ref
  obtain rfl := e2.int
  obtain ⟨c, cs, i, p, z, h1, h2, h3, hl, hl0, hi, hp, hz0, hz1, q⟩ := src_at hr0 hM hk q0
  have hl0 := hl0 rfl
  rw [if_pos rfl] at hz1
  simp only [if_true] at q
  refine ⟨_, (pss_cons (ps_if (pt_cmpR op_gt (pe_ix ix_list (pv 0) pe_int (fun _ _ => rfl)) pe_int (nomark _)) (pss_cons (ps_set (i := 4) scNext.nd rfl (.inl rfl) (pe_op op_modN (pe_ix ix_list (pv 0) pe_int (fun _ _ => rfl)) (pv 1)))
      (pss_cons (ps_asg (pe_op op_fdivN (pe_ix ix_list (pv 0) pe_int (fun _ _ => rfl)) (pv 1)) (pg_sub (pv 0) pe_int set_list))
      (pss_one (ps_ret (pv 4))))) pss_nil)
    (pss_cons (ps_set (i := 2) scNext.nd rfl (.inl rfl) (pe_ix ix_list (pv 0) pe_int (fun _ _ => rfl)))
    (pss_cons (ps_set (i := 3) scNext.nd rfl (.inl rfl) (pe_ix ix_list (pv 2) (pe_op op_modN (pe_ix ix_list (pv 0) pe_int (fun _ _ => rfl)) (pe_callB call_len_seq (by rfl) T.len PySem.boot_len (pa_cons (pv 2) pa_nil))) (fun _ _ => rfl)))
    (pss_cons (ps_asg (pe_op op_add (pe_ix ix_list (pv 0) pe_int (fun _ _ => rfl)) pe_int) (pg_sub (pv 0) pe_int set_list))
    (pss_cons (ps_if (PW.pt (pw_and (pt_cmpR op_ge (pv 3) (pe_op op_pow pe_int pe_int) (nomark _)) (pw_and1 (pt_cmpR op_le (pe_ix ix_list (pv 0) pe_int (fun _ _ => rfl)) (pe_callB call_len_seq (by rfl) T.len PySem.boot_len (pa_cons (pv 2) pa_nil)) (nomark _))))) (pss_cons (ps_asg (pe_op op_fdivN (pv 3) (pv 1)) (pg_sub (pv 0) pe_int set_list))
      (pss_one (ps_ret (pe_op op_modN (pv 3) (pv 1))))) pss_nil)
    (pss_cons (ps_asg (pe_op op_modN (pe_op op_add (pe_op op_add (pe_op op_mul (pe_ix ix_list (pv 0) pe_int (fun _ _ => rfl)) pe_int) (pe_op op_modN (pv 3) pe_int)) (pe_op op_mul pe_int (pe_ix ix_list (pv 0) pe_int (fun _ _ => rfl)))) pe_int) (pg_sub (pv 0) pe_int set_list))
    (pss_one (ps_ret (pe_op op_modN (pe_op op_fdivN (pe_op op_modN (pe_op op_mul (pe_ix ix_list (pv 0) pe_int (fun _ _ => rfl)) pe_int) pe_int) pe_int) (pv 1)))))))))), ?_⟩
  have hm30 : m ≠ 0 ∧ m.natAbs < 1073741824 := ⟨by omega, by omega⟩
  refine ⟨_, rfl, st, _, 2, _, rfl, rfl, SqL.of h1, at4.2.2.1, p, 0, rfl, rfl, _, rfl, ?_⟩
  refine iteD (fun cc => ?_) (fun cc => ?_)
  · refine ⟨_, rfl, st, _, 2, _, rfl, rfl, SqL.of h1, at4.2.2.1, _, rfl, p, m, rfl, rfl, hm30.1, ?_⟩
    refine ⟨_, rfl, st, _, 2, _, rfl, rfl, SqL.of h1, at4.2.2.1, _, rfl, p, m, rfl, rfl, hm30, ?_⟩
    refine ⟨_, rfl, st, _, 2, 2, rfl, rfl, h1, rfl, ?_⟩
    refine ⟨_, rfl, ?_⟩
    exact q _ _ _ _ (fm_pos p (by omega)).1 (fm_pos p (by omega)).2 hi (fd_pos hp (by omega)) hz0 hz1
  · refine ⟨_, rfl, st, _, 0, _, rfl, rfl, SqL.of h1, at4.1, ?_⟩
    have hlen : (cs.map V.int).length = cs.length := List.length_map _
    have hf := fm_pos i (m := ((cs.map V.int).length : Nat)) (by rw [hlen]; omega)
    obtain ⟨j, ej⟩ : ∃ j : Nat, i.fmod ((cs.map V.int).length : Nat) = (j : Int) := ⟨(i.fmod ((cs.map V.int).length : Nat)).toNat, by omega⟩
    have hj : j < cs.length := by rw [hlen] at hf; rw [hlen] at ej; omega
    have hat : atI (cs.map V.int) (i.fmod ((cs.map V.int).length : Nat)) = some (.int cs[j]) := by
      rw [ej]
      exact atI_nat (by rw [List.getElem?_map, List.getElem?_eq_getElem hj]; rfl)
    generalize cs[j] = x at hat
    refine ⟨_, rfl, _, rfl, st, _, 1, _, rfl, rfl, SqL.of h1, at4.2.1, _, rfl, c, _, rfl, .inl h2, i, _, rfl, rfl, by rw [hlen]; omega, c, _, _, _, rfl, rfl, h2, hat, ?_⟩
    refine ⟨_, rfl, st, _, 1, _, rfl, rfl, SqL.of h1, at4.2.1, i, 1, rfl, rfl, _, rfl, st, _, 1, 1, rfl, rfl, h1, rfl, ?_⟩
    have h1' : (upd H st (.lst [V.ref c, .int (i + 1), .int p, .int z])) st = some (.lst [V.ref c, .int (i + 1), .int p, .int z]) := upd_same
    have h2' := h3 (.lst [V.ref c, .int (i + 1), .int p, .int z])
    have fin2 : ∀ (r p' z' : Int), 0 ≤ r → r < m → 0 ≤ p' → 0 ≤ z' → z' < 2147483647 → Q (.int r) (upd (upd H st (.lst [V.ref c, .int (i + 1), .int p, .int z])) st (.lst [V.ref c, .int (i + 1), .int p', .int z'])) := fun r p' z' g1 g2 g3 g4 g5 => by
      rw [upd_upd]
      exact q _ _ _ _ g1 g2 (by omega) g3 g4 g5
    refine ⟨_, rfl, 10, 18, rfl, rfl, ⟨by decide, by decide, by decide⟩, x, _, rfl, rfl, _, rfl, ?_⟩
    have tail : ∀ _ : Unit, _ := fun _ => True.intro
    refine iteD (fun c1 => ?_) (fun c1 => ?_)
    · refine ⟨_, rfl, st, _, 1, _, rfl, rfl, SqL.of h1', at4.2.1, _, rfl, c, _, rfl, .inl h2', _, _, rfl, rfl, _, rfl, ?_⟩
      refine iteD (fun c2 => ?_) (fun c2 => ?_)
      · refine ⟨_, rfl, _, rfl, x, m, rfl, rfl, hm30, _, rfl, st, _, 2, 2, rfl, rfl, h1', rfl, ?_⟩
        refine ⟨_, rfl, _, rfl, x, m, rfl, rfl, hm30.1, ?_⟩
        exact fin2 _ _ _ (fm_pos x (by omega)).1 (fm_pos x (by omega)).2 (fd_pos (Int.le_trans (by decide) c1) (by omega)) hz0 hz1
      · skip
        refine ⟨_, rfl, st, _, 3, _, rfl, rfl, SqL.of h1', at4.2.2.2, z, 48271, rfl, rfl, .inl ⟨by omega, by omega⟩, _, rfl, x, 2147483629, rfl, rfl, nz29, _, _, rfl, rfl, _, rfl, st, _, 1, _, rfl, rfl, SqL.of h1', at4.2.1, 7, _, rfl, rfl, .inl ⟨by decide, by decide⟩, _, _, rfl, rfl, _, 2147483647, rfl, rfl, nz47, _, rfl, st, _, 3, 3, rfl, rfl, h1', rfl, ?_⟩
        have hb := fm_pos (z * 48271 + x.fmod 2147483629 + 7 * (i + 1)) (m := 2147483647) (by decide)
        refine ⟨_, rfl, st, _, 3, _, rfl, rfl, SqL.of upd_same, at4.2.2.2, _, 69621, rfl, rfl, .inl ⟨by omega, by omega⟩, _, 2147483629, rfl, rfl, nz29, _, 64, rfl, rfl, ⟨by decide, by decide⟩, _, rfl, _, m, rfl, rfl, hm30.1, ?_⟩
        exact fin2 _ _ _ (fm_pos _ (by omega)).1 (fm_pos _ (by omega)).2 hp hb.1 hb.2
    · skip
      refine ⟨_, rfl, st, _, 3, _, rfl, rfl, SqL.of h1', at4.2.2.2, z, 48271, rfl, rfl, .inl ⟨by omega, by omega⟩, _, rfl, x, 2147483629, rfl, rfl, nz29, _, _, rfl, rfl, _, rfl, st, _, 1, _, rfl, rfl, SqL.of h1', at4.2.1, 7, _, rfl, rfl, .inl ⟨by decide, by decide⟩, _, _, rfl, rfl, _, 2147483647, rfl, rfl, nz47, _, rfl, st, _, 3, 3, rfl, rfl, h1', rfl, ?_⟩
      have hb := fm_pos (z * 48271 + x.fmod 2147483629 + 7 * (i + 1)) (m := 2147483647) (by decide)
      refine ⟨_, rfl, st, _, 3, _, rfl, rfl, SqL.of upd_same, at4.2.2.2, _, 69621, rfl, rfl, .inl ⟨by omega, by omega⟩, _, 2147483629, rfl, rfl, nz29, _, 64, rfl, rfl, ⟨by decide, by decide⟩, _, rfl, _, m, rfl, rfl, hm30.1, ?_⟩
      exact fin2 _ _ _ (fm_pos _ (by omega)).1 (fm_pos _ (by omega)).2 hp hb.1 hb.2
abbrev sState : Stmt := top 85
theorem scState : FnScope ["_law_script", "_law_cells"] ["_law_script"] (defScope sState) := ⟨rfl, rfl, rfl, by decide +kernel, rfl, by decide +kernel, by decide +kernel⟩
theorem ok_state {f : Addr} {fd : FuncData} {k : Nat} (F : Fun K "_law_state" "_law_state" sState f fd) (T : Bl mg) : FnOk P w K mg base CX0 (k + 1) f fd ["_law_script"] (spState K) := by
  refine F.ok scState (fun vs H Q E h => ?_) (fun cdv A outer s H vs Q E hr h => ?_)
  · obtain ⟨a, ns, rfl, _⟩ := h
    rfl
  obtain ⟨a, ns, rfl, hS, q⟩ := h
  refine ⟨_, (pss_cons (ps_set (i := 1) scState.nd rfl (.inl rfl) (pe_callTy call_list_of (by rfl) T.list PyProof.Rows.boot_list (pa_cons (pe_slice sl_list (pv 0) po_none (po_some pe_int)) pa_nil)))
    (pss_cons (ps_if (pt_cmpR op_eq (pe_callB call_len_seq (by rfl) T.len PySem.boot_len (pa_cons (pv 1) pa_nil)) pe_int (nomark _)) (pss_one (ps_set (i := 1) scState.nd rfl (.inl rfl) (pe_lst (pa_cons pe_int pa_nil)))) pss_nil)
    (pss_one (ps_ret (pe_lst (pa_cons (pv 1) (pa_cons pe_int (pa_cons pe_int (pa_cons pe_int pa_nil))))))))), ?_⟩
  refine ⟨_, rfl, 63, rfl, a, _, rfl, hS, fun p hp => ?_⟩
  have e1 : Same H (upd H p (.lst (cutV (ns.map V.int) none (some 63)))) := same_new hp
  refine ⟨p, _, rfl, .inl (SqL.of upd_same), fun l hl => ?_⟩
  rw [cut63]
  rw [cut63] at hl e1
  generalize hcs : ns.take 63 = cs at hl e1 ⊢
  have hc63 : cs.length ≤ 63 := by rw [← hcs, List.length_take]; omega
  generalize upd H p (.lst (cs.map V.int)) = H1 at hl e1 ⊢
  have e2 : Same H (upd H1 l (.lst (cs.map V.int))) := e1.trans (same_new hl)
  have hl0 := e1.free hl
  refine ⟨_, rfl, l, _, rfl, .inl (SqL.of upd_same), rfl, _, rfl, ?_⟩
  refine iteD (fun c => ?_) (fun c => ?_)
  · refine ⟨by show 1 ≤ sizeLine; decide, fun p2 hp2 => ?_⟩
    refine ⟨_, rfl, by show 4 ≤ sizeLine; decide, fun p3 hp3 => ?_⟩
    have n23 : p2 ≠ p3 := ne_of_none upd_same hp3
    refine q p3 p2 [0] 91 _ ((e2.trans (same_new hp2)).trans (same_new hp3)) ((e2.trans (same_new hp2)).free hp3) (e2.free hp2) n23 upd_same ?_ (by decide) (by decide) (by decide) (by decide)
    rw [upd_ne n23]
    exact upd_same
  · refine ⟨_, rfl, by show 4 ≤ sizeLine; decide, fun p3 hp3 => ?_⟩
    have n23 : l ≠ p3 := ne_of_none upd_same hp3
    refine q p3 l cs 91 _ (e2.trans (same_new hp3)) (e2.free hp3) hl0 n23 upd_same ?_ ?_ hc63 (by decide) (by decide)
    · rw [upd_ne n23]
      exact upd_same
    · rcases Nat.eq_zero_or_pos cs.length with z | z
      · exact absurd (show V.int ((cs.map V.int).length : Nat) = V.int 0 by rw [List.length_map, z]; rfl) c
      · exact z
end
end Tl
set_option Elab.async false
set_option linter.all false
set_option maxRecDepth 100000
set_option maxHeartbeats 8000000
namespace Tl
open PySem L2 RZ
local macro_rules
  | `(tactic| decreasing_trivial) => `(tactic| ((with_reducible (conv => whnf)); (repeat ((first | (with_reducible refine gDs_c ?_) | (with_reducible refine gDs_n ?_) | (with_reducible refine gNs_c ?_) | (with_reducible refine gNs_n ?_) | (with_reducible refine gO_i tyAny_lt ?_) | (with_reducible refine gIs_c ?_) | (with_reducible refine gIs_n ?_) | (with_reducible refine gBs_c ?_) | (with_reducible refine gBs_n ?_) | (with_reducible refine gSs_c ?_) | (with_reducible refine gSs_n ?_) | (with_reducible refine gO_i tyIs_int ?_) | (with_reducible refine gO_i tyIs_bool ?_) | (with_reducible refine gO_i tyIs_str ?_) | (with_reducible refine gO_i tyIs_tuple ?_) | (with_reducible refine gO_i tyIs_list ?_) | (with_reducible refine gDs_i ?_) | (with_reducible refine gO_i (Eq.refl _) ?_) | (with_reducible refine gO_i (by assumption) ?_) | (with_reducible refine gO_i at_0 ?_) | (with_reducible refine gO_i at_m0 ?_) | (with_reducible refine gO_i at_1 ?_) | (with_reducible refine gO_i at_m1 ?_) | (with_reducible refine gO_i at_2 ?_) | (with_reducible refine gO_i at_m2 ?_) | (with_reducible refine gO_i at_3 ?_) | (with_reducible refine gO_i at_m3 ?_) | (with_reducible refine gO_i at_4 ?_) | (with_reducible refine gO_i at_m4 ?_) | (with_reducible refine gO_i at_5 ?_) | (with_reducible refine gO_i at_m5 ?_) | (with_reducible refine gO_i at_6 ?_) | (with_reducible refine gO_i at_m6 ?_) | (with_reducible refine gO_i at_7 ?_) | (with_reducible refine gO_i at_m7 ?_) | (with_reducible refine IfB.ngf ?_) | (with_reducible refine IfB.ngt ?_) | (with_reducible refine IfB.not ?_) | (with_reducible refine IfB.nil ?_) | (with_reducible refine IfB.nilT ?_) | (with_reducible refine IfB.f isE_c ?_) | (with_reducible refine IfB.t isE_n ?_) | (with_reducible refine IfB.t ?gha ?_; (case gha => rfl)) | (with_reducible refine IfB.f ?gha ?_; (case gha => rfl)) | (with_reducible refine IfB.t ?gha ?_; (case gha => assumption)) | (with_reducible refine IfB.f ?gha ?_; (case gha => assumption)) | (with_reducible refine IfB.yes (Eq.refl _) ?_) | (with_reducible refine IfB.yes ?gha ?_; (case gha => (first | omega | (simp only [len_c, len_n, List.length_map]; omega)))) | (with_reducible refine IfB.no ?gha ?_; (case gha => (first | omega | (simp only [len_c, len_n, List.length_map]; omega)))) | (with_reducible refine IfB.t ?gha ?_; (case gha => decide +kernel)) | (with_reducible refine IfB.f ?gha ?_; (case gha => decide +kernel))); (with_reducible (conv => whnf))))))
local macro_rules
  | `(tactic| decreasing_trivial_pre_omega) => `(tactic| (decreasing_trivial; (repeat ((first | ((with_reducible refine And.intro ?gha ?_); (case gha => (first | assumption | omega | exact rfl | (exact mset_same) | (exact ⟨_, mset_same⟩) | (exact Exists.intro _ (by first | exact mset_same | assumption | (rw [mset_ne (by assumption)]; first | exact mset_same | assumption))) | (exact sm_of (by omega) (by omega)) | (exact sz1000 (by first | omega | (simp; done) | (simp; omega))) | (exact Or.inl ⟨by decide, by decide⟩) | decide | (simp; done) | (refine ⟨?_, ?_⟩ <;> (first | assumption | omega | exact rfl | (exact mset_same) | (exact ⟨_, mset_same⟩) | (exact Exists.intro _ (by first | exact mset_same | assumption | (rw [mset_ne (by assumption)]; first | exact mset_same | assumption))) | (exact sm_of (by omega) (by omega)) | (exact sz1000 (by first | omega | (simp; done) | (simp; omega))) | (exact Or.inl ⟨by decide, by decide⟩) | decide | (simp; done))) | (refine ⟨?_, ?_, ?_⟩ <;> (first | assumption | omega | exact rfl | (exact mset_same) | (exact ⟨_, mset_same⟩) | (exact Exists.intro _ (by first | exact mset_same | assumption | (rw [mset_ne (by assumption)]; first | exact mset_same | assumption))) | (exact sm_of (by omega) (by omega)) | (exact sz1000 (by first | omega | (simp; done) | (simp; omega))) | (exact Or.inl ⟨by decide, by decide⟩) | decide | (simp; done))) | (refine ⟨?_, ?_, ?_, ?_⟩ <;> (first | assumption | omega | exact rfl | (exact mset_same) | (exact ⟨_, mset_same⟩) | (exact Exists.intro _ (by first | exact mset_same | assumption | (rw [mset_ne (by assumption)]; first | exact mset_same | assumption))) | (exact sm_of (by omega) (by omega)) | (exact sz1000 (by first | omega | (simp; done) | (simp; omega))) | (exact Or.inl ⟨by decide, by decide⟩) | decide | (simp; done)))))) | (with_reducible refine exW (by first | exact mset_same | assumption | (rw [mset_ne (by assumption)]; first | exact mset_same | assumption)) ?_)); decreasing_trivial))))
/-- a tree of at most so many places -/
@[reducible] def tfTreeL (b : Bool) : TF := fun ws M R _ => g2 ws fun x y => gR x fun st => gI y fun most => (M st = some (.src b) ∧ 1 ≤ most ∧ most ≤ 100) ∧ ∀ d, TrD 10 d → ((wt d : Nat) : Int) ≤ 98 * most → ((nn d : Nat) : Int) ≤ most → R (.d d) M
def nsW (es : List Nat) : List W := es.map fun (n : Nat) => W.d (.int (n : Int))
theorem nsW_get {es : List Nat} {j e : Nat} (h : es[j]? = some e) : atI (nsW es) (j : Int) = some (.d (.int (e : Int))) := atI_nat (by
  unfold nsW
  rw [List.getElem?_map, h]
  rfl)
theorem nsW_app (es : List Nat) (e : Nat) : nsW es ++ [.d (.int (e : Int))] = nsW (es ++ [e]) := by
  unfold nsW
  rw [List.map_append]
  rfl
theorem nsW_len (es : List Nat) : (nsW es).length = es.length := List.length_map _
section
variable {P : Program} {w : World} {K : PySem.W.Frag} {mg : Str → Option Value} {base : Heap}
abbrev sTreeL : Stmt := top 88
theorem scTreeL : FnScope ["_law_state_here", "_law_most", "_law_tags", "_law_many", "_law_slope", "_law_elders", "_law_levels", "_law_k", "_law_kids", "_law_elder"] ["_law_state_here", "_law_most"] (defScope sTreeL) := ⟨rfl, rfl, rfl, by decide +kernel, rfl, by decide +kernel, by decide +kernel⟩
theorem ok_treeL {f : Addr} {fd : FuncData} {k j : Nat} (F : Fun K "_law_tree" "_law_tree" sTreeL f fd) (U_law_next : Use P w K mg base "_law_next" ["_law_state_here", "_law_below"] j (spD K 2 (tfNext true))) (hj : j ≤ k) (T : Bl mg) : FnOk P w K mg base CX0 (k + 1) f fd ["_law_state_here", "_law_most"] (spD K 2 (tfTreeL true)) := by
  refine okDL F scTreeL rfl fun cdv A outer s H E hr => ?_
  refine ⟨_, _, (pss_cons (ps_set (i := 2) scTreeL.nd rfl (.inl rfl) (pe_lst (pa_cons pe_str (pa_cons pe_str (pa_cons pe_str (pa_cons pe_str (pa_cons pe_str pa_nil)))))))
    (pss_cons (ps_set (i := 3) scTreeL.nd rfl (.inl rfl) (pe_op op_add pe_int (pe_call U_law_next.ok (hr.mono (by omega)) rfl U_law_next.m U_law_next.kp U_law_next.b .nil pass0 (pa_cons (pv 0) (pa_cons (pv 1) pa_nil)))))
    (pss_cons (ps_set (i := 4) scTreeL.nd rfl (.inl rfl) (pe_call U_law_next.ok (hr.mono (by omega)) rfl U_law_next.m U_law_next.kp U_law_next.b .nil pass0 (pa_cons (pv 0) (pa_cons pe_int pa_nil))))
    (pss_cons (ps_set (i := 5) scTreeL.nd rfl (.inl rfl) (pe_lst (pa_cons pe_int pa_nil)))
    (pss_cons (ps_set (i := 6) scTreeL.nd rfl (.inl rfl) (pe_lst (pa_cons pe_int pa_nil)))
    (pss_cons (ps_for PassesOwn.never rfl (pi_range2 (by rfl) T.range (pa_cons pe_int (pa_cons (pv 3) pa_nil))) (pg_name (i := 7) scTreeL.nd rfl (.inl rfl)) (pss_cons (ps_set (i := 9) scTreeL.nd rfl (.inl rfl) (pe_ix ix_list (pe_lst (pa_cons (pe_call U_law_next.ok (hr.mono (by omega)) rfl U_law_next.m U_law_next.kp U_law_next.b .nil pass0 (pa_cons (pv 0) (pa_cons (pv 7) pa_nil))) (pa_cons (pe_op op_sub (pv 7) pe_int) (pa_cons (pe_callB (call_max2 rfl) (by rfl) T.max PyProof.Rows.boot_max (pa_cons pe_int (pa_cons (pe_op op_sub (pe_op op_sub (pv 7) pe_int) (pe_call U_law_next.ok (hr.mono (by omega)) rfl U_law_next.m U_law_next.kp U_law_next.b .nil pass0 (pa_cons (pv 0) (pa_cons pe_int pa_nil)))) pa_nil))) pa_nil)))) (pv 4) (fun _ _ => rfl)))
      (pss_cons (ps_if (pt_cmpR op_gt (pe_ix ix_list (pv 6) (pv 9) (fun _ _ => rfl)) pe_int (nomark _)) (pss_one (ps_set (i := 9) scTreeL.nd rfl (.inl rfl) pe_int)) pss_nil)
      (pss_cons (ps_expr (pe_bm PySem.F.plainAttrs_list PySem.F.slot_list_append PySem.F.type_list_append mt_append (pv 5) (pa_cons (pv 9) pa_nil)))
      (pss_one (ps_expr (pe_bm PySem.F.plainAttrs_list PySem.F.slot_list_append PySem.F.type_list_append mt_append (pv 6) (pa_cons (pe_op op_add (pe_ix ix_list (pv 6) (pv 9) (fun _ _ => rfl)) pe_int) pa_nil))))))))
    (pss_cons (ps_setLc (i := 8) (own := [("_law_k", 7)]) (g := gName 7) (tt := tYes) (by rfl) scTreeL.nd rfl rfl (sw_true rfl rfl rfl (by decide +kernel)) (pi_range1 (by rfl) T.range (pa_cons (pv 3) pa_nil)) (blkOk_by (N := ["_law_state_here", "_law_most", "_law_tags", "_law_many", "_law_slope", "_law_elders", "_law_levels", "_law_k", "_law_kids", "_law_elder"]) (sc := defScope sTreeL) (own := [("_law_k", 7)]) (by decide +kernel)) (fun _ _ _ _ _ => pg_name (i := 7) scTreeL.nd rfl (Or.inl rfl)) (fun _ _ _ _ _ => pts_nil) (fun _ _ _ _ _ => (pe_lst pa_nil)))
    (pss_cons (ps_for PassesOwn.never rfl (pi_range3 (by rfl) T.range (pa_cons (pe_op op_sub (pv 3) pe_int) (pa_cons pe_int (pa_cons (pe_un un_neg pe_int) pa_nil)))) (pg_name (i := 7) scTreeL.nd rfl (.inl rfl)) (pss_one (ps_expr (pe_bm PySem.F.plainAttrs_list PySem.F.slot_list_append PySem.F.type_list_append mt_append (pe_ix ix_list (pv 8) (pe_ix ix_list (pv 5) (pv 7) (fun _ _ => rfl)) (fun _ _ => rfl)) (pa_cons (pe_tup (pa_cons (pe_ix ix_list (pv 2) (pe_call U_law_next.ok (hr.mono (by omega)) rfl U_law_next.m U_law_next.kp U_law_next.b .nil pass0 (pa_cons (pv 0) (pa_cons pe_int pa_nil))) (fun _ _ => rfl)) (pa_cons (pe_callTy call_tuple_of (by rfl) T.tuple PyProof.Rows.boot_tuple (pa_cons (pe_revL (pe_ix ix_list (pv 8) (pv 7) (fun _ _ => rfl))) pa_nil)) pa_nil))) pa_nil)))))
    (pss_one (ps_ret (pe_tup (pa_cons (pe_ix ix_list (pv 2) (pe_call U_law_next.ok (hr.mono (by omega)) rfl U_law_next.m U_law_next.kp U_law_next.b .nil pass0 (pa_cons (pv 0) (pa_cons pe_int pa_nil))) (fun _ _ => rfl)) (pa_cons (pe_callTy call_tuple_of (by rfl) T.tuple PyProof.Rows.boot_tuple (pa_cons (pe_revL (pe_ix ix_list (pv 8) pe_int (fun _ _ => rfl))) pa_nil)) pa_nil))))))))))))),
    (ss_cons (ss_set (se_lsf (sa_cons se_str (sa_cons se_str (sa_cons se_str (sa_cons se_str (sa_cons se_str sa_nil)))))))
    (ss_cons (ss_set (se_op so_add se_int (se_call (sa_cons se_nm (sa_cons se_nm sa_nil)))))
    (ss_cons (ss_set (se_call (sa_cons se_nm (sa_cons se_int sa_nil))))
    (ss_cons (ss_set (se_lst (sa_cons se_int sa_nil)))
    (ss_cons (ss_set (se_lst (sa_cons se_int sa_nil)))
    (ss_cons (ss_for (si_r2 (sa_cons se_int (sa_cons se_nm sa_nil))) sg_name (ss_cons (ss_set (se_op so_ixL (se_lsf (sa_cons (se_call (sa_cons se_nm (sa_cons se_nm sa_nil))) (sa_cons (se_op so_sub se_nm se_int) (sa_cons (se_cb sc_max2 (sa_cons se_int (sa_cons (se_op so_sub (se_op so_sub se_nm se_int) (se_call (sa_cons se_nm (sa_cons se_int sa_nil)))) sa_nil))) sa_nil)))) se_nm))
      (ss_cons (ss_if (st_test (se_op so_gt (se_op so_ixL se_nm se_nm) se_int)) (ss_set se_int) ss_nil)
      (ss_cons (ss_drop (se_bmL sm_append se_nm (sa_cons se_nm sa_nil)))
      (ss_drop (se_bmL sm_append se_nm (sa_cons (se_op so_add (se_op so_ixL se_nm se_nm) se_int) sa_nil)))))))
    (ss_cons (ss_set (se_lcL (si_r1 (sa_cons se_nm sa_nil)) sg_name st_yes (se_lst sa_nil)))
    (ss_cons (ss_for (si_r3 (sa_cons (se_op so_sub se_nm se_int) (sa_cons se_int (sa_cons (se_un su_neg se_int) sa_nil)))) sg_name (ss_drop (se_bmL sm_append (se_op so_ixL se_nm (se_op so_ixL se_nm se_nm)) (sa_cons (se_tup (sa_cons (se_op so_ixL se_nm (se_call (sa_cons se_nm (sa_cons se_int sa_nil)))) (sa_cons (se_cb sc_tuple (sa_cons (se_rvF (se_op so_ixL se_nm se_nm)) sa_nil)) sa_nil))) sa_nil))))
    (ss_ret (se_tup (sa_cons (se_op so_ixL se_nm (se_call (sa_cons se_nm (sa_cons se_int sa_nil)))) (sa_cons (se_cb sc_tuple (sa_cons (se_rvF (se_op so_ixL se_nm se_int)) sa_nil)) sa_nil)))))))))))), fun ws M R RX hl h => ?_⟩
  obtain ⟨x0, y0, rfl, hf1⟩ := g2_of h
  obtain ⟨st, rfl, hf2⟩ := gR_of hf1
  obtain ⟨most, rfl, ⟨hM, hm1, hm2⟩, h3⟩ := gI_of hf2
  clear hf1 hf2 h hl
  simp only [start0, len_c, len_n, map_c, map_n, app_c, app_n, rep_0, rep_s, Nat.reduceAdd, Nat.reduceSub]
  decreasing_trivial_pre_omega
  intro m0 hm00 hm01
  decreasing_trivial_pre_omega
  intro slope hs0 hs1
  decreasing_trivial_pre_omega
  intro el hel
  decreasing_trivial_pre_omega
  intro lv hlv
  decreasing_trivial_pre_omega
  obtain ⟨mn, hmn⟩ : ∃ mn : Nat, 1 + m0 = ((mn + 1 : Nat) : Int) := ⟨m0.toNat, by omega⟩
  have hmn2 : mn + 1 ≤ 100 := by omega
  have nll : lv ≠ el := fun z => by rw [z, mset_same] at hlv; cases hlv
  rw [mset_ne nll] at hlv
  have nll2 : el ≠ lv := nll.symm
  have sel : st ≠ el := fun z => by rw [z, hel] at hM; cases hM
  have slv : st ≠ lv := fun z => by rw [z, hlv] at hM; cases hM
  refine forR (fun i ρ M' => ∃ (es ls : List Nat) (y7 y9 : Option W), ρ = [some (.r st), some (.d (.int most)), some (.d (.list [.str "a", .str "b", .str "ab", .str "zz", .str "abcdefgh"])), some (.d (.int (1 + m0))), some (.d (.int slope)), some (.r el), some (.r lv), y7, none, y9] ∧ M' = mset (mset M el (.lst (nsW es))) lv (.lst (nsW ls)) ∧ es.length = i + 1 ∧ ls.length = i + 1 ∧ RelEL es ls)
    ⟨[0], [1], none, none, rfl, rfl, rfl, rfl, RelEL.one⟩ (fun _ _ _ _ _ => trivial) (fun i ρ M' N hi p hN => ?_) (fun ρ M' p => ?_)
  · obtain ⟨es, ls, y7, y9, rfl, rfl, le, ll, Rl⟩ := p
    have eM : mset (mset M el (.lst (nsW es))) lv (.lst (nsW ls)) st = some (.src true) := by rw [mset_ne slv, mset_ne sel]; exact hM
    decreasing_trivial_pre_omega
    intro a1 ha10 ha11
    decreasing_trivial_pre_omega
    intro a2 ha20 ha21
    decreasing_trivial_pre_omega
    refine gO_atD (fun d => ∃ e : Nat, e ≤ i ∧ d = .int (e : Int)) hs0 (by simpa using hs1) (all1 ⟨a1.toNat, by omega, by congr 1; omega⟩ (all1 ⟨i, Nat.le_refl _, by show PyData.int (1 + (i : Int) - 1) = _; congr 1; omega⟩ (all1 ⟨(max 0 (1 + (i : Int) - 1 - a2)).toNat, by omega, by congr 1; omega⟩ all0))) fun d hd => ?_
    obtain ⟨e, hei, rfl⟩ := hd
    obtain ⟨l, hl⟩ : ∃ l, ls[e]? = some l := ⟨ls[e]'(by omega), List.getElem?_eq_getElem _⟩
    have hl10 := Rl.lev e l hl
    have m1 : ∀ {x y : MO}, mset (mset M el x) lv y el = some x := fun {x y} => by rw [mset_ne (Ne.symm nll)]; exact mset_same
    have m2 : ∀ {x y z : MO}, mset (mset (mset M el x) lv y) el z = mset (mset M el z) lv y := fun {x y z} => by
      funext b
      by_cases h1 : b = el
      · subst h1
        rw [mset_same, m1]
      · rw [mset_ne h1]
        by_cases h2 : b = lv
        · subst h2
          rw [mset_same, mset_same]
        · rw [mset_ne h2, mset_ne h2, mset_ne h1, mset_ne h1]
    have lE : (nsW es).length < sizeLine := by rw [nsW_len]; exact small1000 (by omega)
    have lL : (nsW ls).length < sizeLine := by rw [nsW_len]; exact small1000 (by omega)
    have goal : ∀ e' l' : Nat, ls[e']? = some l' → l' ≤ 9 → N [some (.r st), some (.d (.int most)), some (.d (.list [.str "a", .str "b", .str "ab", .str "zz", .str "abcdefgh"])), some (.d (.int (1 + m0))), some (.d (.int slope)), some (.r el), some (.r lv), some (.d (.int (1 + (i : Int)))), none, some (.d (.int (e' : Int)))] (mset (mset M el (.lst (nsW es ++ [.d (.int (e' : Int))]))) lv (.lst (nsW ls ++ [.d (.int ((l' : Int) + 1))]))) := fun e' l' h1 h2 => by
      refine hN _ _ ⟨es ++ [e'], ls ++ [l' + 1], _, _, rfl, ?_, by rw [List.length_append, le]; rfl, by rw [List.length_append, ll]; rfl, Rl.app (by omega) h1 h2⟩
      rw [← nsW_app, ← nsW_app]
      rfl
    decreasing_trivial_pre_omega
    refine gO_i (nsW_get hl) ?_
    decreasing_trivial_pre_omega
    refine IfB.d (fun c => ?_) (fun c => ?_)
    · decreasing_trivial_pre_omega
      refine gO_i (nsW_get (j := 0) Rl.first) ?_
      decreasing_trivial_pre_omega
      rw [m2, mset_mset]
      exact goal 0 1 Rl.first (by decide)
    · decreasing_trivial_pre_omega
      refine gO_i (nsW_get hl) ?_
      decreasing_trivial_pre_omega
      rw [m2, mset_mset]
      exact goal e l hl (by omega)
  · obtain ⟨es, ls, y7, y9, rfl, rfl, le, ll, Rl⟩ := p
    have hn : (1 + m0 - 1).toNat = mn := by omega
    rw [hn] at le ll
    decreasing_trivial_pre_omega
    have sub1 : ∀ a o, M a = some o → mset (mset M el (.lst (nsW es))) lv (.lst (nsW ls)) a = some o := fun a o h => by
      rw [mset_ne (fun z => by rw [z, hlv] at h; cases h), mset_ne (fun z => by rw [z, hel] at h; cases h)]
      exact h
    have e1 : mset (mset M el (.lst (nsW es))) lv (.lst (nsW ls)) el = some (.lst (nsW es)) := by rw [mset_ne (Ne.symm nll)]; exact mset_same
    generalize mset (mset M el (.lst (nsW es))) lv (.lst (nsW ls)) = M1 at sub1 e1
    have hn1 : (rng 0 (1 + m0).toNat).length = mn + 1 := by unfold rng; rw [List.length_map, List.length_range]; omega
    refine lc_new (rng 0 (1 + m0).toNat) [] M1 M1 (by rw [hn1]; exact Nat.le_of_lt (small1000 (by simp; omega))) List.nodup_nil (fun a h => absurd h List.not_mem_nil) (fun b _ => rfl) (fun as M2 l1 l2 l3 l4 D hD => ?_)
    rw [hn1] at l1
    have l1' : as.length = mn + 1 := by rw [l1]; simp
    have nst : ∀ {b : Addr} {o : MO}, M1 b = some o → ¬ b ∈ as := fun h z => by rw [(l3 _ z).1] at h; cases h
    have DnA : ¬ D ∈ as := fun z => by rw [(l3 _ z).2] at hD; cases hD
    have DM1 : M1 D = none := by rw [← l4 D DnA]; exact hD
    have neD : ∀ {b : Addr} {o : MO}, M1 b = some o → b ≠ D := fun h z => by rw [z, DM1] at h; cases h
    refine ⟨_, RgC.neg (by omega) (by omega) (by omega) (by omega), ?_⟩
    have hn2 : (1 + m0 - 1 - 0).toNat = mn := by omega
    rw [hn2]
    have at3 : ∀ {b : Addr} {o : MO}, M1 b = some o → mset M2 D (.lst (as.map W.r)) b = some o := fun {b o} h => by
      rw [mset_ne (neD h), l4 b (nst h)]
      exact h
    refine forRC (fun i ρ M' => ∃ (tss : List (List PyData)) (z7 : Option W), ρ = [some (.r st), some (.d (.int most)), some (.d (.list [.str "a", .str "b", .str "ab", .str "zz", .str "abcdefgh"])), some (.d (.int (1 + m0))), some (.d (.int slope)), some (.r el), some (.r lv), z7, some (.r D), y9] ∧ (∀ b o, M1 b = some o → M' b = some o) ∧ M' D = some (.lst (as.map W.r)) ∧ (∀ (j : Nat) (a : Addr) (ts : List PyData), as[j]? = some a → tss[j]? = some ts → M' a = some (.lst (ts.map W.d))) ∧ tss.length = mn + 1 ∧ sw (mn + 1 - i) tss ≤ 98 * i ∧ sn (mn + 1 - i) tss ≤ i ∧ ∀ (j l : Nat) (ts : List PyData), tss[j]? = some ts → ls[j]? = some l → ∀ t ∈ ts, TrD (10 - l) t)
      ⟨List.replicate (mn + 1) [], y7, rfl, fun b o h => at3 h, mset_same, fun j a ts h1 h2 => ?_, List.length_replicate, by rw [sw_rep]; exact Nat.zero_le _, by rw [sn_rep]; exact Nat.zero_le _, fun j l ts h1 _ t ht => ?_⟩ (fun _ _ _ _ _ => trivial) (fun i ρ M' N hi p hN => ?_) (fun ρ M' p => ?_)
    · rw [(List.mem_replicate.mp (List.mem_of_getElem? h2)).2]
      have ha := List.mem_of_getElem? h1
      rw [mset_ne (fun z => DnA (by rw [← z]; exact ha))]
      exact (l3 a ha).2
    · rw [(List.mem_replicate.mp (List.mem_of_getElem? h1)).2] at ht
      cases ht
    · obtain ⟨tss, z7, rfl, s7, D7, K7, lt7, sw7, sn7, tr7⟩ := p
      obtain ⟨kk, hkk⟩ : ∃ kk : Nat, kk + i = mn := ⟨mn - i, by omega⟩
      have hkv : 1 + m0 - 1 + ((i : Nat) : Int) * -1 = (kk : Int) := by omega
      have hk1 : 1 ≤ kk := by omega
      obtain ⟨e, he⟩ : ∃ e, es[kk]? = some e := ⟨es[kk]'(by omega), List.getElem?_eq_getElem _⟩
      obtain ⟨hek, hlev⟩ := Rl.eld kk e hk1 he
      obtain ⟨ae, hae⟩ : ∃ a, as[e]? = some a := ⟨as[e]'(by omega), List.getElem?_eq_getElem _⟩
      obtain ⟨ak, hak⟩ : ∃ a, as[kk]? = some a := ⟨as[kk]'(by omega), List.getElem?_eq_getElem _⟩
      obtain ⟨te, hte⟩ : ∃ t, tss[e]? = some t := ⟨tss[e]'(by omega), List.getElem?_eq_getElem _⟩
      obtain ⟨tk, htk⟩ : ∃ t, tss[kk]? = some t := ⟨tss[kk]'(by omega), List.getElem?_eq_getElem _⟩
      obtain ⟨le', hle'⟩ : ∃ l, ls[e]? = some l := ⟨ls[e]'(by omega), List.getElem?_eq_getElem _⟩
      obtain ⟨lk, hlk⟩ : ∃ l, ls[kk]? = some l := ⟨ls[kk]'(by omega), List.getElem?_eq_getElem _⟩
      have hll := hlev le' lk hle' hlk
      have hlk10 := Rl.lev kk lk hlk
      have aeA := List.mem_of_getElem? hae
      have atAe : atI (as.map W.r) (e : Int) = some (.r ae) := atI_nat (by rw [List.getElem?_map, hae]; rfl)
      have atAk : atI (as.map W.r) (kk : Int) = some (.r ak) := atI_nat (by rw [List.getElem?_map, hak]; rfl)
      have h9 := s7 _ _ e1
      have h8 := s7 _ _ (sub1 _ _ hM)
      have h7 := K7 e ae te hae hte
      have h6 := K7 kk ak tk hak htk
      rw [hkv]
      decreasing_trivial_pre_omega
      refine gO_i (nsW_get he) ?_
      decreasing_trivial_pre_omega
      intro r8 hr80 hr81
      decreasing_trivial_pre_omega
      refine gO_atD (ds := tags5.map .str) (fun d => ∃ s, s ∈ tags5 ∧ d = .str s) hr80 (by simpa [tags5] using hr81) (fun d hd => by
        obtain ⟨s, h1, h2⟩ := List.mem_map.mp hd
        exact ⟨s, h1, h2.symm⟩) fun d hd => ?_
      obtain ⟨tgs, htgs, rfl⟩ := hd
      have htag := tags5_ok tgs htgs
      have hlt : wtAll te ≤ sw (mn + 1 - i) tss := wt_sw (by omega) hte
      have hl2 := len_wt te
      have hsz : (te.map W.d).length < sizeLine := by
        rw [List.length_map]
        exact Nat.lt_of_le_of_lt (show te.length ≤ 100000 by omega) (by decide)
      decreasing_trivial_pre_omega
      refine hN _ _ ⟨tss.set e (te ++ [.tuple [.str tgs, .tuple tk.reverse]]), _, rfl, fun b o h => ?_, ?_, fun j a ts h1 h2 => ?_, by rw [List.length_set]; exact lt7, ?_, ?_, fun j l ts h1 h2 t ht => ?_⟩
      · rw [mset_ne (fun z => nst h (by rw [z]; exact aeA))]
        exact s7 b o h
      · rw [mset_ne (fun z => DnA (by rw [z]; exact aeA))]
        exact D7
      · by_cases cj : j = e
        · subst cj
          rw [hae] at h1
          cases h1
          rw [List.getElem?_set_self (by omega)] at h2
          cases h2
          rw [mset_same, List.map_append]
          rfl
        · rw [List.getElem?_set_ne (fun z => cj z.symm)] at h2
          rw [mset_ne (fun z => cj (nd_ix l2 h1 (by rw [z]; exact hae)))]
          exact K7 j a ts h1 h2
      · have e1 : mn + 1 - (i + 1) = kk := by omega
        have e2 : mn + 1 - i = kk + 1 := by omega
        rw [e2, sw_succ htk] at sw7
        rw [e1, sw_set hek hte, wt_node, wtAll_rev]
        omega
      · have e1 : mn + 1 - (i + 1) = kk := by omega
        have e2 : mn + 1 - i = kk + 1 := by omega
        rw [e2, sn_succ htk] at sn7
        rw [e1, sn_set hek hte, nn, nnAll_rev]
        omega
      · by_cases cj : j = e
        · subst cj
          rw [List.getElem?_set_self (by omega)] at h1
          cases h1
          rw [hle'] at h2
          cases h2
          rcases List.mem_append.mp ht with ht | ht
          · exact tr7 j _ te hte hle' t ht
          · rw [List.mem_singleton.mp ht]
            refine TrD.mono (show 10 - lk + 1 ≤ 10 - le' by omega) ⟨tgs, _, rfl, htag, fun kd hkd => ?_⟩
            exact tr7 kk lk tk htk hlk kd (List.mem_reverse.mp hkd)
        · rw [List.getElem?_set_ne (fun z => cj z.symm)] at h1
          exact tr7 j l ts h1 h2 t ht
    · obtain ⟨tss, z7, rfl, s7, D7, K7, lt7, sw7, sn7, tr7⟩ := p
      rw [show mn + 1 - mn = 1 by omega] at sw7 sn7
      obtain ⟨ak, hak⟩ : ∃ a, as[0]? = some a := ⟨as[0]'(by omega), List.getElem?_eq_getElem _⟩
      obtain ⟨tk, htk⟩ : ∃ t, tss[0]? = some t := ⟨tss[0]'(by omega), List.getElem?_eq_getElem _⟩
      have atAk : atI (as.map W.r) 0 = some (.r ak) := atI_nat (j := 0) (by rw [List.getElem?_map, hak]; rfl)
      have h8 := s7 _ _ (sub1 _ _ hM)
      have h6 := K7 0 ak tk hak htk
      decreasing_trivial_pre_omega
      intro r8 hr80 hr81
      decreasing_trivial_pre_omega
      refine gO_atD (ds := tags5.map .str) (fun d => ∃ s, s ∈ tags5 ∧ d = .str s) hr80 (by simpa [tags5] using hr81) (fun d hd => by
        obtain ⟨s, h1, h2⟩ := List.mem_map.mp hd
        exact ⟨s, h1, h2.symm⟩) fun d hd => ?_
      obtain ⟨tgs, htgs, rfl⟩ := hd
      have htag := tags5_ok tgs htgs
      decreasing_trivial_pre_omega
      refine ⟨M, fun a o h => s7 _ _ (sub1 _ _ h), h3 _ ?_ ?_ ?_⟩
      · refine ⟨tgs, _, rfl, htag, fun kd hkd => ?_⟩
        exact tr7 0 1 tk htk Rl.first kd (List.mem_reverse.mp hkd)
      · have hs1 : wtAll tk ≤ sw 1 tss := wt_sw (by omega) htk
        have hwn := wt_node tgs tk.reverse
        rw [wtAll_rev] at hwn
        omega
      · rw [show (1 : Nat) = 0 + 1 from rfl, sn_succ htk] at sn7
        rw [nn, nnAll_rev]
        omega
end
end Tl
set_option Elab.async false
set_option linter.all false
set_option maxRecDepth 100000
set_option maxHeartbeats 8000000
namespace Tl
open PySem L2 RZ
local macro_rules
  | `(tactic| decreasing_trivial) => `(tactic| ((with_reducible (conv => whnf)); (repeat ((first | (with_reducible refine gDs_c ?_) | (with_reducible refine gDs_n ?_) | (with_reducible refine gNs_c ?_) | (with_reducible refine gNs_n ?_) | (with_reducible refine gO_i tyAny_lt ?_) | (with_reducible refine gIs_c ?_) | (with_reducible refine gIs_n ?_) | (with_reducible refine gBs_c ?_) | (with_reducible refine gBs_n ?_) | (with_reducible refine gSs_c ?_) | (with_reducible refine gSs_n ?_) | (with_reducible refine gO_i tyIs_int ?_) | (with_reducible refine gO_i tyIs_bool ?_) | (with_reducible refine gO_i tyIs_str ?_) | (with_reducible refine gO_i tyIs_tuple ?_) | (with_reducible refine gO_i tyIs_list ?_) | (with_reducible refine gDs_i ?_) | (with_reducible refine gO_i (Eq.refl _) ?_) | (with_reducible refine gO_i (by assumption) ?_) | (with_reducible refine gO_i at_0 ?_) | (with_reducible refine gO_i at_m0 ?_) | (with_reducible refine gO_i at_1 ?_) | (with_reducible refine gO_i at_m1 ?_) | (with_reducible refine gO_i at_2 ?_) | (with_reducible refine gO_i at_m2 ?_) | (with_reducible refine gO_i at_3 ?_) | (with_reducible refine gO_i at_m3 ?_) | (with_reducible refine gO_i at_4 ?_) | (with_reducible refine gO_i at_m4 ?_) | (with_reducible refine gO_i at_5 ?_) | (with_reducible refine gO_i at_m5 ?_) | (with_reducible refine gO_i at_6 ?_) | (with_reducible refine gO_i at_m6 ?_) | (with_reducible refine gO_i at_7 ?_) | (with_reducible refine gO_i at_m7 ?_) | (with_reducible refine IfB.ngf ?_) | (with_reducible refine IfB.ngt ?_) | (with_reducible refine IfB.not ?_) | (with_reducible refine IfB.nil ?_) | (with_reducible refine IfB.nilT ?_) | (with_reducible refine IfB.f isE_c ?_) | (with_reducible refine IfB.t isE_n ?_) | (with_reducible refine IfB.t ?gha ?_; (case gha => rfl)) | (with_reducible refine IfB.f ?gha ?_; (case gha => rfl)) | (with_reducible refine IfB.t ?gha ?_; (case gha => assumption)) | (with_reducible refine IfB.f ?gha ?_; (case gha => assumption)) | (with_reducible refine IfB.yes (Eq.refl _) ?_) | (with_reducible refine IfB.yes ?gha ?_; (case gha => (first | omega | (simp only [len_c, len_n, List.length_map]; omega)))) | (with_reducible refine IfB.no ?gha ?_; (case gha => (first | omega | (simp only [len_c, len_n, List.length_map]; omega)))) | (with_reducible refine IfB.t ?gha ?_; (case gha => decide +kernel)) | (with_reducible refine IfB.f ?gha ?_; (case gha => decide +kernel))); (with_reducible (conv => whnf))))))
local macro_rules
  | `(tactic| decreasing_trivial_pre_omega) => `(tactic| (decreasing_trivial; (repeat ((first | ((with_reducible refine And.intro ?gha ?_); (case gha => (first | assumption | omega | exact rfl | (exact mset_same) | (exact ⟨_, mset_same⟩) | (exact Exists.intro _ (by first | exact mset_same | assumption | (rw [mset_ne (by assumption)]; first | exact mset_same | assumption))) | (exact sm_of (by omega) (by omega)) | (exact sz1000 (by first | omega | (simp; done) | (simp; omega))) | (exact Or.inl ⟨by decide, by decide⟩) | decide | (simp; done) | (refine ⟨?_, ?_⟩ <;> (first | assumption | omega | exact rfl | (exact mset_same) | (exact ⟨_, mset_same⟩) | (exact Exists.intro _ (by first | exact mset_same | assumption | (rw [mset_ne (by assumption)]; first | exact mset_same | assumption))) | (exact sm_of (by omega) (by omega)) | (exact sz1000 (by first | omega | (simp; done) | (simp; omega))) | (exact Or.inl ⟨by decide, by decide⟩) | decide | (simp; done))) | (refine ⟨?_, ?_, ?_⟩ <;> (first | assumption | omega | exact rfl | (exact mset_same) | (exact ⟨_, mset_same⟩) | (exact Exists.intro _ (by first | exact mset_same | assumption | (rw [mset_ne (by assumption)]; first | exact mset_same | assumption))) | (exact sm_of (by omega) (by omega)) | (exact sz1000 (by first | omega | (simp; done) | (simp; omega))) | (exact Or.inl ⟨by decide, by decide⟩) | decide | (simp; done))) | (refine ⟨?_, ?_, ?_, ?_⟩ <;> (first | assumption | omega | exact rfl | (exact mset_same) | (exact ⟨_, mset_same⟩) | (exact Exists.intro _ (by first | exact mset_same | assumption | (rw [mset_ne (by assumption)]; first | exact mset_same | assumption))) | (exact sm_of (by omega) (by omega)) | (exact sz1000 (by first | omega | (simp; done) | (simp; omega))) | (exact Or.inl ⟨by decide, by decide⟩) | decide | (simp; done)))))) | (with_reducible refine exW (by first | exact mset_same | assumption | (rw [mset_ne (by assumption)]; first | exact mset_same | assumption)) ?_)); decreasing_trivial))))
/-- one and the same data twice -/
@[reducible] def tfAlike (n : Nat) : TF := fun ws M R _ => g2 ws fun x y => gD y fun d => (asD M x fun e => e = d) ∧ (d.depth < n ∧ d.hasDict = false ∧ txt d = true) ∧ R (.d (.bool true)) M
theorem depth_get : ∀ {ds : List PyData} {i : Nat} {d : PyData}, ds[i]? = some d → d.depth ≤ PyData.depthAll ds ∧ (PyData.hasDictAll ds = false → d.hasDict = false)
  | [], _, _, e => by simp at e
  | a :: r, 0, d, e => by
    simp at e
    subst e
    rw [PyData.depthAll, PyData.hasDictAll]
    exact ⟨Nat.le_max_left _ _, fun h => by rw [Bool.or_eq_false_iff] at h; exact h.1⟩
  | a :: r, i + 1, d, e => by
    obtain ⟨h1, h2⟩ := depth_get (ds := r) (i := i) (by simpa using e)
    rw [PyData.depthAll, PyData.hasDictAll]
    exact ⟨Nat.le_trans h1 (Nat.le_max_right _ _), fun h => by rw [Bool.or_eq_false_iff] at h; exact h2 h.2⟩
section
variable {P : Program} {w : World} {K : PySem.W.Frag} {mg : Str → Option Value} {base : Heap}
abbrev sAlike : Stmt := top 87
theorem scAlike : FnScope ["_law_found", "_law_due", "_law_one", "_law_other"] ["_law_found", "_law_due"] (defScope sAlike) := ⟨rfl, rfl, rfl, by decide +kernel, rfl, by decide +kernel, by decide +kernel⟩
theorem ok_alike1 {f : Addr} {fd : FuncData} {n : Nat} (F : Fun K "_law_alike" "_law_alike" sAlike f fd) (U_law_alike : Use P w K mg base "_law_alike" ["_law_found", "_law_due"] n (spD K 2 (tfAlike n))) (T : Bl mg) (mz : mg "zip" = none) :
    FnOk P w K mg base CX0 (n + 1) f fd ["_law_found", "_law_due"] (spD K 2 (tfAlike (n + 1))) := by
  refine okD F scAlike rfl fun cdv A outer s H E hr => ?_
  refine ⟨_, _, (pss_cons (ps_if (pt_cmpR op_isN (pv 1) pe_non (nomark _)) (pss_one (ps_ret (pe_cmpR op_isN (pv 0) pe_non (nomark _)))) pss_nil)
    (pss_cons (ps_if (pt_val (pe_callB (r := rIsi K) call_isi (by rfl) T.isi PyProof.Rows.boot_isinstance (pa_cons (pv 1) (pa_cons (b_bool T) pa_nil)))) (pss_one (ps_ret (pe_and (pe_callB (r := rIsi K) call_isi (by rfl) T.isi PyProof.Rows.boot_isinstance (pa_cons (pv 0) (pa_cons (b_bool T) pa_nil))) (pe_one (pe_cmpR op_eq (pv 0) (pv 1) (nomark _)))))) pss_nil)
    (pss_cons (ps_if (pt_val (pe_callB (r := rIsi K) call_isi (by rfl) T.isi PyProof.Rows.boot_isinstance (pa_cons (pv 1) (pa_cons (b_int T) pa_nil)))) (pss_one (ps_ret (pe_and (pe_callB (r := rIsi K) call_isi (by rfl) T.isi PyProof.Rows.boot_isinstance (pa_cons (pv 0) (pa_cons (b_int T) pa_nil))) (pe_and (pe_not (pe_callB (r := rIsi K) call_isi (by rfl) T.isi PyProof.Rows.boot_isinstance (pa_cons (pv 0) (pa_cons (b_bool T) pa_nil)))) (pe_one (pe_cmpR op_eq (pv 0) (pv 1) (nomark _))))))) pss_nil)
    (pss_cons (ps_if (pt_val (pe_callB (r := rIsi K) call_isi (by rfl) T.isi PyProof.Rows.boot_isinstance (pa_cons (pv 1) (pa_cons (b_str T) pa_nil)))) (pss_one (ps_ret (pe_and (pe_callB (r := rIsi K) call_isi (by rfl) T.isi PyProof.Rows.boot_isinstance (pa_cons (pv 0) (pa_cons (b_str T) pa_nil))) (pe_one (pe_cmpR op_eq (pv 0) (pv 1) (nomark _)))))) pss_nil)
    (pss_cons (ps_if (PW.pt (pw_and (pt_val (pe_callB (r := rIsi K) call_isi (by rfl) T.isi PyProof.Rows.boot_isinstance (pa_cons (pv 1) (pa_cons (b_list T) pa_nil)))) (pw_and1 (pt_not (pt_val (pe_callB (r := rIsi K) call_isi (by rfl) T.isi PyProof.Rows.boot_isinstance (pa_cons (pv 0) (pa_cons (b_list T) pa_nil)))))))) (pss_one (ps_ret pe_bl)) pss_nil)
    (pss_cons (ps_if (PW.pt (pw_and (pt_val (pe_callB (r := rIsi K) call_isi (by rfl) T.isi PyProof.Rows.boot_isinstance (pa_cons (pv 1) (pa_cons (b_tuple T) pa_nil)))) (pw_and1 (pt_not (pt_val (pe_callB (r := rIsi K) call_isi (by rfl) T.isi PyProof.Rows.boot_isinstance (pa_cons (pv 0) (pa_cons (b_tuple T) pa_nil)))))))) (pss_one (ps_ret pe_bl)) pss_nil)
    (pss_cons (ps_if (pt_cmpR op_ne (pe_callB call_len_seq (by rfl) T.len PySem.boot_len (pa_cons (pv 0) pa_nil)) (pe_callB call_len_seq (by rfl) T.len PySem.boot_len (pa_cons (pv 1) pa_nil)) (nomark _)) (pss_one (ps_ret pe_bl)) pss_nil)
    (pss_cons (ps_for PassesOwn.never rfl (pi_zipA (by rfl) mz (pa_cons (pv 0) (pa_cons (pv 1) pa_nil))) (pg_tup rfl (pgs_cons (pg_name (i := 2) scAlike.nd rfl (.inl rfl)) (pgs_cons (pg_name (i := 3) scAlike.nd rfl (.inl rfl)) pgs_nil))) (pss_one (ps_if (pt_not (pt_val (pe_call U_law_alike.ok (hr.mono (by omega)) rfl U_law_alike.m U_law_alike.kp U_law_alike.b .nil pass0 (pa_cons (pv 2) (pa_cons (pv 3) pa_nil))))) (pss_one (ps_ret pe_bl)) pss_nil)))
    (pss_one (ps_ret pe_bl)))))))))),
    (ss_cons (ss_if (st_test (se_op so_isN se_nm se_non)) (ss_ret (se_op so_isN se_nm se_non)) ss_nil)
    (ss_cons (ss_if (st_val (se_cb sc_isi (sa_cons se_nm (sa_cons se_o sa_nil)))) (ss_ret (se_and (se_cb sc_isi (sa_cons se_nm (sa_cons se_o sa_nil))) (se_op so_eqS se_nm se_nm))) ss_nil)
    (ss_cons (ss_if (st_val (se_cb sc_isi (sa_cons se_nm (sa_cons se_o sa_nil)))) (ss_ret (se_and (se_cb sc_isi (sa_cons se_nm (sa_cons se_o sa_nil))) (se_and (se_not (se_cb sc_isi (sa_cons se_nm (sa_cons se_o sa_nil)))) (se_op so_eqS se_nm se_nm)))) ss_nil)
    (ss_cons (ss_if (st_val (se_cb sc_isi (sa_cons se_nm (sa_cons se_o sa_nil)))) (ss_ret (se_and (se_cb sc_isi (sa_cons se_nm (sa_cons se_o sa_nil))) (se_op so_eqS se_nm se_nm))) ss_nil)
    (ss_cons (ss_if (st_and (st_val (se_cb sc_isi (sa_cons se_nm (sa_cons se_o sa_nil)))) (st_not (st_val (se_cb sc_isi (sa_cons se_nm (sa_cons se_o sa_nil)))))) (ss_ret se_bl) ss_nil)
    (ss_cons (ss_if (st_and (st_val (se_cb sc_isi (sa_cons se_nm (sa_cons se_o sa_nil)))) (st_not (st_val (se_cb sc_isi (sa_cons se_nm (sa_cons se_o sa_nil)))))) (ss_ret se_bl) ss_nil)
    (ss_cons (ss_if (st_test (se_op so_neS (se_cb sc_len (sa_cons se_nm sa_nil)) (se_cb sc_len (sa_cons se_nm sa_nil)))) (ss_ret se_bl) ss_nil)
    (ss_cons (ss_for (si_zip (sa_cons se_nm (sa_cons se_nm sa_nil))) sg_pair (ss_if (st_not (st_val (se_call (sa_cons se_nm (sa_cons se_nm sa_nil))))) (ss_ret se_bl) ss_nil))
    (ss_ret se_bl))))))))), fun ws M R RX hl h => ?_⟩
  obtain ⟨x, y, rfl, h1⟩ := g2_of h
  obtain ⟨d, rfl, h2, ⟨hd, hh, ht⟩, h3⟩ := gD_of h1
  clear h h1 hl
  have loop : ∀ (ds : List PyData) (x y : W) (keep : Mem → Prop), keep M → PyData.depthAll ds < n → PyData.hasDictAll ds = false → txtAll ds = true →
      forGo (bPair 2 3) keep (ifS (notT (tbT (callT (tfAlike n) (consA (nmT 2) (consA (nmT 3) nilA))))) (retS (cT (W.d (.bool false)))) nextS) { nx := retS (cT (W.d (.bool true))) (endD R), rt := R } (zipR (ds.map W.d) (ds.map W.d)) [some x, some y, none, none] M := fun ds x y keep hk g1 g2 g3 => by
    refine forZ rfl (fun i ρ M' => M' = M ∧ ∃ a b, ρ = [some x, some y, a, b]) ⟨rfl, _, _, rfl⟩ (fun i ρ M' _ p => by rw [p.1]; exact hk) (fun i a c ρ M' N ha hc p hN => ?_) (fun ρ M' p => ?_)
    · obtain ⟨rfl, a', b', rfl⟩ := p
      rw [ha] at hc
      cases hc
      rw [List.getElem?_map] at ha
      obtain ⟨d, hd2, rfl⟩ := Option.map_eq_some_iff.mp ha
      obtain ⟨q1, q2⟩ := depth_get hd2
      have q3 := q2 g2
      have q4 := txtAll_get g3 hd2
      decreasing_trivial_pre_omega
      exact hN _ _ ⟨rfl, _, _, rfl⟩
    · obtain ⟨rfl, a', b', rfl⟩ := p
      exact h3
  have small : ∀ (ds : List PyData), PyData.depthAll ds + 1 < n + 1 → PyData.depthAll ds < n := fun ds h => by omega
  cases x with
  | o v => exact h2.elim
  | x a C dd fs => exact h2.elim
  | d e =>
    have e' : e = d := h2
    subst e'
    cases e with
    | none => simp only [start0, len_c, len_n, map_c, map_n, app_c, app_n, rep_0, rep_s, Nat.reduceAdd, Nat.reduceSub]; decreasing_trivial_pre_omega; exact h3
    | bool b => simp only [start0, len_c, len_n, map_c, map_n, app_c, app_n, rep_0, rep_s, Nat.reduceAdd, Nat.reduceSub]; decreasing_trivial_pre_omega; rw [decide_eq_true rfl]; exact h3
    | int b => simp only [start0, len_c, len_n, map_c, map_n, app_c, app_n, rep_0, rep_s, Nat.reduceAdd, Nat.reduceSub]; decreasing_trivial_pre_omega; rw [decide_eq_true rfl]; exact h3
    | str b => simp only [start0, len_c, len_n, map_c, map_n, app_c, app_n, rep_0, rep_s, Nat.reduceAdd, Nat.reduceSub]; decreasing_trivial_pre_omega; rw [decide_eq_true rfl]; exact h3
    | dict b => rw [PyData.hasDict] at hh; cases hh
    | list ds =>
      rw [PyData.depth] at hd
      rw [PyData.hasDict] at hh
      rw [txt] at ht
      simp only [start0, len_c, len_n, map_c, map_n, app_c, app_n, rep_0, rep_s, Nat.reduceAdd, Nat.reduceSub]
      decreasing_trivial_pre_omega
      exact loop ds _ _ _ trivial (by omega) hh ht
    | tuple ds =>
      rw [PyData.depth] at hd
      rw [PyData.hasDict] at hh
      rw [txt] at ht
      simp only [start0, len_c, len_n, map_c, map_n, app_c, app_n, rep_0, rep_s, Nat.reduceAdd, Nat.reduceSub]
      decreasing_trivial_pre_omega
      exact loop ds _ _ _ trivial (by omega) hh ht
  | r a =>
    obtain ⟨ds, ha, e⟩ := h2
    subst e
    rw [PyData.depth] at hd
    rw [PyData.hasDict] at hh
    rw [txt] at ht
    simp only [start0, len_c, len_n, map_c, map_n, app_c, app_n, rep_0, rep_s, Nat.reduceAdd, Nat.reduceSub]
    decreasing_trivial_pre_omega
    exact loop ds _ _ _ ha (by omega) hh ht
theorem ok_alike {f : Addr} {fd : FuncData} (F : Fun K "_law_alike" "_law_alike" sAlike f fd) (mF : mg "_law_alike" = some (.ref f)) (T : Bl mg) (mz : mg "zip" = none) : ∀ n, FnOk P w K mg base CX0 n f fd ["_law_found", "_law_due"] (spD K 2 (tfAlike n))
  | 0 => no0 fun ws M R RX h => by
    obtain ⟨x, y, rfl, h1⟩ := g2_of h
    obtain ⟨d, rfl, h2, ⟨hd, _⟩, h3⟩ := gD_of h1
    omega
  | n + 1 => ok_alike1 F ⟨f, fd, ok_alike F mF T mz n, mF, F.kp, F.binds (ps := ["_law_found", "_law_due"]) fun _ _ _ _ _ _ us hl => match us, hl with | [_, _], _ => rfl⟩ T mz
end
end Tl
set_option Elab.async false
set_option linter.all false
set_option maxRecDepth 100000
set_option maxHeartbeats 8000000
namespace Tl
open PySem L2 RZ
local macro_rules
  | `(tactic| decreasing_trivial) => `(tactic| ((with_reducible (conv => whnf)); (repeat ((first | (with_reducible refine gDs_c ?_) | (with_reducible refine gDs_n ?_) | (with_reducible refine gNs_c ?_) | (with_reducible refine gNs_n ?_) | (with_reducible refine gO_i tyAny_lt ?_) | (with_reducible refine gIs_c ?_) | (with_reducible refine gIs_n ?_) | (with_reducible refine gBs_c ?_) | (with_reducible refine gBs_n ?_) | (with_reducible refine gSs_c ?_) | (with_reducible refine gSs_n ?_) | (with_reducible refine gO_i tyIs_int ?_) | (with_reducible refine gO_i tyIs_bool ?_) | (with_reducible refine gO_i tyIs_str ?_) | (with_reducible refine gO_i tyIs_tuple ?_) | (with_reducible refine gO_i tyIs_list ?_) | (with_reducible refine gDs_i ?_) | (with_reducible refine gO_i (Eq.refl _) ?_) | (with_reducible refine gO_i (by assumption) ?_) | (with_reducible refine gO_i at_0 ?_) | (with_reducible refine gO_i at_m0 ?_) | (with_reducible refine gO_i at_1 ?_) | (with_reducible refine gO_i at_m1 ?_) | (with_reducible refine gO_i at_2 ?_) | (with_reducible refine gO_i at_m2 ?_) | (with_reducible refine gO_i at_3 ?_) | (with_reducible refine gO_i at_m3 ?_) | (with_reducible refine gO_i at_4 ?_) | (with_reducible refine gO_i at_m4 ?_) | (with_reducible refine gO_i at_5 ?_) | (with_reducible refine gO_i at_m5 ?_) | (with_reducible refine gO_i at_6 ?_) | (with_reducible refine gO_i at_m6 ?_) | (with_reducible refine gO_i at_7 ?_) | (with_reducible refine gO_i at_m7 ?_) | (with_reducible refine IfB.ngf ?_) | (with_reducible refine IfB.ngt ?_) | (with_reducible refine IfB.not ?_) | (with_reducible refine IfB.nil ?_) | (with_reducible refine IfB.nilT ?_) | (with_reducible refine IfB.f isE_c ?_) | (with_reducible refine IfB.t isE_n ?_) | (with_reducible refine IfB.t ?gha ?_; (case gha => rfl)) | (with_reducible refine IfB.f ?gha ?_; (case gha => rfl)) | (with_reducible refine IfB.t ?gha ?_; (case gha => assumption)) | (with_reducible refine IfB.f ?gha ?_; (case gha => assumption)) | (with_reducible refine IfB.yes (Eq.refl _) ?_) | (with_reducible refine IfB.yes ?gha ?_; (case gha => (first | omega | (simp only [len_c, len_n, List.length_map]; omega)))) | (with_reducible refine IfB.no ?gha ?_; (case gha => (first | omega | (simp only [len_c, len_n, List.length_map]; omega)))) | (with_reducible refine IfB.t ?gha ?_; (case gha => decide +kernel)) | (with_reducible refine IfB.f ?gha ?_; (case gha => decide +kernel))); (with_reducible (conv => whnf))))))
local macro_rules
  | `(tactic| decreasing_trivial_pre_omega) => `(tactic| (decreasing_trivial; (repeat ((first | ((with_reducible refine And.intro ?gha ?_); (case gha => (first | assumption | omega | exact rfl | (exact mset_same) | (exact ⟨_, mset_same⟩) | (exact Exists.intro _ (by first | exact mset_same | assumption | (rw [mset_ne (by assumption)]; first | exact mset_same | assumption))) | (exact sm_of (by omega) (by omega)) | (exact sz1000 (by first | omega | (simp; done) | (simp; omega))) | (exact Or.inl ⟨by decide, by decide⟩) | decide | (simp; done) | (refine ⟨?_, ?_⟩ <;> (first | assumption | omega | exact rfl | (exact mset_same) | (exact ⟨_, mset_same⟩) | (exact Exists.intro _ (by first | exact mset_same | assumption | (rw [mset_ne (by assumption)]; first | exact mset_same | assumption))) | (exact sm_of (by omega) (by omega)) | (exact sz1000 (by first | omega | (simp; done) | (simp; omega))) | (exact Or.inl ⟨by decide, by decide⟩) | decide | (simp; done))) | (refine ⟨?_, ?_, ?_⟩ <;> (first | assumption | omega | exact rfl | (exact mset_same) | (exact ⟨_, mset_same⟩) | (exact Exists.intro _ (by first | exact mset_same | assumption | (rw [mset_ne (by assumption)]; first | exact mset_same | assumption))) | (exact sm_of (by omega) (by omega)) | (exact sz1000 (by first | omega | (simp; done) | (simp; omega))) | (exact Or.inl ⟨by decide, by decide⟩) | decide | (simp; done))) | (refine ⟨?_, ?_, ?_, ?_⟩ <;> (first | assumption | omega | exact rfl | (exact mset_same) | (exact ⟨_, mset_same⟩) | (exact Exists.intro _ (by first | exact mset_same | assumption | (rw [mset_ne (by assumption)]; first | exact mset_same | assumption))) | (exact sm_of (by omega) (by omega)) | (exact sz1000 (by first | omega | (simp; done) | (simp; omega))) | (exact Or.inl ⟨by decide, by decide⟩) | decide | (simp; done)))))) | (with_reducible refine exW (by first | exact mset_same | assumption | (rw [mset_ne (by assumption)]; first | exact mset_same | assumption)) ?_)); decreasing_trivial))))
theorem len_nn : ∀ ks : List PyData, ks.length ≤ nnAll ks
  | [] => Nat.zero_le _
  | k :: ks => by
    have := len_nn ks
    have := nn_pos k
    rw [nnAll, List.length_cons]
    omega
theorem nnAll_take (ks : List PyData) (i : Nat) : nnAll (ks.take i) ≤ nnAll ks := by
  conv => rhs; rw [← List.take_append_drop i ks, nnAll_app]
  omega
theorem nn_mem : ∀ {ks : List PyData} {k : PyData}, k ∈ ks → nn k ≤ nnAll ks
  | k' :: ks, k, h => by
    rw [nnAll]
    rcases List.mem_cons.mp h with rfl | h
    · omega
    · have := nn_mem h
      omega
/-- the part at a path, None where there is none -/
@[reducible] def tfPartAt : TF := fun ws M R _ => ∃ (d : PyData) (q : List Nat) (n : Nat), ws = [.d d, .d (pathD q)] ∧ TrT n d ∧ R (.d (optP (sub d q))) M
def pls (q : List Nat) (rs : List (List Nat)) : List PyData := rs.map fun r => pathD (q ++ r)
theorem pls_app (q : List Nat) (a b : List (List Nat)) : pls q (a ++ b) = pls q a ++ pls q b := List.map_append
theorem pls_len (q : List Nat) (a : List (List Nat)) : (pls q a).length = a.length := List.length_map _
theorem pls_kid (q : List Nat) (i : Nat) (a : List (List Nat)) : pls (q ++ [i]) a = pls q (a.map (i :: ·)) := by
  unfold pls
  rw [List.map_map]
  refine List.map_congr_left fun r _ => ?_
  show pathD (q ++ [i] ++ r) = pathD (q ++ i :: r)
  rw [List.append_assoc]
  rfl
theorem path_cat (q : List Nat) (i : Nat) : PyData.tuple ((q.map fun n : Nat => .int (n : Int)) ++ [.int (i : Int)]) = pathD (q ++ [i]) := by
  unfold pathD
  rw [List.map_append]
  rfl
/-- all paths of a part, as a new list -/
@[reducible] def tfPaths (n : Nat) : TF := fun ws M R _ => ∃ (d : PyData) (q : List Nat), ws = [.d d, .d (pathD q)] ∧ (TrT n d ∧ nn d ≤ 200 ∧ q.length + n ≤ 100) ∧ ∀ p, M p = none → R (.r p) (mset M p (.lst ((pls q (plc d)).map W.d)))
/-- as data -/
@[reducible] def tfPls (n : Nat) : TF := fun ws M R _ => ∃ (d : PyData) (q : List Nat), ws = [.d d, .d (pathD q)] ∧ (TrT n d ∧ nn d ≤ 200 ∧ q.length + n ≤ 100) ∧ R (.d (.list (pls q (plc d)))) M
section
variable {P : Program} {w : World} {K : PySem.W.Frag} {mg : Str → Option Value} {base : Heap}
abbrev sCntPlaces : Stmt := top 45
abbrev sCntLevels : Stmt := top 46
abbrev sPartAt : Stmt := top 47
theorem scPartAt : FnScope ["tree", "path", "part", "step"] ["tree", "path"] (defScope sPartAt) := ⟨rfl, rfl, rfl, by decide +kernel, rfl, by decide +kernel, by decide +kernel⟩
theorem ok_partAt {f : Addr} {fd : FuncData} {k : Nat} (F : Fun K "part_at" "part_at" sPartAt f fd) (T : Bl mg) : FnOk P w K mg base CX0 (k + 1) f fd ["tree", "path"] (spD K 2 tfPartAt) := by
  refine okD F scPartAt rfl fun cdv A outer s H E hr => ?_
  refine ⟨_, _, (pss_cons (ps_set (i := 2) scPartAt.nd rfl (.inl rfl) (pv 0))
    (pss_cons (ps_for PassesOwn.never rfl (pi_tup (pv 1)) (pg_name (i := 3) scPartAt.nd rfl (.inl rfl)) (pss_cons (ps_if (pt_cmpR op_ge (pv 3) (pe_callB call_len_seq (by rfl) T.len PySem.boot_len (pa_cons (pe_ix ix_tup (pv 2) pe_int (fun _ _ => rfl)) pa_nil)) (nomark _)) (pss_one (ps_ret pe_non)) pss_nil)
      (pss_one (ps_set (i := 2) scPartAt.nd rfl (.inl rfl) (pe_ix ix_tup (pe_ix ix_tup (pv 2) pe_int (fun _ _ => rfl)) (pv 3) (fun _ _ => rfl))))))
    (pss_one (ps_ret (pv 2))))),
    (ss_cons (ss_set se_nm)
    (ss_cons (ss_for (si_tup se_nm) sg_name (ss_cons (ss_if (st_test (se_op so_ge se_nm (se_cb sc_len (sa_cons (se_op so_ixT se_nm se_int) sa_nil)))) (ss_ret se_non) ss_nil)
      (ss_set (se_op so_ixT (se_op so_ixT se_nm se_int) se_nm))))
    (ss_ret se_nm))), fun ws M R RX hl h => ?_⟩
  obtain ⟨d, q, n, rfl, ht, h2⟩ := h
  unfold pathD
  simp only [start0, len_c, len_n, map_c, map_n, app_c, app_n, rep_0, rep_s, Nat.reduceAdd, Nat.reduceSub]
  decreasing_trivial
  rw [mapW]
  refine for1 (fun i ρ M' => M = M' ∧ ∃ (e : PyData) (m : Nat) (y : Option W), ρ = [some (W.d d), some (W.d (.tuple (q.map fun n : Nat => .int (n : Int)))), some (W.d e), y] ∧ TrT m e ∧ sub d q = sub e (q.drop i))
    ⟨rfl, d, n, none, rfl, ht, rfl⟩ (fun _ _ _ _ _ => trivial) (fun i a ρ M' N ha p hN => ?_) (fun ρ M' p => ?_)
  · obtain ⟨rfl, e, m, y, rfl, he, hs⟩ := p
    cases m with
    | zero => exact he.elim
    | succ m =>
      obtain ⟨s0, ks, rfl, _, hk⟩ := he
      have hi := (List.getElem?_eq_some_iff.mp ha).1
      rw [List.drop_eq_getElem_cons hi, (List.getElem?_eq_some_iff.mp ha).2, sub_node] at hs
      decreasing_trivial
      refine IfB.d (fun c => ?_) (fun c => ?_)
      · decreasing_trivial
        rw [hs, List.getElem?_eq_none (by omega)] at h2
        exact h2
      · obtain ⟨k, hk2⟩ : ∃ k, ks[a]? = some k := ⟨ks[a]'(by omega), List.getElem?_eq_getElem _⟩
        rw [hk2] at hs
        decreasing_trivial
        refine gO_i (atI_nat hk2) ?_
        decreasing_trivial
        exact hN _ _ ⟨rfl, k, m, _, rfl, hk k (List.mem_of_getElem? hk2), hs⟩
  · obtain ⟨rfl, e, m, y, rfl, he, hs⟩ := p
    rw [List.drop_length, sub_nil] at hs
    rw [hs] at h2
    exact h2
abbrev sReach : Stmt := top 90
theorem scReach : FnScope ["_law_tree_here", "_law_path", "_law_number"] ["_law_tree_here", "_law_path"] (defScope sReach) := ⟨rfl, rfl, rfl, by decide +kernel, rfl, by decide +kernel, by decide +kernel⟩
theorem ok_reach {f : Addr} {fd : FuncData} {k : Nat} (F : Fun K "_law_reach" "_law_reach" sReach f fd) (T : Bl mg) : FnOk P w K mg base CX0 (k + 1) f fd ["_law_tree_here", "_law_path"] (spD K 2 tfPartAt) := by
  refine okD F scReach rfl fun cdv A outer s H E hr => ?_
  refine ⟨_, _, (pss_cons (ps_for PassesOwn.never rfl (pi_tup (pv 1)) (pg_name (i := 2) scReach.nd rfl (.inl rfl)) (pss_cons (ps_if (pt_cmpR op_ge (pv 2) (pe_callB call_len_seq (by rfl) T.len PySem.boot_len (pa_cons (pe_ix ix_tup (pv 0) pe_int (fun _ _ => rfl)) pa_nil)) (nomark _)) (pss_one (ps_ret pe_non)) pss_nil)
      (pss_one (ps_set (i := 0) scReach.nd rfl (.inl rfl) (pe_ix ix_tup (pe_ix ix_tup (pv 0) pe_int (fun _ _ => rfl)) (pv 2) (fun _ _ => rfl))))))
    (pss_one (ps_ret (pv 0)))),
    (ss_cons (ss_for (si_tup se_nm) sg_name (ss_cons (ss_if (st_test (se_op so_ge se_nm (se_cb sc_len (sa_cons (se_op so_ixT se_nm se_int) sa_nil)))) (ss_ret se_non) ss_nil)
      (ss_set (se_op so_ixT (se_op so_ixT se_nm se_int) se_nm))))
    (ss_ret se_nm)), fun ws M R RX hl h => ?_⟩
  obtain ⟨d, q, n, rfl, ht, h2⟩ := h
  unfold pathD
  simp only [start0, len_c, len_n, map_c, map_n, app_c, app_n, rep_0, rep_s, Nat.reduceAdd, Nat.reduceSub]
  decreasing_trivial
  rw [mapW]
  refine for1 (fun i ρ M' => M = M' ∧ ∃ (e : PyData) (m : Nat) (y : Option W), ρ = [some (W.d e), some (W.d (.tuple (q.map fun n : Nat => .int (n : Int)))), y] ∧ TrT m e ∧ sub d q = sub e (q.drop i))
    ⟨rfl, d, n, none, rfl, ht, rfl⟩ (fun _ _ _ _ _ => trivial) (fun i a ρ M' N ha p hN => ?_) (fun ρ M' p => ?_)
  · obtain ⟨rfl, e, m, y, rfl, he, hs⟩ := p
    cases m with
    | zero => exact he.elim
    | succ m =>
      obtain ⟨s0, ks, rfl, _, hk⟩ := he
      have hi := (List.getElem?_eq_some_iff.mp ha).1
      rw [List.drop_eq_getElem_cons hi, (List.getElem?_eq_some_iff.mp ha).2, sub_node] at hs
      decreasing_trivial
      refine IfB.d (fun c => ?_) (fun c => ?_)
      · decreasing_trivial
        rw [hs, List.getElem?_eq_none (by omega)] at h2
        exact h2
      · obtain ⟨k, hk2⟩ : ∃ k, ks[a]? = some k := ⟨ks[a]'(by omega), List.getElem?_eq_getElem _⟩
        rw [hk2] at hs
        decreasing_trivial
        refine gO_i (atI_nat hk2) ?_
        decreasing_trivial
        exact hN _ _ ⟨rfl, k, m, _, rfl, hk k (List.mem_of_getElem? hk2), hs⟩
  · obtain ⟨rfl, e, m, y, rfl, he, hs⟩ := p
    rw [List.drop_length, sub_nil] at hs
    rw [hs] at h2
    exact h2
abbrev sPathsF : Stmt := top 48
theorem scPathsF : FnScope ["tree", "path", "paths", "at", "kid"] ["tree", "path"] (defScope sPathsF) := ⟨rfl, rfl, rfl, by decide +kernel, rfl, by decide +kernel, by decide +kernel⟩
theorem ok_pathsF1 {f : Addr} {fd : FuncData} {n : Nat} (F : Fun K "paths_from" "paths_from" sPathsF f fd) (Upaths_from : Use P w K mg base "paths_from" ["tree", "path"] n (spD K 2 (tfPls n))) (T : Bl mg) :
    FnOk P w K mg base CX0 (n + 1) f fd ["tree", "path"] (spD K 2 (tfPaths (n + 1))) := by
  refine okD F scPathsF rfl fun cdv A outer s H E hr => ?_
  refine ⟨_, _, (pss_cons (ps_set (i := 2) scPathsF.nd rfl (.inl rfl) (pe_lst (pa_cons (pv 1) pa_nil)))
    (pss_cons (ps_for PassesOwn.never rfl (pi_enumT (by rfl) T.enum (pa_cons (pe_ix ix_tup (pv 0) pe_int (fun _ _ => rfl)) pa_nil)) (pg_tup rfl (pgs_cons (pg_name (i := 3) scPathsF.nd rfl (.inl rfl)) (pgs_cons (pg_name (i := 4) scPathsF.nd rfl (.inl rfl)) pgs_nil))) (pss_one (ps_expr (pe_bm PySem.F.plainAttrs_list PySem.F.slot_list_extend PySem.F.type_list_extend mt_extend (pv 2) (pa_cons (pe_call Upaths_from.ok (hr.mono (by omega)) rfl Upaths_from.m Upaths_from.kp Upaths_from.b .nil pass0 (pa_cons (pv 4) (pa_cons (pe_op op_catA (pv 1) (pe_tup (pa_cons (pv 3) pa_nil))) pa_nil))) pa_nil)))))
    (pss_one (ps_ret (pv 2))))),
    (ss_cons (ss_set (se_lst (sa_cons se_nm sa_nil)))
    (ss_cons (ss_for (si_enT (sa_cons (se_op so_ixT se_nm se_int) sa_nil)) sg_pair (ss_drop (se_bmL sm_extend se_nm (sa_cons (se_call (sa_cons se_nm (sa_cons (se_op so_catT se_nm (se_tup (sa_cons se_nm sa_nil))) sa_nil))) sa_nil))))
    (ss_ret se_nm))), fun ws M R RX hl h => ?_⟩
  obtain ⟨d, q, rfl, ⟨ht, hn, hq⟩, h3⟩ := h
  obtain ⟨s0, ks, rfl, hs, hk⟩ := ht
  rw [plc_node] at h3
  rw [nn] at hn
  simp only [start0, len_c, len_n, map_c, map_n, app_c, app_n, rep_0, rep_s, Nat.reduceAdd, Nat.reduceSub]
  decreasing_trivial
  intro p hp
  decreasing_trivial
  refine forE (fun i ρ M' => mset M p (.lst ((pls q ([] :: plcAll 0 (ks.take i))).map W.d)) = M' ∧ ∃ y z, ρ = [some (W.d (PyData.tuple [PyData.str s0, PyData.tuple ks])), some (W.d (pathD q)), some (W.r p), y, z])
    ⟨by rw [List.take_zero, plcAll]; unfold pls; rw [List.map_cons, List.append_nil]; rfl, none, none, rfl⟩ (fun _ _ _ _ _ => trivial) (fun i a ρ M' N ha c hN => ?_) (fun ρ M' c => ?_)
  · obtain ⟨rfl, y, z, rfl⟩ := c
    rw [List.getElem?_map] at ha
    obtain ⟨kd, hkd, rfl⟩ := Option.map_eq_some_iff.mp ha
    have hm := List.mem_of_getElem? hkd
    have h1 := nn_mem hm
    have h2 := nnAll_take ks i
    have hi := (List.getElem?_eq_some_iff.mp hkd).1
    unfold pathD
    decreasing_trivial
    refine ⟨⟨_, mset_same⟩, ?_⟩
    decreasing_trivial
    refine ⟨sz1000 (by simp; omega), ?_⟩
    rw [path_cat]
    decreasing_trivial
    refine ⟨kd, q ++ [i], rfl, ⟨hk kd hm, by omega, by simp; omega⟩, ?_⟩
    decreasing_trivial
    refine ⟨_, mset_same, ?_⟩
    decreasing_trivial
    refine ⟨?_, ?_⟩
    · simp only [List.length_map, pls_len, List.length_cons, plcAll_len (n := n) _ (fun x hx => hk x (List.mem_of_mem_take hx)), plc_len (hk kd hm)]
      exact sz1000 (by omega)
    · rw [mset_mset]
      refine hN _ _ ⟨?_, _, _, rfl⟩
      congr 2
      rw [← List.map_append, pls_kid, ← pls_app, List.take_add_one, hkd, plcAll_app, List.cons_append]
      show List.map W.d (pls q ([] :: (plcAll 0 (ks.take i) ++ plcAll (0 + (ks.take i).length) [kd]))) = _
      rw [plcAll_one, List.length_take, show 0 + min i ks.length = i by omega]
  · obtain ⟨rfl, y, z, rfl⟩ := c
    rw [List.length_map, List.take_length]
    exact h3 p hp
theorem ok_pathsF {f : Addr} {fd : FuncData} (F : Fun K "paths_from" "paths_from" sPathsF f fd) (mF : mg "paths_from" = some (.ref f)) (T : Bl mg) : ∀ n, FnOk P w K mg base CX0 n f fd ["tree", "path"] (spD K 2 (tfPaths n))
  | 0 => no0 fun ws M R RX ⟨_, _, _, ⟨h, _⟩, _⟩ => h
  | n + 1 => ok_pathsF1 F ⟨f, fd, FnOk.dat (ok_pathsF F mF T n) fun ws M R RX hl ⟨d, q, e, h1, h2⟩ => ⟨d, q, e, h1, fun p hp => ⟨p, _, rfl, hp, rfl, h2⟩⟩, mF, F.kp, F.binds (ps := ["tree", "path"]) fun _ _ _ _ _ _ us hl => match us, hl with | [_, _], _ => rfl⟩ T
theorem ok_pathsFD {f : Addr} {fd : FuncData} (F : Fun K "paths_from" "paths_from" sPathsF f fd) (mF : mg "paths_from" = some (.ref f)) (T : Bl mg) (n : Nat) : FnOk P w K mg base CX0 n f fd ["tree", "path"] (spD K 2 (tfPls n)) :=
  FnOk.dat (ok_pathsF F mF T n) fun ws M R RX hl ⟨d, q, e, h1, h2⟩ => ⟨d, q, e, h1, fun p hp => ⟨p, _, rfl, hp, rfl, h2⟩⟩
abbrev sPlaces : Stmt := top 89
theorem scPlaces : FnScope ["_law_tree_here", "_law_path", "_law_found", "_law_at", "_law_kid"] ["_law_tree_here", "_law_path"] (defScope sPlaces) := ⟨rfl, rfl, rfl, by decide +kernel, rfl, by decide +kernel, by decide +kernel⟩
theorem ok_places1 {f : Addr} {fd : FuncData} {n : Nat} (F : Fun K "_law_places" "_law_places" sPlaces f fd) (U_law_places : Use P w K mg base "_law_places" ["_law_tree_here", "_law_path"] n (spD K 2 (tfPls n))) (T : Bl mg) :
    FnOk P w K mg base CX0 (n + 1) f fd ["_law_tree_here", "_law_path"] (spD K 2 (tfPls (n + 1))) := by
  refine okD F scPlaces rfl fun cdv A outer s H E hr => ?_
  refine ⟨_, _, (pss_cons (ps_set (i := 2) scPlaces.nd rfl (.inl rfl) (pe_lst (pa_cons (pv 1) pa_nil)))
    (pss_cons (ps_for PassesOwn.never rfl (pi_enumT (by rfl) T.enum (pa_cons (pe_ix ix_tup (pv 0) pe_int (fun _ _ => rfl)) pa_nil)) (pg_tup rfl (pgs_cons (pg_name (i := 3) scPlaces.nd rfl (.inl rfl)) (pgs_cons (pg_name (i := 4) scPlaces.nd rfl (.inl rfl)) pgs_nil))) (pss_one (ps_set (i := 2) scPlaces.nd rfl (.inl rfl) (pe_op op_cat (pv 2) (pe_call U_law_places.ok (hr.mono (by omega)) rfl U_law_places.m U_law_places.kp U_law_places.b .nil pass0 (pa_cons (pv 4) (pa_cons (pe_op op_catA (pv 1) (pe_tup (pa_cons (pv 3) pa_nil))) pa_nil)))))))
    (pss_one (ps_ret (pv 2))))),
    (ss_cons (ss_set (se_lsf (sa_cons se_nm sa_nil)))
    (ss_cons (ss_for (si_enT (sa_cons (se_op so_ixT se_nm se_int) sa_nil)) sg_pair (ss_set (se_op so_catF se_nm (se_call (sa_cons se_nm (sa_cons (se_op so_catT se_nm (se_tup (sa_cons se_nm sa_nil))) sa_nil))))))
    (ss_ret se_nm))), fun ws M R RX hl h => ?_⟩
  obtain ⟨d, q, rfl, ⟨ht, hn, hq⟩, h3⟩ := h
  obtain ⟨s0, ks, rfl, hs, hk⟩ := ht
  rw [plc_node] at h3
  rw [nn] at hn
  simp only [start0, len_c, len_n, map_c, map_n, app_c, app_n, rep_0, rep_s, Nat.reduceAdd, Nat.reduceSub]
  decreasing_trivial
  refine forE (fun i ρ M' => M = M' ∧ ∃ y z, ρ = [some (W.d (PyData.tuple [PyData.str s0, PyData.tuple ks])), some (W.d (pathD q)), some (W.d (.list (pls q ([] :: plcAll 0 (ks.take i))))), y, z])
    ⟨rfl, none, none, by rw [List.take_zero, plcAll]; unfold pls; rw [List.map_cons, List.append_nil]; rfl⟩ (fun _ _ _ _ _ => trivial) (fun i a ρ M' N ha c hN => ?_) (fun ρ M' c => ?_)
  · obtain ⟨rfl, y, z, rfl⟩ := c
    rw [List.getElem?_map] at ha
    obtain ⟨kd, hkd, rfl⟩ := Option.map_eq_some_iff.mp ha
    have hm := List.mem_of_getElem? hkd
    have h1 := nn_mem hm
    have h2 := nnAll_take ks i
    have hi := (List.getElem?_eq_some_iff.mp hkd).1
    unfold pathD
    decreasing_trivial
    refine ⟨sz1000 (by simp; omega), ?_⟩
    rw [path_cat]
    decreasing_trivial
    refine ⟨kd, q ++ [i], rfl, ⟨hk kd hm, by omega, by simp; omega⟩, ?_⟩
    decreasing_trivial
    refine ⟨?_, ?_⟩
    · simp only [List.length_map, pls_len, List.length_cons, plcAll_len (n := n) _ (fun x hx => hk x (List.mem_of_mem_take hx)), plc_len (hk kd hm)]
      exact sz1000 (by omega)
    · have e : pls q ([] :: plcAll 0 (ks.take i)) ++ pls (q ++ [i]) (plc kd) = pls q ([] :: plcAll 0 (ks.take (i + 1))) := by
        rw [pls_kid, ← pls_app, List.take_add_one, hkd, plcAll_app, List.cons_append]
        show pls q ([] :: (plcAll 0 (ks.take i) ++ _)) = pls q ([] :: (plcAll 0 (ks.take i) ++ plcAll (0 + (ks.take i).length) [kd]))
        rw [plcAll_one, List.length_take, show 0 + min i ks.length = i by omega]
      rw [e]
      exact hN _ _ ⟨rfl, _, _, rfl⟩
  · obtain ⟨rfl, y, z, rfl⟩ := c
    rw [List.length_map, List.take_length]
    exact h3
theorem ok_places {f : Addr} {fd : FuncData} (F : Fun K "_law_places" "_law_places" sPlaces f fd) (mF : mg "_law_places" = some (.ref f)) (T : Bl mg) : ∀ n, FnOk P w K mg base CX0 n f fd ["_law_tree_here", "_law_path"] (spD K 2 (tfPls n))
  | 0 => no0 fun ws M R RX ⟨_, _, _, ⟨h, _⟩, _⟩ => h
  | n + 1 => ok_places1 F ⟨f, fd, ok_places F mF T n, mF, F.kp, F.binds (ps := ["_law_tree_here", "_law_path"]) fun _ _ _ _ _ _ us hl => match us, hl with | [_, _], _ => rfl⟩ T
end
end Tl
set_option Elab.async false
set_option linter.all false
set_option maxRecDepth 100000
set_option maxHeartbeats 4000000
/-! Deeds on trees that are data; trees of lists that may change. -/
namespace Tl
open PySem L2
/-! ### trees that are data -/
def kidD (d : PyData) (n : Nat) : PyData := (kidsD d).getD n .none
/-- a run of kids for many kids -/
def runD (at_ many : Nat) (run : List PyData) : PyData → PyData
  | .tuple [s, .tuple ks] => .tuple [s, .tuple (ks.take at_ ++ run ++ ks.drop (at_ + many))]
  | d => d
/-- another part at a place -/
def repl : List Nat → PyData → PyData → PyData
  | [], _, e => e
  | n :: q, d, e => runD n 1 [repl q (kidD d n) e] d
def partD (d : PyData) (q : List Nat) : PyData := (sub d q).getD .none
def runAt (d : PyData) (q : List Nat) (at_ many : Nat) (run : List PyData) : PyData := repl q d (runD at_ many run (partD d q))
/-- where a place stands behind a part taken out -/
def bo : List Nat → List Nat → List Nat
  | o, [] => o
  | [], _ => []
  | j :: o, [i] => if i < j then (j - 1) :: o else j :: o
  | j :: o, i :: k :: p => if j = i then j :: bo o (k :: p) else j :: o
/-- deeds -/
inductive Deed where
  | name (q : List Nat) (t : Str)
  | put (q : List Nat) (n : Nat) (e : PyData)
  | out (q : List Nat)
  | move (q o : List Nat) (n : Nat)
  | swap (q o : List Nat)
  | wrap (q : List Nat) (n m : Nat) (t : Str)
  | unwrap (q : List Nat)
def Deed.d : Deed → PyData
  | .name q t => .tuple [.str "name", pathD q, .str t]
  | .put q n e => .tuple [.str "put", pathD q, .int n, e]
  | .out q => .tuple [.str "out", pathD q]
  | .move q o n => .tuple [.str "move", pathD q, pathD o, .int n]
  | .swap q o => .tuple [.str "swap", pathD q, pathD o]
  | .wrap q n m t => .tuple [.str "wrap", pathD q, .int n, .int m, .str t]
  | .unwrap q => .tuple [.str "unwrap", pathD q]
def outD (d : PyData) (q : List Nat) : PyData := runAt d q.dropLast (q.getLastD 0) 1 []
/-- the tree behind a deed -/
def chg (d : PyData) : Deed → PyData
  | .name q t => repl q d (.tuple [.str t, .tuple (kidsD (partD d q))])
  | .put q n e => runAt d q n 0 [e]
  | .out q => outD d q
  | .move q o n => runAt (outD d q) (bo o q) n 0 [partD d q]
  | .swap q o => repl o (repl q d (partD d o)) (partD d q)
  | .wrap q n m t => runAt d q n m [.tuple [.str t, .tuple (((kidsD (partD d q)).drop n).take m)]]
  | .unwrap q => runAt d q.dropLast (q.getLastD 0) 1 (kidsD (partD d q))
theorem runD_node (s : PyData) (ks run : List PyData) (n m : Nat) : runD n m run (.tuple [s, .tuple ks]) = .tuple [s, .tuple (ks.take n ++ run ++ ks.drop (n + m))] := rfl
theorem kidsD_node (s : PyData) (ks : List PyData) : kidsD (.tuple [s, .tuple ks]) = ks := rfl
theorem partD_of {d e : PyData} {q : List Nat} (h : sub d q = some e) : partD d q = e := by rw [partD, h]; rfl
/-! ### trees of lists that may change -/
/-- a: the list of number, tag and kids; b: the list of kids -/
inductive AT where
  | node (a b : Addr) (n : Int) (t : PyData) (ks : List AT)
def AT.root : AT → Addr
  | .node a _ _ _ _ => a
def AT.box : AT → Addr
  | .node _ b _ _ _ => b
def AT.kids : AT → List AT
  | .node _ _ _ _ ks => ks
def AT.num : AT → Int
  | .node _ _ n _ _ => n
def AT.tag : AT → PyData
  | .node _ _ _ t _ => t
mutual
/-- told as data, by a word for each place -/
def AT.tel (fl : Int → PyData → PyData) : AT → PyData
  | .node _ _ n t ks => .tuple [fl n t, .tuple (tels fl ks)]
def tels (fl : Int → PyData → PyData) : List AT → List PyData
  | [] => []
  | k :: ks => k.tel fl :: tels fl ks
end
variable {fl : Int → PyData → PyData}
mutual
def AT.adr : AT → List Addr
  | .node a b _ _ ks => a :: b :: adrs ks
def adrs : List AT → List Addr
  | [] => []
  | k :: ks => k.adr ++ adrs ks
end
def rootsW (ks : List AT) : List W := ks.map fun k => .r k.root
mutual
def AT.ok (M : Mem) : AT → Prop
  | .node a b n t ks => M a = some (.lst [.d (.int n), .d t, .r b]) ∧ M b = some (.lst (rootsW ks)) ∧ oks M ks
def oks (M : Mem) : List AT → Prop
  | [] => True
  | k :: ks => k.ok M ∧ oks M ks
end
theorem tels_map : ∀ ks : List AT, tels fl ks = ks.map (AT.tel fl)
  | [] => by rw [tels]; rfl
  | k :: ks => by rw [tels, tels_map ks]; rfl
theorem still_node (a b : Addr) (n : Int) (t : PyData) (ks : List AT) : (AT.node a b n t ks).tel fl = .tuple [fl n t, .tuple (ks.map (AT.tel fl))] := by rw [AT.tel, tels_map]
theorem adrs_app : ∀ a b : List AT, adrs (a ++ b) = adrs a ++ adrs b
  | [], b => by rw [adrs]; rfl
  | k :: a, b => by rw [List.cons_append, adrs, adrs, adrs_app a b, List.append_assoc]
theorem adrs_mem : ∀ {ks : List AT} {k : AT} {x : Addr}, k ∈ ks → x ∈ k.adr → x ∈ adrs ks
  | k' :: ks, k, x, h, hx => by
    rw [adrs, List.mem_append]
    rcases List.mem_cons.mp h with rfl | h
    · exact .inl hx
    · exact .inr (adrs_mem h hx)
theorem oks_iff {M : Mem} : ∀ {ks : List AT}, oks M ks ↔ ∀ k ∈ ks, k.ok M
  | [] => by rw [oks]; exact ⟨fun _ k h => (by cases h), fun _ => trivial⟩
  | k :: ks => by
    rw [oks, oks_iff (ks := ks)]
    exact ⟨fun h z hz => by
      rcases List.mem_cons.mp hz with rfl | hz
      · exact h.1
      · exact h.2 z hz, fun h => ⟨h k (.head _), fun z hz => h z (.tail _ hz)⟩⟩
mutual
theorem AT.ok.same {M M' : Mem} : ∀ {T : AT}, T.ok M → (∀ x ∈ T.adr, M' x = M x) → T.ok M'
  | .node a b n t ks, h, e => by
    rw [AT.ok] at h ⊢
    rw [AT.adr] at e
    exact ⟨by rw [e a (.head _)]; exact h.1, by rw [e b (.tail _ (.head _))]; exact h.2.1, oks_same h.2.2 fun x hx => e x (.tail _ (.tail _ hx))⟩
theorem oks_same {M M' : Mem} : ∀ {ks : List AT}, oks M ks → (∀ x ∈ adrs ks, M' x = M x) → oks M' ks
  | [], _, _ => by rw [oks]; trivial
  | k :: ks, h, e => by
    rw [oks] at h ⊢
    rw [adrs] at e
    exact ⟨AT.ok.same h.1 fun x hx => e x (List.mem_append.mpr (.inl hx)), oks_same h.2 fun x hx => e x (List.mem_append.mpr (.inr hx))⟩
end
/-- the tree at a place -/
def AT.at_ : List Nat → AT → Option AT
  | [], T => some T
  | i :: q, T => match T.kids[i]? with
    | some k => k.at_ q
    | none => none
def AT.withKids (T : AT) (ks : List AT) : AT := .node T.root T.box T.num T.tag ks
/-- another tree at a place -/
def AT.put : List Nat → AT → AT → AT
  | [], _, s => s
  | i :: q, T, s => match T.kids[i]? with
    | some k => T.withKids (T.kids.take i ++ [k.put q s] ++ T.kids.drop (i + 1))
    | none => T
/-- what a tree is made of, but for what stands at a place -/
def AT.ctx : List Nat → AT → List Addr
  | [], _ => []
  | i :: q, T => T.root :: T.box :: (match T.kids[i]? with
    | some k => adrs (T.kids.take i) ++ k.ctx q ++ adrs (T.kids.drop (i + 1))
    | none => [])
theorem at_nil (T : AT) : T.at_ [] = some T := by rw [AT.at_]
theorem at_cons {i : Nat} {q : List Nat} {T s : AT} : T.at_ (i :: q) = some s ↔ ∃ k, T.kids[i]? = some k ∧ k.at_ q = some s := by
  rw [AT.at_]
  cases c : T.kids[i]? with
  | none => exact ⟨fun h => (by cases h), fun ⟨k, h, _⟩ => (by cases h)⟩
  | some k => exact ⟨fun h => ⟨k, rfl, h⟩, fun ⟨z, h, q⟩ => (by cases h; exact q)⟩
theorem split3 {α : Type} {l : List α} {i : Nat} {x : α} (h : l[i]? = some x) : l = l.take i ++ [x] ++ l.drop (i + 1) := by
  have hi : i < l.length := (List.getElem?_eq_some_iff.mp h).1
  have e : l[i] = x := (List.getElem?_eq_some_iff.mp h).2
  rw [List.append_assoc, ← e, List.singleton_append, ← List.drop_eq_getElem_cons hi, List.take_append_drop]
theorem still_eta (T : AT) : T.tel fl = .tuple [fl T.num T.tag, .tuple (T.kids.map (AT.tel fl))] := by
  cases T
  exact still_node ..
theorem adr_eta (T : AT) : T.adr = T.root :: T.box :: adrs T.kids := by
  cases T
  rw [AT.adr]
  rfl
theorem ok_eta {M : Mem} {T : AT} : T.ok M ↔ M T.root = some (.lst [.d (.int T.num), .d T.tag, .r T.box]) ∧ M T.box = some (.lst (rootsW T.kids)) ∧ oks M T.kids := by
  cases T
  rw [AT.ok]
  rfl
theorem sub_still : ∀ {q : List Nat} {T : AT}, sub (T.tel fl) q = (T.at_ q).map (AT.tel fl)
  | [], T => by rw [sub_nil, at_nil]; rfl
  | i :: q, T => by
    rw [still_eta, sub_node, AT.at_, List.getElem?_map]
    cases c : T.kids[i]? with
    | none => rfl
    | some k => exact sub_still
theorem still_put : ∀ {q : List Nat} {T s u : AT}, T.at_ q = some u → (T.put q s).tel fl = repl q (T.tel fl) (s.tel fl)
  | [], T, s, u, _ => by rw [AT.put, repl]
  | i :: q, T, s, u, h => by
    obtain ⟨k, h1, h2⟩ := at_cons.mp h
    have hk : kidD (T.tel fl) i = k.tel fl := by rw [still_eta, kidD, kidsD_node, List.getD_eq_getElem?_getD, List.getElem?_map, h1]; rfl
    rw [AT.put, h1, repl, hk, ← still_put h2]
    conv => rhs; rw [still_eta T]
    show (T.withKids _).tel fl = _
    rw [runD_node, AT.withKids, still_node, List.map_append, List.map_append, List.map_take, List.map_drop]
    rfl
theorem adr_ctx : ∀ {q : List Nat} {T s : AT}, T.at_ q = some s → T.adr.Perm (T.ctx q ++ s.adr)
  | [], T, s, h => by rw [at_nil] at h; cases h; rw [AT.ctx]; exact .refl _
  | i :: q, T, s, h => by
    obtain ⟨k, h1, h2⟩ := at_cons.mp h
    rw [AT.ctx, h1, adr_eta]
    show (T.root :: T.box :: adrs T.kids).Perm (T.root :: T.box :: (adrs (T.kids.take i) ++ k.ctx q ++ adrs (T.kids.drop (i + 1)) ++ s.adr))
    refine .cons _ (.cons _ ?_)
    conv => lhs; rw [split3 h1, adrs_app, adrs_app, adrs, adrs, List.append_nil]
    rw [List.append_assoc, List.append_assoc, List.append_assoc]
    refine List.Perm.append_left _ ?_
    refine ((adr_ctx h2).append_right _).trans ?_
    rw [List.append_assoc]
    exact List.Perm.append_left _ List.perm_append_comm
theorem put_at : ∀ {q : List Nat} {T s u : AT}, T.at_ q = some u → (T.put q s).at_ q = some s
  | [], T, s, u, _ => by rw [AT.put, at_nil]
  | i :: q, T, s, u, h => by
    obtain ⟨k, h1, h2⟩ := at_cons.mp h
    have hi : i < T.kids.length := (List.getElem?_eq_some_iff.mp h1).1
    rw [AT.put, h1]
    refine at_cons.mpr ⟨k.put q s, ?_, put_at h2⟩
    show (T.kids.take i ++ [k.put q s] ++ T.kids.drop (i + 1))[i]? = _
    rw [List.append_assoc, List.getElem?_append_right (by rw [List.length_take]; omega), List.length_take, Nat.min_eq_left (by omega), Nat.sub_self]
    rfl
theorem put_ctx : ∀ {q : List Nat} {T s u : AT}, T.at_ q = some u → (T.put q s).ctx q = T.ctx q
  | [], T, s, u, _ => by rw [AT.ctx, AT.ctx]
  | i :: q, T, s, u, h => by
    obtain ⟨k, h1, h2⟩ := at_cons.mp h
    have hi : i < T.kids.length := (List.getElem?_eq_some_iff.mp h1).1
    have hl : (T.kids.take i).length = i := by rw [List.length_take]; omega
    have e : (T.kids.take i ++ [k.put q s] ++ T.kids.drop (i + 1))[i]? = some (k.put q s) := by
      rw [List.append_assoc, List.getElem?_append_right (by omega), hl, Nat.sub_self]
      rfl
    have e1 : (T.kids.take i ++ [k.put q s] ++ T.kids.drop (i + 1)).take i = T.kids.take i := by
      rw [List.append_assoc, List.take_append_of_le_length (by omega), List.take_of_length_le (by omega)]
    have e2 : (T.kids.take i ++ [k.put q s] ++ T.kids.drop (i + 1)).drop (i + 1) = T.kids.drop (i + 1) := by
      rw [List.drop_append_of_le_length (by rw [List.length_append, hl]; exact Nat.le_refl _), List.drop_of_length_le (by rw [List.length_append, hl]; exact Nat.le_refl _)]
      rfl
    rw [AT.put, h1]
    show (T.withKids _).ctx (i :: q) = _
    rw [AT.ctx, AT.ctx, h1, show ∀ ks, (T.withKids ks).kids = ks from fun _ => rfl, e, e1, e2]
    show _ :: _ :: (_ ++ (k.put q s).ctx q ++ _) = _
    rw [put_ctx h2]
    rfl
theorem adr_put {q : List Nat} {T s u : AT} (h : T.at_ q = some u) : (T.put q s).adr.Perm (T.ctx q ++ s.adr) := by
  have := adr_ctx (put_at (s := s) h)
  rw [put_ctx h] at this
  exact this
theorem put_root : ∀ {q : List Nat} {T s u : AT}, T.at_ q = some u → s.root = u.root → (T.put q s).root = T.root
  | [], T, s, u, h, e => by rw [at_nil] at h; cases h; rw [AT.put]; exact e
  | i :: q, T, s, u, h, _ => by
    obtain ⟨k, h1, h2⟩ := at_cons.mp h
    rw [AT.put, h1]
    rfl
theorem at_ok {M : Mem} : ∀ {q : List Nat} {T s : AT}, T.ok M → T.at_ q = some s → s.ok M
  | [], T, s, h, e => by rw [at_nil] at e; cases e; exact h
  | i :: q, T, s, h, e => by
    obtain ⟨k, h1, h2⟩ := at_cons.mp e
    exact at_ok (oks_iff.mp (ok_eta.mp h).2.2 k (List.mem_of_getElem? h1)) h2
/-- a part changes in place -/
theorem put_ok {M M' : Mem} : ∀ {q : List Nat} {T s u : AT}, T.ok M → T.at_ q = some u → s.root = u.root → s.ok M' → (∀ x ∈ T.ctx q, M' x = M x) → (T.put q s).ok M'
  | [], T, s, u, _, _, _, hs, _ => by rw [AT.put]; exact hs
  | i :: q, T, s, u, h, e, er, hs, hc => by
    obtain ⟨k, h1, h2⟩ := at_cons.mp e
    obtain ⟨o1, o2, o3⟩ := ok_eta.mp h
    rw [AT.ctx, h1] at hc
    have hc2 : ∀ x, x ∈ adrs (T.kids.take i) ∨ x ∈ k.ctx q ∨ x ∈ adrs (T.kids.drop (i + 1)) → M' x = M x := fun x hx => hc x (.tail _ (.tail _ (by
      show x ∈ adrs (T.kids.take i) ++ k.ctx q ++ adrs (T.kids.drop (i + 1))
      rw [List.mem_append, List.mem_append]
      rcases hx with hx | hx | hx
      · exact .inl (.inl hx)
      · exact .inl (.inr hx)
      · exact .inr hx)))
    rw [AT.put, h1]
    refine ok_eta.mpr ⟨?_, ?_, oks_iff.mpr fun z hz => ?_⟩
    · show M' T.root = some (.lst [.d (.int T.num), .d T.tag, .r T.box])
      rw [hc _ (.head _)]
      exact o1
    · show M' T.box = some (.lst (rootsW (T.kids.take i ++ [k.put q s] ++ T.kids.drop (i + 1))))
      rw [hc _ (.tail _ (.head _)), o2]
      have : rootsW (T.kids.take i ++ [k.put q s] ++ T.kids.drop (i + 1)) = rootsW T.kids := by
        conv => rhs; rw [split3 h1]
        unfold rootsW
        rw [List.map_append, List.map_append, List.map_append, List.map_append, List.map_singleton, List.map_singleton, put_root h2 er]
      rw [this]
    · have hz' : z ∈ T.kids.take i ++ [k.put q s] ++ T.kids.drop (i + 1) := hz
      rw [List.mem_append, List.mem_append, List.mem_singleton] at hz'
      rcases hz' with (hz | rfl) | hz
      · exact (oks_iff.mp o3 z (List.mem_of_mem_take hz)).same fun x hx => hc2 x (.inl (adrs_mem hz hx))
      · exact put_ok (oks_iff.mp o3 k (List.mem_of_getElem? h1)) h2 er hs fun x hx => hc2 x (.inr (.inl hx))
      · exact (oks_iff.mp o3 z (List.mem_of_mem_drop hz)).same fun x hx => hc2 x (.inr (.inr (adrs_mem hz hx)))
/-- told by its tags -/
@[reducible] def tgF : Int → PyData → PyData := fun _ t => t
end Tl
set_option Elab.async false
set_option linter.all false
set_option maxRecDepth 100000
set_option maxHeartbeats 4000000
/-! Trees of lists that may change: changed in place. -/
namespace Tl
open PySem L2
theorem one_box {T u : AT} {q : List Nat} (hc : T.adr.count u.box ≤ 1) (h : T.at_ q = some u) : u.box ∉ T.ctx q ∧ u.root ≠ u.box ∧ u.box ∉ adrs u.kids := by
  have e := (adr_ctx h).count_eq u.box
  rw [List.count_append, adr_eta u, List.count_cons, List.count_cons_self] at e
  refine ⟨fun z => ?_, fun z => ?_, fun z => ?_⟩
  · have := List.count_pos_iff.mpr z
    omega
  · rw [z, beq_self_eq_true, if_pos rfl] at e
    omega
  · have := List.count_pos_iff.mpr z
    omega
theorem one_root {T u : AT} {q : List Nat} (hc : T.adr.count u.root ≤ 1) (h : T.at_ q = some u) : u.root ∉ T.ctx q ∧ u.root ≠ u.box ∧ u.root ∉ adrs u.kids := by
  have e := (adr_ctx h).count_eq u.root
  rw [List.count_append, adr_eta u, List.count_cons_self, List.count_cons] at e
  refine ⟨fun z => ?_, fun z => ?_, fun z => ?_⟩
  · have := List.count_pos_iff.mpr z
    omega
  · have y : (u.box == u.root) = true := by rw [z]; exact beq_self_eq_true _
    rw [if_pos y] at e
    omega
  · have := List.count_pos_iff.mpr z
    omega
theorem nd_one {T : AT} (h : T.adr.Nodup) (a : Addr) : T.adr.count a ≤ 1 := List.nodup_iff_count.mp h a
theorem setKids_ok {M : Mem} {T u : AT} {q : List Nat} {ks : List AT} (h : T.ok M) (e : T.at_ q = some u) (hc : T.adr.count u.box ≤ 1) (hk : oks M ks) (hb : u.box ∉ adrs ks) : (T.put q (u.withKids ks)).ok (mset M u.box (.lst (rootsW ks))) := by
  obtain ⟨h1, h2, h3⟩ := one_box hc e
  have hu := ok_eta.mp (at_ok h e)
  refine put_ok h e rfl (ok_eta.mpr ⟨?_, ?_, ?_⟩) fun x hx => mset_ne fun z => h1 (z ▸ hx)
  · show mset M u.box _ u.root = _
    rw [mset_ne h2]
    exact hu.1
  · exact mset_same
  · exact oks_same hk fun x hx => mset_ne fun z => hb (z ▸ hx)
theorem setTag_ok {M : Mem} {T u : AT} {q : List Nat} {t : PyData} (h : T.ok M) (e : T.at_ q = some u) (hc : T.adr.count u.root ≤ 1) : (T.put q (.node u.root u.box u.num t u.kids)).ok (mset M u.root (.lst [.d (.int u.num), .d t, .r u.box])) := by
  obtain ⟨h1, h2, h3⟩ := one_root hc e
  have hu := ok_eta.mp (at_ok h e)
  refine put_ok h e rfl (ok_eta.mpr ⟨?_, ?_, ?_⟩) fun x hx => mset_ne fun z => h1 (z ▸ hx)
  · exact mset_same
  · show mset M u.root _ u.box = _
    rw [mset_ne h2.symm]
    exact hu.2.1
  · exact oks_same hu.2.2 fun x hx => mset_ne fun z => h3 (z ▸ hx)
/-- alike but for the kids -/
structure Alk (a b : AT) : Prop where
  r : a.root = b.root
  x : a.box = b.box
  n : a.num = b.num
  t : a.tag = b.tag
theorem Alk.refl (a : AT) : Alk a a := ⟨rfl, rfl, rfl, rfl⟩
end Tl
set_option Elab.async false
set_option linter.all false
set_option maxRecDepth 100000
set_option maxHeartbeats 4000000
/-! Trees of lists that may change: parts moved and swapped in place. -/
set_option Elab.async false
set_option linter.all false
set_option maxRecDepth 100000
set_option maxHeartbeats 4000000
/-! Paths as data; what a deed needs; what refuses it. -/
namespace Tl
open PySem L2
theorem eqv_ints : ∀ a b : List Nat, PyData.eqvAll (a.map fun n : Nat => .int (n : Int)) (b.map fun n : Nat => .int (n : Int)) = decide (a = b)
  | [], [] => rfl
  | [], _ :: _ => rfl
  | _ :: _, [] => rfl
  | x :: a, y :: b => by
    rw [List.map_cons, List.map_cons, PyData.eqvAll, eqv_ints a b]
    show (((x : Int) == (y : Int)) && _) = _
    by_cases h : x = y
    · subst h
      by_cases g : a = b
      · subst g; simp
      · rw [decide_eq_false g, Bool.and_false, decide_eq_false fun z => g (List.cons.inj z).2]
    · have : ((x : Int) == (y : Int)) = false := beq_eq_false_iff_ne.mpr fun z => h (Int.ofNat.inj z)
      rw [this, Bool.false_and, decide_eq_false fun z => h (List.cons.inj z).1]
theorem eqv_path (a b : List Nat) : PyData.eqv (pathD a) (pathD b) = decide (a = b) := by
  unfold pathD
  rw [PyData.eqv, eqv_ints]
theorem ints_ok : ∀ a : List Nat, PyData.hasDictAll (a.map fun n : Nat => .int (n : Int)) = false ∧ PyData.canLayAll0 (a.map fun n : Nat => .int (n : Int)) = true ∧ PyData.depthAll (a.map fun n : Nat => .int (n : Int)) = 0
  | [] => ⟨rfl, rfl, rfl⟩
  | x :: a => by
    obtain ⟨h1, h2, h3⟩ := ints_ok a
    rw [List.map_cons, PyData.hasDictAll, PyData.canLayAll0, PyData.depthAll, h1, h2, h3]
    exact ⟨rfl, rfl, rfl⟩
theorem eqOk_path (a : List Nat) : eqOk (pathD a) = true := by
  obtain ⟨h1, h2, h3⟩ := ints_ok a
  unfold eqOk SeqAt.shaped pathD
  rw [PyData.hasDict, PyData.canLay0, PyData.depth, h1, h2, h3]
  decide
theorem eqOk_paths (as : List (List Nat)) : eqOk (.list (as.map pathD)) = true := by
  have : ∀ as : List (List Nat), PyData.hasDictAll (as.map pathD) = false ∧ PyData.canLayAll0 (as.map pathD) = true ∧ PyData.depthAll (as.map pathD) ≤ 1 := fun as => by
    induction as with
    | nil => exact ⟨rfl, rfl, by decide⟩
    | cons a as ih =>
      obtain ⟨h1, h2, h3⟩ := ih
      obtain ⟨g1, g2, g3⟩ := ints_ok a
      have e1 : (pathD a).hasDict = false := by unfold pathD; rw [PyData.hasDict, g1]
      have e2 : (pathD a).canLay0 = true := by unfold pathD; rw [PyData.canLay0, g2]
      have e3 : (pathD a).depth = 1 := by unfold pathD; rw [PyData.depth, g3]
      rw [List.map_cons, PyData.hasDictAll, PyData.canLayAll0, PyData.depthAll, h1, h2, e1, e2, e3]
      exact ⟨rfl, rfl, by omega⟩
  obtain ⟨h1, h2, h3⟩ := this as
  unfold eqOk SeqAt.shaped
  rw [PyData.hasDict, PyData.canLay0, PyData.depth, h1, h2, decide_eq_true (by omega)]
  rfl
/-- t is the beginning of p -/
def pre (t p : List Nat) : Bool := decide (p.take t.length = t)
/-! ### what a deed is made of -/
def pathOk (q : List Nat) : Prop := q.length < 12 ∧ ∀ i ∈ q, i ≤ 59
def Deed.Ok : Deed → Prop
  | .name q t => pathOk q ∧ isTag (.str t) = true
  | .put q n e => pathOk q ∧ n ≤ 60 ∧ TrT 12 e ∧ nn e ≤ 60
  | .out q => pathOk q
  | .move q o n => pathOk q ∧ pathOk o ∧ n ≤ 60
  | .swap q o => pathOk q ∧ pathOk o
  | .wrap q n m t => pathOk q ∧ n ≤ 60 ∧ m ≤ 60 ∧ isTag (.str t) = true
  | .unwrap q => pathOk q
/-- the first path that is no place -/
def Deed.lost (d : PyData) : Deed → Option (List Nat)
  | .name q _ => if (sub d q).isNone then some q else none
  | .put q _ _ => if (sub d q).isNone then some q else none
  | .out q => if (sub d q).isNone then some q else none
  | .move q o _ => if (sub d q).isNone then some q else if (sub d o).isNone then some o else none
  | .swap q o => if (sub d q).isNone then some q else if (sub d o).isNone then some o else none
  | .wrap q _ _ _ => if (sub d q).isNone then some q else none
  | .unwrap q => if (sub d q).isNone then some q else none
def Deed.root : Deed → Bool
  | .out q => q.isEmpty
  | .unwrap q => q.isEmpty
  | .move q _ _ => q.isEmpty
  | .swap q o => q.isEmpty || o.isEmpty
  | _ => false
def Deed.within : Deed → Option (List Nat)
  | .move q o _ => if pre q o then some o else none
  | .swap q o => if pre q o || pre o q then some o else none
  | _ => none
def kidsN (d : PyData) (q : List Nat) : Nat := (kidsD (partD d q)).length
theorem isPath_ok {q : List Nat} (h : pathOk q) : isPath (pathD q) = true := by
  unfold pathD
  rw [isPath, List.length_map, decide_eq_true h.1, Bool.true_and, List.all_eq_true]
  intro x hx
  obtain ⟨i, hi, rfl⟩ := List.mem_map.mp hx
  have := h.2 i hi
  rw [isNum, decide_eq_true (by omega), decide_eq_true (by omega)]
  rfl
theorem path_txt (q : List Nat) : txt (pathD q) = true := by
  unfold pathD
  rw [txt]
  induction q with
  | nil => rfl
  | cons i q ih => rw [List.map_cons, txtAll, ih]; rfl
end Tl
set_option Elab.async false
set_option linter.all false
set_option maxRecDepth 100000
set_option maxHeartbeats 4000000
/-! Trees behind deeds: their levels, places. -/
namespace Tl
open PySem L2
theorem node_at {n : Nat} {d e : PyData} {q : List Nat} (h : TrT n d) (hs : sub d q = some e) : ∃ (s : Str) (ks : List PyData), e = .tuple [.str s, .tuple ks] ∧ q.length < n ∧ 1 + nnAll ks ≤ nn d ∧ (∀ k ∈ ks, TrT (n - q.length - 1) k) ∧ isTag (.str s) = true := by
  obtain ⟨h1, h2, h3⟩ := sub_tr h hs
  obtain ⟨k, hk⟩ : ∃ k, n - q.length = k + 1 := ⟨n - q.length - 1, by omega⟩
  rw [hk] at h1
  obtain ⟨s, ks, rfl, a, b⟩ := h1
  rw [nn] at h3
  exact ⟨s, ks, rfl, h2, h3, fun z hz => by rw [hk]; exact b z hz, a⟩
end Tl
set_option Elab.async false
set_option linter.all false
set_option maxRecDepth 100000
set_option maxHeartbeats 4000000
/-! Tables by seven words, as the top leaves them. -/
set_option Elab.async false
set_option linter.all false
set_option maxRecDepth 100000
set_option maxHeartbeats 8000000
namespace Tl
open PySem L2 RZ
local macro_rules
  | `(tactic| decreasing_trivial) => `(tactic| ((with_reducible (conv => whnf)); (repeat ((first | (with_reducible refine gDs_c ?_) | (with_reducible refine gDs_n ?_) | (with_reducible refine gNs_c ?_) | (with_reducible refine gNs_n ?_) | (with_reducible refine gO_i tyAny_lt ?_) | (with_reducible refine gIs_c ?_) | (with_reducible refine gIs_n ?_) | (with_reducible refine gBs_c ?_) | (with_reducible refine gBs_n ?_) | (with_reducible refine gSs_c ?_) | (with_reducible refine gSs_n ?_) | (with_reducible refine gO_i tyIs_int ?_) | (with_reducible refine gO_i tyIs_bool ?_) | (with_reducible refine gO_i tyIs_str ?_) | (with_reducible refine gO_i tyIs_tuple ?_) | (with_reducible refine gO_i tyIs_list ?_) | (with_reducible refine gDs_i ?_) | (with_reducible refine gO_i (Eq.refl _) ?_) | (with_reducible refine gO_i (by assumption) ?_) | (with_reducible refine gO_i at_0 ?_) | (with_reducible refine gO_i at_m0 ?_) | (with_reducible refine gO_i at_1 ?_) | (with_reducible refine gO_i at_m1 ?_) | (with_reducible refine gO_i at_2 ?_) | (with_reducible refine gO_i at_m2 ?_) | (with_reducible refine gO_i at_3 ?_) | (with_reducible refine gO_i at_m3 ?_) | (with_reducible refine gO_i at_4 ?_) | (with_reducible refine gO_i at_m4 ?_) | (with_reducible refine gO_i at_5 ?_) | (with_reducible refine gO_i at_m5 ?_) | (with_reducible refine gO_i at_6 ?_) | (with_reducible refine gO_i at_m6 ?_) | (with_reducible refine gO_i at_7 ?_) | (with_reducible refine gO_i at_m7 ?_) | (with_reducible refine IfB.ngf ?_) | (with_reducible refine IfB.ngt ?_) | (with_reducible refine IfB.not ?_) | (with_reducible refine IfB.nil ?_) | (with_reducible refine IfB.nilT ?_) | (with_reducible refine IfB.f isE_c ?_) | (with_reducible refine IfB.t isE_n ?_) | (with_reducible refine IfB.t ?gha ?_; (case gha => rfl)) | (with_reducible refine IfB.f ?gha ?_; (case gha => rfl)) | (with_reducible refine IfB.t ?gha ?_; (case gha => assumption)) | (with_reducible refine IfB.f ?gha ?_; (case gha => assumption)) | (with_reducible refine IfB.yes (Eq.refl _) ?_) | (with_reducible refine IfB.yes ?gha ?_; (case gha => (first | omega | (simp only [len_c, len_n, List.length_map]; omega)))) | (with_reducible refine IfB.no ?gha ?_; (case gha => (first | omega | (simp only [len_c, len_n, List.length_map]; omega)))) | (with_reducible refine IfB.t ?gha ?_; (case gha => decide +kernel)) | (with_reducible refine IfB.f ?gha ?_; (case gha => decide +kernel))); (with_reducible (conv => whnf))))))
local macro_rules
  | `(tactic| decreasing_trivial_pre_omega) => `(tactic| (decreasing_trivial; (repeat ((first | ((with_reducible refine And.intro ?gha ?_); (case gha => (first | assumption | omega | exact rfl | (exact mset_same) | (exact ⟨_, mset_same⟩) | (exact Exists.intro _ (by first | exact mset_same | assumption | (rw [mset_ne (by assumption)]; first | exact mset_same | assumption))) | (exact sm_of (by omega) (by omega)) | (exact sz1000 (by first | omega | (simp; done) | (simp; omega))) | (exact Or.inl ⟨by decide, by decide⟩) | decide | (simp; done) | (refine ⟨?_, ?_⟩ <;> (first | assumption | omega | exact rfl | (exact mset_same) | (exact ⟨_, mset_same⟩) | (exact Exists.intro _ (by first | exact mset_same | assumption | (rw [mset_ne (by assumption)]; first | exact mset_same | assumption))) | (exact sm_of (by omega) (by omega)) | (exact sz1000 (by first | omega | (simp; done) | (simp; omega))) | (exact Or.inl ⟨by decide, by decide⟩) | decide | (simp; done))) | (refine ⟨?_, ?_, ?_⟩ <;> (first | assumption | omega | exact rfl | (exact mset_same) | (exact ⟨_, mset_same⟩) | (exact Exists.intro _ (by first | exact mset_same | assumption | (rw [mset_ne (by assumption)]; first | exact mset_same | assumption))) | (exact sm_of (by omega) (by omega)) | (exact sz1000 (by first | omega | (simp; done) | (simp; omega))) | (exact Or.inl ⟨by decide, by decide⟩) | decide | (simp; done))) | (refine ⟨?_, ?_, ?_, ?_⟩ <;> (first | assumption | omega | exact rfl | (exact mset_same) | (exact ⟨_, mset_same⟩) | (exact Exists.intro _ (by first | exact mset_same | assumption | (rw [mset_ne (by assumption)]; first | exact mset_same | assumption))) | (exact sm_of (by omega) (by omega)) | (exact sz1000 (by first | omega | (simp; done) | (simp; omega))) | (exact Or.inl ⟨by decide, by decide⟩) | decide | (simp; done)))))) | (with_reducible refine exW (by first | exact mset_same | assumption | (rw [mset_ne (by assumption)]; first | exact mset_same | assumption)) ?_)); decreasing_trivial))))
abbrev sI_NoPlace : Stmt := inClsN (top 10) 0
theorem scI_NoPlace : FnScope ["self", "path"] ["self", "path"] (defScope sI_NoPlace) := ⟨rfl, rfl, rfl, by decide +kernel, rfl, by decide +kernel, by decide +kernel⟩
theorem okI_NoPlace {P : Program} {w : World} {K : PySem.W.Frag} {mg : Str → Option Value} {base : Heap} {f C : Addr} {fd : FuncData} {k : Nat} (F : Fun K "__init__" "NoPlace.__init__" sI_NoPlace f fd) (o : OexC K C) (n : PySem.W.findIn K (.ref C) "path" = some none) : FnOk P w K mg base CX0 (k + 1) f fd ["self", "path"] (spInitF K C "path") := by
  refine F.ok scI_NoPlace (fun vs H Q E h => ?_) (fun cdv A outer s H vs Q E hr h => ?_)
  · obtain ⟨_, _, rfl, _⟩ := h
    rfl
  obtain ⟨a, v, rfl, ha, q⟩ := h
  exact ⟨_, pss_one (ps_ost (pv 0) (pv 1)), _, rfl, _, rfl, a, C, rfl, o, n, .inl ⟨ha, fun dx h1 h2 => q dx h1 h2⟩⟩
@[reducible] def tfChkPl (cN cP : Addr) : TF := fun ws M R RX => ∃ (d x : PyData) (n : Nat), ws = [.d d, .d x] ∧ (TrT n d ∧ txt x = true) ∧ (isPath x = false → RX ⟨.ref cN, []⟩ M) ∧ (∀ q, x = pathD q → pathOk q → sub d q = none → RX ⟨.ref cP, [("path", pathD q)]⟩ M) ∧ (∀ q e, x = pathD q → pathOk q → sub d q = some e → R (.d .none) M)
theorem tr_some {n : Nat} {d e : PyData} {q : List Nat} (h : TrT n d) (hs : sub d q = some e) : e ≠ .none := fun z => by
  obtain ⟨s, ks, h1, _⟩ := node_at h hs
  rw [z] at h1
  cases h1
theorem isN_no {d : PyData} (h : d ≠ .none) : isN (W.d d) = some false := by
  cases d with
  | none => exact absurd rfl h
  | _ => rfl
/-- a path that is one -/
theorem path_of {d : PyData} (h : isPath d = true) : ∃ q, d = pathD q ∧ pathOk q := by
  cases d with
  | tuple ds =>
    rw [isPath, Bool.and_eq_true] at h
    have h1 := of_decide_eq_true h.1
    have h2 := List.all_eq_true.mp h.2
    have : ∀ l : List PyData, (∀ x ∈ l, isNum 59 x = true) → ∃ q : List Nat, l = q.map (fun n : Nat => PyData.int (n : Int)) ∧ ∀ i ∈ q, i ≤ 59 := fun l => by
      induction l with
      | nil => exact fun _ => ⟨[], rfl, fun i hi => by cases hi⟩
      | cons x l ih =>
        intro h
        obtain ⟨q, rfl, hq⟩ := ih fun z hz => h z (.tail _ hz)
        have hx := h x (.head _)
        cases x with
        | int i =>
          rw [isNum, Bool.and_eq_true] at hx
          have c1 := of_decide_eq_true hx.1
          have c2 := of_decide_eq_true hx.2
          exact ⟨i.toNat :: q, by rw [List.map_cons, show ((i.toNat : Nat) : Int) = i by omega], fun j hj => by
            rcases List.mem_cons.mp hj with rfl | hj
            · omega
            · exact hq j hj⟩
        | _ => cases hx
    obtain ⟨q, rfl, hq⟩ := this ds h2
    exact ⟨q, rfl, by rw [List.length_map] at h1; exact h1, hq⟩
  | _ => cases h
section
variable {P : Program} {w : World} {K : PySem.W.Frag} {mg : Str → Option Value} {base : Heap}
abbrev sIsPath : Stmt := top 33
theorem scIsPath : FnScope ["thing", "step"] ["thing"] (defScope sIsPath) := ⟨rfl, rfl, rfl, by decide +kernel, rfl, by decide +kernel, by decide +kernel⟩
theorem ok_path {f : Addr} {fd : FuncData} {k j : Nat} (F : Fun K "is_path" "is_path" sIsPath f fd) (Uis_number : Use P w K mg base "is_number" ["thing", "most"] j (spD K 2 (tfB2 isNum))) (hj : j ≤ k) (T : Bl mg) (C : Cs mg) : FnOk P w K mg base CX0 (k + 1) f fd ["thing"] (spD K 1 (tfB isPath)) := by
  refine okD F scIsPath rfl fun cdv A outer s H E hr => ?_
  refine ⟨_, _, (pss_cons (ps_if (PW.pt (pw_or (pt_not (pt_val (pe_callB (r := rIsi K) call_isi (by rfl) T.isi PyProof.Rows.boot_isinstance (pa_cons (pv 0) (pa_cons (b_tuple T) pa_nil))))) (pw_or1 (pt_cmpR op_ge (pe_callB call_len_seq (by rfl) T.len PySem.boot_len (pa_cons (pv 0) pa_nil)) (c_DEPTH C) (nomark _))))) (pss_one (ps_ret pe_bl)) pss_nil)
    (pss_one (ps_ret (pe_callB (cr_all rfl) (by rfl) T.all PyProof.Rows.boot_all (pa_cons (pe_lc (own := [("step", 1)]) (g := gName 1) (tt := tYes) (by rfl) scIsPath.nd (pi_tup (pv 0)) (blkOk_by (N := ["thing", "step"]) (sc := defScope sIsPath) (own := [("step", 1)]) (by decide +kernel)) (fun _ _ _ _ _ => pg_name (i := 1) scIsPath.nd rfl (Or.inl rfl)) (fun _ _ _ _ _ => pts_nil) (fun _ _ _ _ _ => (pe_call Uis_number.ok (hr.mono (by omega)) rfl Uis_number.m Uis_number.kp Uis_number.b .nil pass0 (pa_cons (pv 1) (pa_cons (pe_op op_sub (c_SIZE C) pe_int) pa_nil))))) pa_nil))))),
    (ss_cons (ss_if (st_or (st_not (st_val (se_cb sc_isi (sa_cons se_nm (sa_cons se_o sa_nil))))) (st_test (se_op so_ge (se_cb sc_len (sa_cons se_nm sa_nil)) se_int))) (ss_ret se_bl) ss_nil)
    (ss_ret (se_cb sc_all (sa_cons (se_lcF (si_tup se_nm) sg_name st_yes (se_call (sa_cons se_nm (sa_cons (se_op so_sub se_int se_int) sa_nil)))) sa_nil)))), fun ws M R RX hl h => ?_⟩
  obtain ⟨x, rfl, h1⟩ := g1_of h
  obtain ⟨d, rfl, ht, h2⟩ := gD_of h1
  cases d with
  | tuple ds =>
    rw [isPath] at h2
    have htd : txtAll ds = true := by rw [txt] at ht; exact ht
    simp only [start0, len_c, len_n, map_c, map_n, app_c, app_n, rep_0, rep_s, Nat.reduceAdd, Nat.reduceSub]
    decreasing_trivial_pre_omega
    refine IfB.d (fun c => ?_) (fun c => ?_)
    · decreasing_trivial_pre_omega
      rw [decide_eq_false (p := ds.length < 12) (by omega)] at h2
      exact h2
    · rw [decide_eq_true (p := ds.length < 12) (by omega), Bool.true_and] at h2
      decreasing_trivial_pre_omega
      refine lc1F (k := fun _ => True) (b := bName 1) (fun d => .bool (isNum 59 d)) trivial (fun d hm Rk q => ?_) (sz1000 (by omega)) ?_
      · obtain ⟨i, hi⟩ := List.getElem?_of_mem hm
        have := txtAll_get htd hi
        decreasing_trivial_pre_omega
        exact q
      · decreasing_trivial_pre_omega
        rw [List.map_map]
        show gBs (ds.map fun d => W.d (.bool (isNum 59 d))) _
        rw [gBs_map]
        rw [List.all_map]
        exact h2
  | _ => simp only [start0, len_c, len_n, map_c, map_n, app_c, app_n, rep_0, rep_s, Nat.reduceAdd, Nat.reduceSub]; decreasing_trivial_pre_omega; exact h2
abbrev sChkPath : Stmt := top 43
theorem scChkPath : FnScope ["thing"] ["thing"] (defScope sChkPath) := ⟨rfl, rfl, rfl, by decide +kernel, rfl, by decide +kernel, by decide +kernel⟩
theorem ok_chkPath {f C : Addr} {fd : FuncData} {k j : Nat} (F : Fun K "check_path" "check_path" sChkPath f fd) (XNoPath : Er K mg "NoPath" C) (Uis_path : Use P w K mg base "is_path" ["thing"] j (spD K 1 (tfB isPath))) (hj : j ≤ k) :
    FnOk P w K mg base (L2.CX P w) (k + 1) f fd ["thing"] (spD K 1 (tfChk isPath C)) := by
  refine okDX F scChkPath rfl fun cdv A outer s H E hr => ?_
  refine ⟨_, fun RE => _, (pss_one (ps_if (pt_not (pt_val (PE.nox (pe_call Uis_path.ok (hr.mono (by omega)) rfl Uis_path.m Uis_path.kp Uis_path.b .nil pass0 (pa_cons (pv 0) pa_nil))))) (pss_one (ps_raise rfl (takes_of (E := E) rfl rfl rfl rfl) (pmk_own0 PySem.F.excBase_ValueError XNoPath.x XNoPath.g XNoPath.k (raises_own XNoPath.b XNoPath.t) (by exact rfl)))) pss_nil)), fun RE => (ss_if (st_not (st_val (se_call (sa_cons se_nm sa_nil)))) ss_raise0 ss_nil), fun ws M R RX hl h => ?_⟩
  obtain ⟨x, rfl, h1⟩ := g1_of h
  obtain ⟨d, rfl, ht, h2, h3⟩ := gD_of h1
  simp only [start0, len_c, len_n, map_c, map_n, app_c, app_n, rep_0, rep_s, Nat.reduceAdd, Nat.reduceSub]
  decreasing_trivial_pre_omega
  cases c : isPath d
  · decreasing_trivial_pre_omega
    exact h3 c
  · decreasing_trivial_pre_omega
    exact h2 c
abbrev sChkPl : Stmt := top 44
theorem scChkPl : FnScope ["tree", "thing"] ["tree", "thing"] (defScope sChkPl) := ⟨rfl, rfl, rfl, by decide +kernel, rfl, by decide +kernel, by decide +kernel⟩
theorem ok_chkPl {f cN cP : Addr} {fd : FuncData} {k j : Nat} (F : Fun K "check_place" "check_place" sChkPl f fd) (XNoPlace : ErF K mg "NoPlace" "NoPlace.__init__" "path" sI_NoPlace cP) (Ucheck_path : UseX P w K mg base "check_path" ["thing"] j (spD K 1 (tfChk isPath cN))) (Upart_at : Use P w K mg base "part_at" ["tree", "path"] j (spD K 2 tfPartAt)) (hj : j ≤ k) (hk : 2 ≤ k) :
    FnOk P w K mg base (L2.CX P w) (k + 1) f fd ["tree", "thing"] (spD K 2 (tfChkPl cN cP)) := by
  obtain ⟨fiNoPlace, fdNoPlace, iNoPlace, tNoPlace, FNoPlace⟩ := XNoPlace.i
  have okNoPlace := okI_NoPlace (P := P) (w := w) (mg := mg) (base := base) (k := 0) FNoPlace XNoPlace.o XNoPlace.n
  have bNoPlace := FNoPlace.binds (ps := ["self", "path"]) fun _ _ _ _ _ _ us hl => match us, hl with | [_, _], _ => rfl
  refine okDX F scChkPl rfl fun cdv A outer s H E hr => ?_
  refine ⟨_, fun RE => _, (pss_cons (ps_expr (pe_callS Ucheck_path.ok (hr.mono (by omega)) rfl Ucheck_path.m Ucheck_path.kp Ucheck_path.b (fun σ => passAt (takes_of (E := E) rfl rfl rfl rfl) σ) (pa_cons (pv 1) pa_nil)))
    (pss_one (ps_if (pt_cmpR op_isN (PE.nox (pe_call Upart_at.ok (hr.mono (by omega)) rfl Upart_at.m Upart_at.kp Upart_at.b .nil pass0 (pa_cons (pv 0) (pa_cons (pv 1) pa_nil)))) pe_non (nomark _)) (pss_one (ps_raise rfl (takes_of (E := E) rfl rfl rfl rfl) (pmk_oex XNoPlace.o iNoPlace tNoPlace okNoPlace (hr.mono (by omega)) bNoPlace .nil pass0 (by exact rfl) XNoPlace.g (pa_cons (pv 1) pa_nil)))) pss_nil))), fun RE => (ss_cons (ss_drop (se_callX (sa_cons se_nm sa_nil)))
    (ss_if (st_test (se_op so_isN (se_call (sa_cons se_nm (sa_cons se_nm sa_nil))) se_non)) (ss_raiseF (sa_cons se_nm sa_nil)) ss_nil)), fun ws M R RX hl h => ?_⟩
  obtain ⟨d, x, n, rfl, ⟨ht, hx⟩, h1, h2, h3⟩ := h
  simp only [start0, len_c, len_n, map_c, map_n, app_c, app_n, rep_0, rep_s, Nat.reduceAdd, Nat.reduceSub]
  decreasing_trivial_pre_omega
  refine ⟨fun c => ?_, fun c => h1 c⟩
  obtain ⟨q, rfl, hq⟩ := path_of c
  decreasing_trivial_pre_omega
  refine ⟨d, q, n, rfl, ht, ?_⟩
  cases he : sub d q with
  | none =>
    rw [show optP none = .none from rfl]
    decreasing_trivial_pre_omega
    exact h2 q rfl hq he
  | some e =>
    rw [show ∀ e, optP (some e) = e from fun _ => rfl]
    have hn1 := isN_no (tr_some ht he)
    decreasing_trivial_pre_omega
    exact h3 q e rfl hq he
abbrev sWithin : Stmt := top 19
end
end Tl
set_option Elab.async false
set_option linter.all false
set_option maxRecDepth 100000
set_option maxHeartbeats 8000000
namespace Tl
open PySem L2 RZ
local macro_rules
  | `(tactic| decreasing_trivial) => `(tactic| ((with_reducible (conv => whnf)); (repeat ((first | (with_reducible refine gDs_c ?_) | (with_reducible refine gDs_n ?_) | (with_reducible refine gNs_c ?_) | (with_reducible refine gNs_n ?_) | (with_reducible refine gO_i tyAny_lt ?_) | (with_reducible refine gIs_c ?_) | (with_reducible refine gIs_n ?_) | (with_reducible refine gBs_c ?_) | (with_reducible refine gBs_n ?_) | (with_reducible refine gSs_c ?_) | (with_reducible refine gSs_n ?_) | (with_reducible refine gO_i tyIs_int ?_) | (with_reducible refine gO_i tyIs_bool ?_) | (with_reducible refine gO_i tyIs_str ?_) | (with_reducible refine gO_i tyIs_tuple ?_) | (with_reducible refine gO_i tyIs_list ?_) | (with_reducible refine gDs_i ?_) | (with_reducible refine gO_i (Eq.refl _) ?_) | (with_reducible refine gO_i (by assumption) ?_) | (with_reducible refine gO_i at_0 ?_) | (with_reducible refine gO_i at_m0 ?_) | (with_reducible refine gO_i at_1 ?_) | (with_reducible refine gO_i at_m1 ?_) | (with_reducible refine gO_i at_2 ?_) | (with_reducible refine gO_i at_m2 ?_) | (with_reducible refine gO_i at_3 ?_) | (with_reducible refine gO_i at_m3 ?_) | (with_reducible refine gO_i at_4 ?_) | (with_reducible refine gO_i at_m4 ?_) | (with_reducible refine gO_i at_5 ?_) | (with_reducible refine gO_i at_m5 ?_) | (with_reducible refine gO_i at_6 ?_) | (with_reducible refine gO_i at_m6 ?_) | (with_reducible refine gO_i at_7 ?_) | (with_reducible refine gO_i at_m7 ?_) | (with_reducible refine IfB.ngf ?_) | (with_reducible refine IfB.ngt ?_) | (with_reducible refine IfB.not ?_) | (with_reducible refine IfB.nil ?_) | (with_reducible refine IfB.nilT ?_) | (with_reducible refine IfB.f isE_c ?_) | (with_reducible refine IfB.t isE_n ?_) | (with_reducible refine IfB.t ?gha ?_; (case gha => rfl)) | (with_reducible refine IfB.f ?gha ?_; (case gha => rfl)) | (with_reducible refine IfB.t ?gha ?_; (case gha => assumption)) | (with_reducible refine IfB.f ?gha ?_; (case gha => assumption)) | (with_reducible refine IfB.yes (Eq.refl _) ?_) | (with_reducible refine IfB.yes ?gha ?_; (case gha => (first | omega | (simp only [len_c, len_n, List.length_map]; omega)))) | (with_reducible refine IfB.no ?gha ?_; (case gha => (first | omega | (simp only [len_c, len_n, List.length_map]; omega)))) | (with_reducible refine IfB.t ?gha ?_; (case gha => decide +kernel)) | (with_reducible refine IfB.f ?gha ?_; (case gha => decide +kernel))); (with_reducible (conv => whnf))))))
local macro_rules
  | `(tactic| decreasing_trivial_pre_omega) => `(tactic| (decreasing_trivial; (repeat ((first | ((with_reducible refine And.intro ?gha ?_); (case gha => (first | assumption | omega | exact rfl | (exact mset_same) | (exact ⟨_, mset_same⟩) | (exact Exists.intro _ (by first | exact mset_same | assumption | (rw [mset_ne (by assumption)]; first | exact mset_same | assumption))) | (exact sm_of (by omega) (by omega)) | (exact sz1000 (by first | omega | (simp; done) | (simp; omega))) | (exact Or.inl ⟨by decide, by decide⟩) | decide | (simp; done) | (refine ⟨?_, ?_⟩ <;> (first | assumption | omega | exact rfl | (exact mset_same) | (exact ⟨_, mset_same⟩) | (exact Exists.intro _ (by first | exact mset_same | assumption | (rw [mset_ne (by assumption)]; first | exact mset_same | assumption))) | (exact sm_of (by omega) (by omega)) | (exact sz1000 (by first | omega | (simp; done) | (simp; omega))) | (exact Or.inl ⟨by decide, by decide⟩) | decide | (simp; done))) | (refine ⟨?_, ?_, ?_⟩ <;> (first | assumption | omega | exact rfl | (exact mset_same) | (exact ⟨_, mset_same⟩) | (exact Exists.intro _ (by first | exact mset_same | assumption | (rw [mset_ne (by assumption)]; first | exact mset_same | assumption))) | (exact sm_of (by omega) (by omega)) | (exact sz1000 (by first | omega | (simp; done) | (simp; omega))) | (exact Or.inl ⟨by decide, by decide⟩) | decide | (simp; done))) | (refine ⟨?_, ?_, ?_, ?_⟩ <;> (first | assumption | omega | exact rfl | (exact mset_same) | (exact ⟨_, mset_same⟩) | (exact Exists.intro _ (by first | exact mset_same | assumption | (rw [mset_ne (by assumption)]; first | exact mset_same | assumption))) | (exact sm_of (by omega) (by omega)) | (exact sz1000 (by first | omega | (simp; done) | (simp; omega))) | (exact Or.inl ⟨by decide, by decide⟩) | decide | (simp; done)))))) | (with_reducible refine exW (by first | exact mset_same | assumption | (rw [mset_ne (by assumption)]; first | exact mset_same | assumption)) ?_)); decreasing_trivial))))
@[reducible] def tfPart (cT cN cP : Addr) : TF := fun ws M R RX => ∃ (d x : PyData), ws = [.d d, .d x] ∧ (txt d = true ∧ txt x = true) ∧ (isTreeD d = false → RX ⟨.ref cT, []⟩ M) ∧ (isTreeD d = true → isPath x = false → RX ⟨.ref cN, []⟩ M) ∧ (isTreeD d = true → ∀ q, x = pathD q → pathOk q → sub d q = none → RX ⟨.ref cP, [("path", pathD q)]⟩ M) ∧ (isTreeD d = true → ∀ q e, x = pathD q → pathOk q → sub d q = some e → R (.d e) M)
section
variable {P : Program} {w : World} {K : PySem.W.Frag} {mg : Str → Option Value} {base : Heap}
abbrev sPtOf : Stmt := top 40
theorem scPtOf : FnScope ["tree", "path"] ["tree", "path"] (defScope sPtOf) := ⟨rfl, rfl, rfl, by decide +kernel, rfl, by decide +kernel, by decide +kernel⟩
theorem ok_partOf {f cT cN cP : Addr} {fd : FuncData} {k j : Nat} (F : Fun K "part_of" "part_of" sPtOf f fd) (Ucheck_tree : UseX P w K mg base "check_tree" ["thing"] j (spD K 1 (tfChk isTreeD cT))) (Ucheck_place : UseX P w K mg base "check_place" ["tree", "thing"] j (spD K 2 (tfChkPl cN cP))) (Upart_at : Use P w K mg base "part_at" ["tree", "path"] j (spD K 2 tfPartAt)) (hj : j ≤ k) : FnOk P w K mg base (L2.CX P w) (k + 1) f fd ["tree", "path"] (spD K 2 (tfPart cT cN cP)) := by
  refine okDX F scPtOf rfl fun cdv A outer s H E hr => ?_
  refine ⟨_, fun RE => _, (pss_cons (ps_expr (pe_callS Ucheck_tree.ok (hr.mono (by omega)) rfl Ucheck_tree.m Ucheck_tree.kp Ucheck_tree.b (fun σ => passAt (takes_of (E := E) rfl rfl rfl rfl) σ) (pa_cons (pv 0) pa_nil)))
    (pss_cons (ps_expr (pe_callS Ucheck_place.ok (hr.mono (by omega)) rfl Ucheck_place.m Ucheck_place.kp Ucheck_place.b (fun σ => passAt (takes_of (E := E) rfl rfl rfl rfl) σ) (pa_cons (pv 0) (pa_cons (pv 1) pa_nil))))
    (pss_one (ps_ret (PE.nox (pe_call Upart_at.ok (hr.mono (by omega)) rfl Upart_at.m Upart_at.kp Upart_at.b .nil pass0 (pa_cons (pv 0) (pa_cons (pv 1) pa_nil)))))))), fun RE => (ss_cons (ss_drop (se_callX (sa_cons se_nm sa_nil)))
    (ss_cons (ss_drop (se_callX (sa_cons se_nm (sa_cons se_nm sa_nil))))
    (ss_ret (se_call (sa_cons se_nm (sa_cons se_nm sa_nil)))))), fun ws M R RX hl h => ?_⟩
  obtain ⟨d, x, rfl, ⟨ht, hx⟩, h1, h2, h3, h4⟩ := h
  simp only [start0, len_c, len_n, map_c, map_n, app_c, app_n, rep_0, rep_s, Nat.reduceAdd, Nat.reduceSub]
  decreasing_trivial_pre_omega
  refine ⟨fun c => ?_, h1⟩
  obtain ⟨t1, t2⟩ := tree_iff.mp c
  decreasing_trivial_pre_omega
  refine ⟨d, x, 12, rfl, ⟨t1, hx⟩, h2 c, h3 c, fun q e hq1 hq2 hq3 => ?_⟩
  subst hq1
  decreasing_trivial_pre_omega
  refine ⟨d, q, 12, rfl, t1, ?_⟩
  rw [hq3]
  exact h4 c q e rfl hq2 hq3
end
end Tl
set_option Elab.async false
set_option linter.all false
set_option maxRecDepth 100000
set_option maxHeartbeats 4000000
/-! Dicts that may change: made, stored into, looked up, walked. -/
namespace Tl
open PySem PySem.Spec PyProof.Rows L2
def kW : L2.Key → W
  | .inl i => .d (.int i)
  | .inr x => .d (.str x)
@[reducible] def gK (x : W) (k : L2.Key → Prop) : Prop := match x with
  | .d (.int i) => k (.inl i)
  | .d (.str s) => k (.inr s)
  | _ => False
theorem gK_of {x : W} {k : L2.Key → Prop} (h : gK x k) : ∃ j, x = kW j ∧ k j := by
  unfold gK at h
  split at h
  · exact ⟨.inl _, rfl, h⟩
  · exact ⟨.inr _, rfl, h⟩
  · exact h.elim
def valW {κ : Type} [DecidableEq κ] (kw : List (κ × W)) (k : κ) : Option W := (kw.find? fun p => decide (p.1 = k)).map (·.2)
def putKW {κ : Type} [DecidableEq κ] (kw : List (κ × W)) (k : κ) (v : W) : List (κ × W) :=
  if (kw.any fun p => decide (p.1 = k)) = true then kw.map (fun p => if p.1 = k then (p.1, v) else p) else kw ++ [(k, v)]
section
variable {κ : Type} [DecidableEq κ]
theorem valW_cons (p : κ × W) (r : List (κ × W)) (k : κ) : valW (p :: r) k = if p.1 = k then some p.2 else valW r k := by
  unfold valW
  rw [List.find?_cons]
  by_cases c : p.1 = k
  · rw [decide_eq_true c, if_pos c]; rfl
  · rw [decide_eq_false c, if_neg c]
theorem valW_mem : ∀ {kw : List (κ × W)} {k : κ} {x : W}, (kw.map (·.1)).Nodup → (k, x) ∈ kw → valW kw k = some x
  | [], _, _, _, h => by cases h
  | p :: r, k, x, hn, h => by
    rw [valW_cons]
    rw [List.map_cons] at hn
    obtain ⟨h1, h2⟩ := List.nodup_cons.mp hn
    rcases List.mem_cons.mp h with rfl | h
    · rw [if_pos rfl]
    · rw [if_neg fun z => h1 (by rw [z]; exact List.mem_map_of_mem (f := (·.1)) h)]
      exact valW_mem h2 h
theorem putKW_new {kw : List (κ × W)} {k : κ} {v : W} (h : k ∉ kw.map (·.1)) : putKW kw k v = kw ++ [(k, v)] := by
  unfold putKW
  rw [if_neg]
  intro z
  obtain ⟨p, hp, e⟩ := List.any_eq_true.mp z
  exact h (by rw [← of_decide_eq_true e]; exact List.mem_map_of_mem (f := (·.1)) hp)
end
section
variable {K : PySem.W.Frag} {F H : Hp} {M : Mem}
theorem RW.key {v : V} {j : L2.Key} (h : RW K F v (kW j)) : v = kV j := by
  cases j with
  | inl i => exact h.int
  | inr s => exact h.str
section
variable {κ : Type} [DecidableEq κ]
theorem PrR.nil : PrR K F ([] : List (κ × V)) [] := ⟨rfl, .nil⟩
theorem PrR.cons {p : κ × V} {q : κ × W} {kv : List (κ × V)} {kw : List (κ × W)} (h1 : p.1 = q.1) (h2 : RW K F p.2 q.2) (h3 : PrR K F kv kw) : PrR K F (p :: kv) (q :: kw) :=
  ⟨by rw [List.map_cons, List.map_cons, h1, h3.1], .cons h2 h3.2⟩
theorem PrR.rec2 {C : List (κ × V) → List (κ × W) → Prop} (h0 : C [] []) (hc : ∀ p q kv kw, p.1 = q.1 → RW K F p.2 q.2 → PrR K F kv kw → C kv kw → C (p :: kv) (q :: kw)) : ∀ {kv : List (κ × V)} {kw : List (κ × W)}, PrR K F kv kw → C kv kw
  | [], [], _ => h0
  | [], _ :: _, h => by have := h.1; simp at this
  | _ :: _, [], h => by have := h.1; simp at this
  | p :: kv, q :: kw, h => by
    obtain ⟨h1, h2⟩ := h
    simp only [List.map_cons, List.cons.injEq] at h1
    cases h2 with
    | cons r1 r2 => exact hc p q kv kw h1.1 r1 ⟨h1.2, r2⟩ (PrR.rec2 h0 hc ⟨h1.2, r2⟩)
theorem prR_val {kv : List (κ × V)} {kw : List (κ × W)} (h : PrR K F kv kw) (k : κ) : (∀ w, valW kw k = some w → ∃ v, valV kv k = some v ∧ RW K F v w) ∧ (valW kw k = none → valV kv k = none) := by
  refine PrR.rec2 (C := fun kv kw => (∀ w, valW kw k = some w → ∃ v, valV kv k = some v ∧ RW K F v w) ∧ (valW kw k = none → valV kv k = none)) ⟨fun w e => (by cases e), fun _ => rfl⟩ (fun p q kv kw e r _ ih => ?_) h
  rw [valW_cons]
  by_cases c : q.1 = k
  · rw [if_pos c, valV_pos (e.trans c)]
    exact ⟨fun w z => (by cases z; exact ⟨_, rfl, r⟩), fun z => (by cases z)⟩
  · rw [if_neg c, valV_neg fun z => c (e.symm.trans z)]
    exact ih
theorem prR_any {kv : List (κ × V)} {kw : List (κ × W)} (h : PrR K F kv kw) (k : κ) : (kv.any fun p => decide (p.1 = k)) = kw.any fun p => decide (p.1 = k) := by
  have e : ∀ {α : Type} (l : List (κ × α)), (l.any fun p => decide (p.1 = k)) = (l.map (·.1)).any fun x => decide (x = k) := fun l => by rw [List.any_map]; rfl
  rw [e, e, h.1]
theorem PrR.app {a c : List (κ × V)} {b d : List (κ × W)} (h : PrR K F a b) (g : PrR K F c d) : PrR K F (a ++ c) (b ++ d) :=
  ⟨by rw [List.map_append, List.map_append, h.1, g.1], by rw [List.map_append, List.map_append]; exact h.2.app g.2⟩
theorem prR_putK {kv : List (κ × V)} {kw : List (κ × W)} {v : V} {w : W} (h : PrR K F kv kw) (r : RW K F v w) (k : κ) : PrR K F (putK kv k v) (putKW kw k w) := by
  unfold putK putKW
  rw [prR_any h k]
  by_cases c : (kw.any fun p => decide (p.1 = k)) = true
  · rw [if_pos c, if_pos c]
    refine PrR.rec2 (C := fun kv kw => PrR K F (kv.map fun p => if p.1 = k then (p.1, v) else p) (kw.map fun p => if p.1 = k then (p.1, w) else p)) .nil (fun p q kv kw e rr _ ih => ?_) h
    rw [List.map_cons, List.map_cons]
    by_cases c2 : q.1 = k
    · rw [if_pos c2, if_pos (e.trans c2)]
      exact .cons e r ih
    · rw [if_neg c2, if_neg fun z => c2 (e.symm.trans z)]
      exact .cons e rr ih
  · rw [if_neg c, if_neg c]
    exact h.app (.cons rfl r .nil)
theorem PrR.lenK {kv : List (κ × V)} {kw : List (κ × W)} (h : PrR K F kv kw) : kv.length = kw.length := by
  have := congrArg List.length h.1
  rwa [List.length_map, List.length_map] at this
theorem PrR.got {kv : List (κ × V)} {kw : List (κ × W)} (h : PrR K F kv kw) {i : Nat} {q : κ × W} (e : kw[i]? = some q) : ∃ v, kv[i]? = some (q.1, v) ∧ RW K F v q.2 := by
  have hi : i < kw.length := (List.getElem?_eq_some_iff.mp e).1
  have h1 : (kv.map (·.1))[i]? = (kw.map (·.1))[i]? := by rw [h.1]
  rw [List.getElem?_map, List.getElem?_map, e] at h1
  obtain ⟨p, hp, e2⟩ := Option.map_eq_some_iff.mp h1
  obtain ⟨v, hv, r⟩ := h.2.got (i := i) (x := q.2) (by rw [List.getElem?_map, e]; rfl)
  rw [List.getElem?_map, hp] at hv
  cases hv
  exact ⟨p.2, by rw [hp]; exact congrArg some (Prod.ext e2 rfl), r⟩
end
theorem Rl.dK (h : Rl K F H M) {a : Addr} {kw : List (L2.Key × W)} (e : M a = some (.dK kw)) : ∃ kv, H a = some (.dK kv) ∧ PrR K F kv kw := by
  obtain ⟨_, h1, kv, rfl, h2⟩ := h.at_ a _ e
  exact ⟨kv, h1, h2⟩
theorem Rl.lkK (h : Rl K F H M) {a : Addr} {ob : Obj} {kv : List (L2.Key × V)} {kw : List (L2.Key × W)} (e : M a = some (.lkK ob kv kw)) : H a = some (.frz ob (.dK kv)) ∧ PrR K F kv kw := by
  obtain ⟨_, h1, rfl, h2⟩ := h.at_ a _ e
  exact ⟨h1, h2⟩
end
section
variable {K : PySem.W.Frag} {Wx : WX} {RE : REx}
/-- {} -/
@[reducible] def newKT : TDE := fun _ M R => ∀ p, M p = none → R (.r p) (mset M p (.dK []))
theorem se_newK : SE K Wx RE tDNewK newKT := fun F H M σ ρ R Q hr hx hs ht k p hp => by
  obtain ⟨r1, g1⟩ := hr.born (u := .dK []) (o := .dK []) hp ⟨[], rfl, .nil⟩
  exact k _ _ _ _ _ r1 g1 (.r p) (ht p (hr.new hp))
/-- d[k] -/
@[reducible] def getK (O I : TDE) : TDE := fun ρ M R => O ρ M fun x M1 => I ρ M1 fun i M2 => gR x fun a => gK i fun k => ∃ kw, M2 a = some (.dK kw) ∧ gO (valW kw k) fun w => R w M2
theorem se_getK {td ty : TE} {O I : TDE} (h1 : SE K Wx RE td O) (h2 : SE K Wx RE ty I) : SE K Wx RE (tDGet td ty) (getK O I) := fun F H M σ ρ R Q hr hx hs ht k =>
  h1 F H M σ ρ _ _ hr hx hs ht fun v H1 F1 M1 x r1 g1 rx q1 => h2 F1 H1 M1 σ ρ _ _ r1 (hx.mono g1) (hs.mono g1.ff) q1 fun v2 H2 F2 M2 x2 r2 g2 rx2 q3 => by
    obtain ⟨a, rfl, q2⟩ := gR_of q3
    obtain ⟨j, rfl, kw, e, q4⟩ := gK_of q2
    obtain ⟨w, c, q5⟩ := gO_of q4
    obtain ⟨kv, e1, e2⟩ := r2.dK e
    obtain ⟨v3, e3, e4⟩ := (prR_val e2 j).1 w c
    refine ⟨a, v3, (rx.mono g2.ff).ref, by rw [rx2.key, ← e3]; exact DGet.k e1, k _ _ _ _ _ r2 (g1.trans g2) e4 q5⟩
/-- k in d -/
@[reducible] def inK (neg : Bool) (I O : TDE) : TDE := fun ρ M R => I ρ M fun i M1 => O ρ M1 fun x M2 => gR x fun a => gK i fun k => ∃ kw, M2 a = some (.dK kw) ∧ R (.d (.bool (ng neg (valW kw k).isSome))) M2
theorem prR_some {F : Hp} {kv : List (L2.Key × V)} {kw : List (L2.Key × W)} (h : PrR K F kv kw) (j : L2.Key) : (valV kv j).isSome = (valW kw j).isSome := by
  obtain ⟨p1, p2⟩ := prR_val h j
  cases c : valW kw j with
  | none => rw [p2 c]; rfl
  | some w =>
    obtain ⟨v3, e3, _⟩ := p1 w c
    rw [e3]
    rfl
theorem se_inK {td ty : TE} {O I : TDE} (h2 : SE K Wx RE ty I) (h1 : SE K Wx RE td O) : SE K Wx RE (tDIn ty td) (inK false I O) := fun F H M σ ρ R Q hr hx hs ht k =>
  h2 F H M σ ρ _ _ hr hx hs ht fun v H1 F1 M1 x r1 g1 rx q1 => h1 F1 H1 M1 σ ρ _ _ r1 (hx.mono g1) (hs.mono g1.ff) q1 fun v2 H2 F2 M2 x2 r2 g2 rx2 q3 => by
    obtain ⟨a, rfl, q2⟩ := gR_of q3
    obtain ⟨j, rfl, kw, e, q4⟩ := gK_of q2
    obtain ⟨kv, e1, e2⟩ := r2.dK e
    refine ⟨a, valV kv j, rx2.ref, by rw [(rx.mono g2.ff).key]; exact DGet.k e1, ?_⟩
    rw [prR_some e2 j]
    exact k _ _ _ _ _ r2 (g1.trans g2) (.d (.bl _)) q4
/-! ### walked -/
end
end Tl
set_option Elab.async false
set_option linter.all false
set_option maxRecDepth 100000
set_option maxHeartbeats 4000000
/-! Objects of own classes, as gen2 writes them: methods, makers, try .. finally, a suite that is never run. -/
namespace Tl
open PySem PySem.Spec PyProof.Rows L2
/-- a method that raises nothing -/
structure UseM (P : Program) (w : World) (K : PySem.W.Frag) (mg : Str → Option Value) (base : Heap) (C : Addr) (x : Str) (ps : List Str) (k : Nat) (sp : Sp) where
  f : Addr
  fd : FuncData
  ok : FnOk P w K mg base CX0 k f fd ps sp
  hm : L2.Meth K C x f
  b : Binds K fd ps []
/-- a method that may raise -/
structure UseMX (P : Program) (w : World) (K : PySem.W.Frag) (mg : Str → Option Value) (base : Heap) (C : Addr) (x : Str) (ps : List Str) (k : Nat) (sp : Sp) where
  f : Addr
  fd : FuncData
  ok : FnOk P w K mg base (L2.CX P w) k f fd ps sp
  hm : L2.Meth K C x f
  b : Binds K fd ps []
/-- a class that is called; its __init__ may raise -/
structure UseC (P : Program) (w : World) (K : PySem.W.Frag) (mg : Str → Option Value) (base : Heap) (C : Addr) (x : Str) (ps : List Str) (k : Nat) (sp : Sp) where
  f : Addr
  fd : FuncData
  ok : FnOk P w K mg base (L2.CX P w) k f fd ps sp
  made : L2.Mk K C f
  m : mg x = some (.ref C)
  b : Binds K fd ps []
section
variable {X : Cx} {CX : CXT} {k : Nat} {f C : Addr} {fd : FuncData} {ps : List Str} {sp : Sp} {E : L2.St → XK} {x m : Str} {p pos apos : Pos} {e o : Expr} {es : List Expr} {ta : TE} {t : TA}
theorem run_makeS {pins : List (Addr × Obj)} {σ : L2.St} {H : Hp} {s : Shared} {Q : VK} {us : List Value} {vs : List V} (M : L2.Mk X.K C f) (F : FnOk X.prog X.w X.K X.mg X.base CX k f fd ps sp) (hr : Room (k + 1) X.A) (hb : Binds X.K fd ps []) (hx : PassesAt CX X σ (E σ)) (I : Inv X pins σ H s) (r : Vals vs us)
    (h : ∀ x dx, H x = none → H dx = none → dx ≠ x → sp (.ref x :: vs) (upd (upd H dx (.own x)) x (.ins C dx [])) (fun v H2 => v = .non ∧ Q (.ref x) H2) (E σ)) :
    wpAny (model X.prog X.w) X.A (call (.ref C) us) (EP X pins σ Q) X.xe s := by
  have hq := h (s.heap.objs.size + 1) s.heap.objs.size (I.hok.fresh (Nat.le_succ _)) (I.hok.fresh (Nat.le_refl _)) (Nat.ne_of_lt (Nat.lt_succ_self _))
  have I2 := Inv.made (C := C) I
  have r2 : Vals (V.ref (s.heap.objs.size + 1) :: vs) (Value.ref (s.heap.objs.size + 1) :: us) := .cons rfl r
  have hl : (Value.ref (s.heap.objs.size + 1) :: us).length = ps.length := by rw [← r2.length]; exact F.len _ _ _ _ hq
  have bd := hb _ (Value.ref (s.heap.objs.size + 1) :: us) I2.kIn (by rw [List.append_nil]; exact hl)
  rw [List.append_nil] at bd
  refine wpAny_call (make_map (f := f) I.kIn M.makes M.init (beq_iff_eq.mp M.fn) (codeAny_mono (F.run _ X.stack _ _ ⟨Value.ref (s.heap.objs.size + 1) :: us, []⟩ (Value.ref (s.heap.objs.size + 1) :: us) _ _ (E σ) (hr.make C us []) (I2.env0.make C us []) bd r2 hq) fun r s' hq' => ?_))
  cases r with
  | error e => exact hx pins _ _ e s' I2 hq'
  | ok fl =>
    cases fl with
    | ret u =>
      obtain ⟨v, H', I3, rv, ev, q3⟩ := I2.after hq'
      subst ev
      exact ⟨rv, ⟨V.ref (s.heap.objs.size + 1), H', I3, rfl, q3⟩⟩
    | next => exact False.elim hq'
    | brk => exact False.elim hq'
    | cont => exact False.elim hq'
theorem pe_makeE (M : L2.Mk X.K C f) (F : FnOk X.prog X.w X.K X.mg X.base CX k f fd ps sp) (hr : Room (k + 1) X.A) (hg : Gl X x) (hm : X.mg x = some (.ref C)) (hb : Binds X.K fd ps []) (hx : ∀ σ, PassesAt CX X σ (E σ))
    (ha : PA X (e :: es) t) (hdb : (x == ("__debug__" : Str)) = false := by decide) (he : starEach (e :: es) X.env = (false, eval e X.env) :: starEach es X.env := by rfl) (hpl : (backTo pos (starEach es X.env)).any (·.1) = false := by rfl) :
    PE X (.Call (.Name x p) (e :: es) [] pos) (tMakeS C sp E t) := by
  refine ⟨fun pins s σ H Q I h => ?_⟩
  refine wpAny_Call_Name_kw (ld_glob I hg hm ?_ hdb)
  refine PySem.W.callWith_K (h₀ := X.base) I.ok.mod.kin M.kp (thn (ha.run pos pins s σ H _ I h) fun us s1 ⟨vs, H1, I1, r, q⟩ => ⟨I1.kIn, ?_⟩) he hpl
  exact run_makeS M F hr hb (hx σ) I1 r q
end
/-! ### try .. finally of a suite that raises nothing and goes on behind -/
/-! ### a def that errors may leave; what is left over in the memory is dropped both ways -/
def laxX (RX : Ex → Mem → Prop) : Ex → Mem → Prop := fun x M => ∃ M0, (∀ a o, M0 a = some o → M a = some o) ∧ RX x M0
section
variable {P : Program} {w : World} {K : PySem.W.Frag} {mg : Str → Option Value} {base : Heap}
theorem okDXLL {f : Addr} {fd : FuncData} {k n : Nat} {x qual : Str} {st : Stmt} {N ps : List Str} {tf : TF} (F : Fun K x qual st f fd) (S : FnScope N ps (defScope st)) (hp : ps.length = n)
    (hb : ∀ (cdv : Value) (A : Around) (outer : List Env) (s : Shared) (H : Hp) (E : XK), Room k (A.deeper (PyProof.Rows.envOfC qual (defScope st) s.heap.objs.size f cdv)) →
      ∃ (t : TS) (T : REx → TDS), PSs (cxOf (L2.CX P w) P w K mg base N qual (defScope st) f cdv A outer s H E) (defBody st) t ∧ (∀ RE, SSt K (fun cls d _ H => E cls d H) RE t (T RE)) ∧
        ∀ ws M R RX, ws.length = n → tf ws M R RX → T (fun x _ M => laxX RX x M) (endD (lax R)) (start0 N.length ws) M) : FnOk P w K mg base (L2.CX P w) (k + 1) f fd ps (spD K n tf) := by
  refine F.okX S (fun vs H Q E h => ?_) (fun cdv A outer s H vs Q E hr h => ?_)
  · obtain ⟨F0, M, ws, R, RX, r, rs, hl, _⟩ := h
    rw [rs.len, hl, hp]
  · obtain ⟨F0, M, ws, R, RX, r, rs, hl, hf, hk, hx⟩ := h
    obtain ⟨t, T, h1, h2, h3⟩ := hb cdv A outer s H E hr
    refine ⟨t, h1, h2 (fun x _ M => laxX RX x M) F0 H M _ _ _ _ r (fun F' H' M' σ ρ cls d x g r' _ xr ⟨M0, e, z⟩ => hx cls d H' F' M0 x (r'.less e) ⟨g.ff, fun b u h1 h2 => ⟨(g.un b u h1 h2).1, none_less e (g.un b u h1 h2).2⟩, g.nf⟩ xr z) (rel_start rs) (h3 ws M R RX hl hf) (ek_def (kt_lax hk))⟩
end
/-! ### a statement that is never reached -/
theorem ps_never {X : Cx} {s : Stmt} : PS X s (fun _ _ _ => False) := ⟨fun _ _ _ _ _ _ h => h.elim⟩
def neverS : TDS := fun _ _ _ => False
section
variable {K : PySem.W.Frag} {Wx : WX} {RE : REx}
theorem ss_never : SSt K Wx RE (fun _ _ _ => False) neverS := fun _ _ _ _ _ _ _ _ _ _ h => h.elim
end
end Tl
set_option Elab.async false
set_option linter.all false
set_option maxRecDepth 100000
set_option maxHeartbeats 4000000
/-! Several except clauses, each with the same name behind 'as'. -/
set_option Elab.async false
set_option linter.all false
set_option maxRecDepth 100000
set_option maxHeartbeats 4000000
set_option Elab.async false
set_option linter.all false
set_option maxRecDepth 100000
set_option maxHeartbeats 4000000
/-! Own ==, != and len. -/
namespace Tl
open PySem PySem.Spec PyProof.Rows L2
/-- what of a class with an own == must stand -/
structure EqC (K : PySem.W.Frag) (C f : Addr) : Prop where
  at_ : PySem.W.findIn K (.ref C) "__eq__" = some (some (.ref f))
  fn : PySem.W.isFn K (.ref f) = true
  ne : PySem.W.findIn K (.ref C) "__ne__" = some (some (.builtin "object.__ne__"))
  ob : PySem.W.mroIn K C (.type "object") = some true
end Tl
set_option Elab.async false
set_option linter.all false
set_option maxRecDepth 100000
set_option maxHeartbeats 4000000
/-! Except clauses with and without a name; what is read of own classes; try .. finally. -/
namespace Tl
open PySem PySem.Spec PyProof.Rows L2
variable {K : PySem.W.Frag} {Wx Wout : WX} {RE : REx}
/-! ### try .. finally -/
/-! ### what is read of own classes -/
/-- what must be known of a class for isinstance and == -/
structure OwnC (K : PySem.W.Frag) (C f : Addr) : Prop where
  cls : L2.Cls K C
  eq : EqC K C f
  ha : PySem.W.findIn K (.ref C) "__class__" = some (some (.builtin "object.__class__"))
  hn : PySem.W.specialIn K (.builtin "object.__class__") "__get__" = some (some (.builtin "getset_descriptor.__get__"))
  htk : PySem.W.takesIn K (.builtin "object.__class__") = some true
  self : PySem.W.kitOne K (.ref C) (.ref C) = some true
  data : ∀ d : PyData, PySem.W.kitOne K (.type (tyName d)) (.ref C) = some false ∧ PySem.W.notFirst K C (.type (tyName d)) = true
section
variable {K : PySem.W.Frag} {C f : Addr}
theorem OwnC.ty (O : OwnC K C f) {H : Hp} {a dx : Addr} {fs : List (Str × V)} (h : H a = some (.ins C dx fs)) : TyX K H (.ref a) (.ref C) := .base (.ins h O.cls O.ha O.hn O.htk O.eq.ob)
end
end Tl
set_option Elab.async false
set_option linter.all false
set_option maxRecDepth 100000
set_option maxHeartbeats 4000000
/-! Dicts keyed by tuples of numbers: {}, d[k], d[k] = v, k in d. -/
namespace Tl
open PySem PySem.Spec PyProof.Rows L2
/-! ### as the hand layer asks -/
structure IsU (K : PySem.W.Frag) (H : Hp) (x : V) (a : Addr) (xs : List DU1) : Prop where
  e : x = .ref a
  h : H a = some (DU a xs)
  k : KeysU K H a xs
structure IsK (K : PySem.W.Frag) (H : Hp) (y : V) (b : Addr) (k : NestedKey) : Prop where
  e : y = .ref b
  h : KeyV K H (.ref b) k
  d : k.depth ≤ 8
def tUGet (K : PySem.W.Frag) (td ty : TE) : TE := fun σ H Q => td σ H fun x H1 => ty σ H1 fun y H2 => ∃ a b xs k v, IsU K H2 x a xs ∧ IsK K H2 y b k ∧ findU xs k = some v ∧ Q v H2
def rNotInU (K : PySem.W.Frag) : R2 := fun y x H Q => ∃ a b xs k, IsU K H x a xs ∧ IsK K H y b k ∧ Q (.bl (!(findU xs k).isSome)) H
def rSetU (K : PySem.W.Frag) : V → V → V → Hp → (Hp → Prop) → Prop := fun o i v H Q => ∃ a b xs k, IsU K H o a xs ∧ IsK K H i b k ∧ noTxt k = true ∧ xs.length < sizeLine ∧ Q (upd H a (DU a (putU xs k b v)))
def tUNew : TE := fun _ H Q => ∀ p, H p = none → (p == sysModules) = false → Q (.ref p) (upd H p (DU p []))
section
variable {X : Cx} {o i : Expr} {pos : Pos} {td ty : TE}
theorem pe_unew : PE X (.Dict [] [] pos) tUNew := ⟨fun pins s σ H Q I h =>
  wpAny_Dict_empty ⟨.ref s.heap.objs.size, _, I.laid (a := s.heap.objs.size) (o := DU s.heap.objs.size []) (t' := s.toks) (fun _ _ q => Heap.get?_push_of_some _ q) (Nat.le_refl _) (du_empty s.heap), rfl, h _ (I.hok.fresh (Nat.le_refl _)) (beq_eq_false_iff_ne.mpr (Ne.symm (Nat.ne_of_lt I.big)))⟩⟩
theorem pe_uget (hu : X.A.units + 20 < cLine) (ho : PE X o td) (hi : PE X i ty) (hs : NoSl i) : PE X (.Subscript o i pos) (tUGet X.K td ty) := by
  refine ⟨fun pins s σ H Q I h => ?_⟩
  refine subD_of PySem.F.slot_dict_getitem.lookup hs (thn (ho.run pins s σ H _ I h) fun u s1 ⟨x, H1, I1, rx, q1⟩ => thn (hi.run pins s1 σ H1 _ I1 q1) fun iv s2 ⟨y, H2, I2, ry, a, b, xs, k, v, ⟨ex, ea, eu⟩, ⟨ey, ek, ed⟩, hf, q2⟩ => ?_)
  subst ex ey
  obtain rfl : u = Value.ref a := rx
  obtain rfl : iv = Value.ref b := ry
  obtain ⟨ys, _, dd, _⟩ := DU_of I2 ea eu
  exact ⟨dd.typeIs, u_getItem hu I2 ea eu ek ed hf fun w' s3 I3 rw' => ⟨v, H2, I3, rw', q2⟩⟩
theorem op_notInU (hu : X.A.units + 20 < cLine) : OpR X (compareOp .NotIn) (rNotInU X.K) := by
  intro pins s σ H y x v u Q I ry rx h
  obtain ⟨a, b, xs, k, ⟨ex, ea, eu⟩, ⟨ey, ek, ed⟩, q⟩ := h
  subst ex ey
  obtain rfl : u = Value.ref a := rx
  obtain rfl : v = Value.ref b := ry
  exact u_notIn hu I ea eu ek ed fun s' I' => ⟨.bl _, H, I', rfl, q⟩
theorem set_U (hu : X.A.units + 20 < cLine) : PSet X (rSetU X.K) := by
  intro pins s σ H o i v ov iv u Q I ro ri rv h
  obtain ⟨a, b, xs, k, ⟨ex, ea, eu⟩, ⟨ey, ek, ed⟩, hn, hz, q⟩ := h
  subst ex ey
  obtain rfl : ov = Value.ref a := ro
  obtain rfl : iv = Value.ref b := ri
  exact u_setItem hu I ea eu ek ed hn hz rv fun s' I' => ⟨_, I', q⟩
end
/-! ### as memory tells -/
def valU (kw : List (PyData × W)) (k : PyData) : Option W := (kw.find? fun x => decide (keyN x.1 = keyN k)).map (·.2)
def putW2 (kw : List (PyData × W)) (k : PyData) (w : W) : List (PyData × W) := if (valU kw k).isSome then kw.map (fun x => if keyN x.1 = keyN k then (x.1, w) else x) else kw ++ [(k, w)]
section
variable {K : PySem.W.Frag} {F H : Hp} {M : Mem}
theorem Rl.dT (h : Rl K F H M) {a : Addr} {kw : List (PyData × W)} (e : M a = some (.dT kw)) : ∃ xs, IsU K H (.ref a) a xs ∧ KeysU K F a xs ∧ xs.map (·.1) = kw.map (fun x => keyN x.1) ∧ (∀ x ∈ kw, keyOk x.1 = true) ∧ RWs K F (xs.map (·.2.2)) (kw.map (·.2)) := by
  obtain ⟨_, h1, xs, rfl, h2, h3, h4, h5⟩ := h.at_ a _ e
  exact ⟨xs, ⟨rfl, h1, h2.mono h.fh⟩, h2, h3, h4, h5⟩
theorem find_U {F : Hp} : ∀ {xs : List DU1} {kw : List (PyData × W)} (k : PyData), xs.map (·.1) = kw.map (fun x => keyN x.1) → RWs K F (xs.map (·.2.2)) (kw.map (·.2)) → (∀ w, valU kw k = some w → ∃ v, findU xs (keyN k) = some v ∧ RW K F v w) ∧ (valU kw k = none → findU xs (keyN k) = none)
  | [], [], k, _, _ => ⟨fun w h => (by simp [valU] at h), fun _ => rfl⟩
  | [], _ :: _, _, h, _ => by simp at h
  | _ :: _, [], _, h, _ => by simp at h
  | (kx, ax, vx) :: xs, (d, w) :: kw, k, h, r => by
    rw [List.map_cons, List.map_cons] at h r
    injection h with h1 h2
    simp only at h1
    cases r with
    | cons r1 r2 =>
      obtain ⟨i1, i2⟩ := find_U k h2 r2
      unfold valU findU at i1 i2 ⊢
      by_cases e : keyN d = keyN k
      · rw [List.find?_cons_of_pos (by simpa using e), List.find?_cons_of_pos (by simp only [decide_eq_true_eq]; exact h1.trans e)]
        exact ⟨fun w' hw => (by cases hw; exact ⟨vx, rfl, r1⟩), fun z => nomatch z⟩
      · rw [List.find?_cons_of_neg (by simpa using e), List.find?_cons_of_neg (by simp only [decide_eq_true_eq]; exact fun z => e (h1.symm.trans z))]
        exact ⟨i1, i2⟩
theorem some_U {F : Hp} {xs : List DU1} {kw : List (PyData × W)} (k : PyData) (h : xs.map (·.1) = kw.map (fun x => keyN x.1)) (r : RWs K F (xs.map (·.2.2)) (kw.map (·.2))) : (findU xs (keyN k)).isSome = (valU kw k).isSome := by
  obtain ⟨i1, i2⟩ := find_U k h r
  cases c : valU kw k with
  | none => rw [i2 c]; rfl
  | some w =>
    obtain ⟨v, e, _⟩ := i1 w c
    rw [e]
    rfl
theorem put_U {F : Hp} {xs : List DU1} {kw : List (PyData × W)} {k : PyData} {b : Addr} {v : V} {w : W} (h : xs.map (·.1) = kw.map (fun x => keyN x.1)) (r : RWs K F (xs.map (·.2.2)) (kw.map (·.2))) (rv : RW K F v w) :
    (putU xs (keyN k) b v).map (·.1) = (putW2 kw k w).map (fun x => keyN x.1) ∧ RWs K F ((putU xs (keyN k) b v).map (·.2.2)) ((putW2 kw k w).map (·.2)) := by
  have e := some_U k h r
  unfold putU putW2
  rw [e]
  split
  · rename_i hc
    clear hc e
    induction xs generalizing kw with
    | nil => cases kw with
      | nil => exact ⟨rfl, .nil⟩
      | cons y kw => simp at h
    | cons x xs ih => cases kw with
      | nil => simp at h
      | cons y kw =>
        obtain ⟨kx, ax, vx⟩ := x
        obtain ⟨d, w'⟩ := y
        rw [List.map_cons, List.map_cons] at h r
        injection h with h1 h2
        simp only at h1
        cases r with
        | cons r1 r2 =>
          obtain ⟨j1, j2⟩ := ih h2 r2
          subst h1
          simp only [List.map_cons]
          by_cases c : keyN d = keyN k
          · rw [if_pos c, if_pos c]
            exact ⟨by rw [j1], .cons rv j2⟩
          · rw [if_neg c, if_neg c]
            exact ⟨by rw [j1], .cons r1 j2⟩
  · rename_i hc
    clear hc e
    rw [List.map_append, List.map_append, List.map_append, List.map_append, h]
    refine ⟨rfl, ?_⟩
    generalize xs.map (·.2.2) = us at r
    generalize kw.map (·.2) = ws at r
    induction r with
    | nil => exact .cons rv .nil
    | cons a b ih => exact .cons a ih
theorem keys_put {F : Hp} {a : Addr} {xs : List DU1} {k : NestedKey} {b : Addr} {v : V} (h : KeysU K F a xs) (hk : KeyV K F (.ref b) k) (hd : k.depth ≤ 8) (hn : noTxt k = true) (hz : xs.length < sizeLine) : KeysU K F a (putU xs k b v) := by
  unfold putU
  split
  · refine ⟨h.sm, by rw [List.length_map]; exact h.sz, ?_, fun x hx => ?_⟩
    · have e : (xs.map fun x => if x.1 = k then (x.1, x.2.1, v) else x).map (·.1) = xs.map (·.1) := by
        rw [List.map_map]
        refine List.map_congr_left fun x _ => ?_
        show (if x.1 = k then (x.1, x.2.1, v) else x).1 = x.1
        split <;> rfl
      rw [e]
      exact h.nd
    · obtain ⟨y, hy, rfl⟩ := List.mem_map.mp hx
      have := h.ks y hy
      split
      · exact this
      · exact this
  · rename_i c
    refine ⟨h.sm, by rw [List.length_append]; exact hz, ?_, fun x hx => ?_⟩
    · rw [List.map_append, List.nodup_append]
      refine ⟨h.nd, by simp, fun x hx y hy e => ?_⟩
      simp only [List.map_cons, List.map_nil, List.mem_singleton] at hy
      subst hy
      subst e
      obtain ⟨z, hz, rfl⟩ := List.mem_map.mp hx
      refine c ?_
      unfold findU
      rw [Option.isSome_map]
      exact List.find?_isSome.mpr ⟨z, hz, by simp⟩
    · rcases List.mem_append.mp hx with hx | hx
      · exact h.ks x hx
      · rw [List.mem_singleton.mp hx]
        exact ⟨hk, hd, hn⟩
theorem ok_put {kw : List (PyData × W)} {k : PyData} {w : W} (h : ∀ x ∈ kw, keyOk x.1 = true) (hk : keyOk k = true) : ∀ x ∈ putW2 kw k w, keyOk x.1 = true := by
  unfold putW2
  intro x hx
  split at hx
  · obtain ⟨y, hy, rfl⟩ := List.mem_map.mp hx
    split
    · exact h y hy
    · exact h y hy
  · rcases List.mem_append.mp hx with hx | hx
    · exact h x hx
    · rw [List.mem_singleton.mp hx]; exact hk
end
/-- a key that is asked for -/
@[reducible] def gU (x : W) (k : PyData → Prop) : Prop := gT x fun ds => (keyOk (.tuple ds) = true ∧ (PyData.tuple ds).depth ≤ 8) ∧ k (.tuple ds)
section
variable {K : PySem.W.Frag} {Wx : WX} {RE : REx}
theorem gU_of {F H : Hp} {M : Mem} {v : V} {x : W} {k : PyData → Prop} (hr : Rl K F H M) (r : RW K F v x) (h : gU x k) : ∃ d b, x = .d d ∧ v = .ref b ∧ IsK K H v b (keyN d) ∧ KeyV K F (.ref b) (keyN d) ∧ (keyN d).depth ≤ 8 ∧ keyOk d = true ∧ k d := by
  obtain ⟨ds, rfl, ⟨h1, h2⟩, h3⟩ := gT_of h
  obtain ⟨b, xs, rfl, q1, q2⟩ := r.tup
  have kv := keyV_of (.tuple ds) _ (Dx.tup q1 q2) h1
  have kd := Nat.le_trans (keyN_depth (.tuple ds)) h2
  exact ⟨.tuple ds, b, rfl, rfl, ⟨rfl, KeyV.mono hr.fh _ _ kv, kd⟩, kv, kd, h1, h3⟩
/-- {} -/
@[reducible] def newUT : TDE := fun _ M R => ∀ p, M p = none → R (.r p) (mset M p (.dT []))
theorem se_newU : SE K Wx RE tUNew newUT := fun F H M σ ρ R Q hr hx hs ht k p hp hsm => by
  obtain ⟨r1, g1⟩ := hr.born (u := DU p []) (o := .dT []) hp ⟨[], rfl, ⟨hsm, Nat.zero_le _, List.nodup_nil, fun x hx => (by cases hx)⟩, rfl, (fun x hx => by cases hx), .nil⟩
  exact k _ _ _ _ _ r1 g1 (.r p) (ht p (hr.new hp))
/-- d[k] -/
@[reducible] def getU (O I : TDE) : TDE := fun ρ M R => O ρ M fun x M1 => I ρ M1 fun i M2 => gR x fun a => gU i fun k => ∃ kw, M2 a = some (.dT kw) ∧ gO (valU kw k) fun w => R w M2
theorem se_getU {td ty : TE} {O I : TDE} (h1 : SE K Wx RE td O) (h2 : SE K Wx RE ty I) : SE K Wx RE (tUGet K td ty) (getU O I) := fun F H M σ ρ R Q hr hx hs ht k =>
  h1 F H M σ ρ _ _ hr hx hs ht fun v H1 F1 M1 x r1 g1 rx q1 => h2 F1 H1 M1 σ ρ _ _ r1 (hx.mono g1) (hs.mono g1.ff) q1 fun v2 H2 F2 M2 x2 r2 g2 rx2 q3 => by
    obtain ⟨a, rfl, q2⟩ := gR_of q3
    obtain ⟨d, b, rfl, rfl, ik, _, _, _, kw, e, q4⟩ := gU_of r2 rx2 q2
    obtain ⟨w, c, q5⟩ := gO_of q4
    obtain ⟨xs, iu, _, e1, _, e2⟩ := r2.dT e
    obtain ⟨v3, e3, e4⟩ := (find_U d e1 e2).1 w c
    rw [(rx.mono g2.ff).ref]
    exact ⟨a, b, xs, keyN d, v3, iu, ik, e3, k _ _ _ _ _ r2 (g1.trans g2) e4 q5⟩
/-- k in d -/
@[reducible] def fInU (neg : Bool) : F2 := fun i x M R => gR x fun a => gU i fun k => ∃ kw, M a = some (.dT kw) ∧ R (.d (.bool (ng neg (valU kw k).isSome))) M
theorem so_ninU : SO K (rNotInU K) (fInU true) := fun F H M v u x y R Q hr rx ry hf k => by
  obtain ⟨a, rfl, q2⟩ := gR_of hf
  obtain ⟨d, b, rfl, rfl, ik, _, _, _, kw, e, q4⟩ := gU_of hr rx q2
  obtain ⟨xs, iu, _, e1, _, e2⟩ := hr.dT e
  rw [ry.ref]
  refine ⟨a, b, xs, keyN d, iu, ik, ?_⟩
  rw [some_U d e1 e2]
  exact k _ H F M _ hr .refl (.d (.bl _)) q4
/-- d[k] = v -/
@[reducible] def setU (T O I : TDE) : TDS := fun D ρ M => T ρ M fun y M1 => O ρ M1 fun x M2 => I ρ M2 fun i M3 => gR x fun a => gU i fun k => ∃ kw, M3 a = some (.dT kw) ∧ kw.length < sizeLine ∧ D.nx ρ (mset M3 a (.dT (putW2 kw k y)))
theorem ss_setU {t to ti : TE} {T O I : TDE} (h1 : SE K Wx RE t T) (h2 : SE K Wx RE to O) (h3 : SE K Wx RE ti I) : SSt K Wx RE (tAsg t (gSub to ti (rSetU K))) (setU T O I) := fun F H M σ ρ D E hr hx hs ht k =>
  h1 F H M σ ρ _ _ hr hx hs ht fun v H1 F1 M1 x r1 g1 rx q1 => h2 F1 H1 M1 σ ρ _ _ r1 (hx.mono g1) (hs.mono g1.ff) q1 fun v2 H2 F2 M2 x2 r2 g2 rx2 q2 =>
    h3 F2 H2 M2 σ ρ _ _ r2 (hx.mono (g1.trans g2)) (hs.mono (g1.trans g2).ff) q2 fun v3 H3 F3 M3 x3 r3 g3 rx3 q3 => by
      obtain ⟨a, rfl, q4⟩ := gR_of q3
      obtain ⟨d, b, rfl, rfl, ik, kv, kd, ko, kw, e, hl, q5⟩ := gU_of r3 rx3 q4
      obtain ⟨xs, iu, ku, e1, e3, e2⟩ := r3.dT e
      have hn := keyN_noTxt d ko
      have hz : xs.length < sizeLine := by
        have := congrArg List.length e1
        rw [List.length_map, List.length_map] at this
        omega
      have rv := rx.mono (g2.trans g3).ff
      obtain ⟨p1, p2⟩ := put_U (k := d) (b := b) e1 e2 rv
      obtain ⟨r4, g4⟩ := r3.put (u := DU a (putU xs (keyN d) b v)) (o := .dT (putW2 kw d x)) e ⟨_, rfl, keys_put ku kv kd hn hz, p1, ok_put e3 ko, p2⟩
      have g := ((g1.trans g2).trans g3).trans g4
      have e4 := (rx2.mono g3.ff).ref
      rw [e4]
      exact ⟨a, b, xs, keyN d, iu, ik, hn, hz, k.nx σ _ _ _ ρ r4 g (hs.mono g.ff) q5⟩
end
end Tl
set_option Elab.async false
set_option linter.all false
set_option maxRecDepth 100000
set_option maxHeartbeats 4000000
/-! dict(xs), xs a list of pairs (tuple of numbers, value). -/
namespace Tl
open PySem PySem.Spec PyProof.Rows L2
/-! ### as memory tells -/
theorem hu20 {k : Nat} {A : Around} (hr : Room k A) : A.units + 20 < cLine := by have := hr.un; omega
theorem hu65 {k : Nat} {A : Around} (hr : Room k A) : A.units + 65 < cLine := by have := hr.un; omega
/-! ### xs.index(x), data -/
@[reducible] def idxD (T : TDE) (U : TDA) : TDE := fun ρ M R => T ρ M fun x M1 => gL x fun ds => U ρ M1 fun xs M2 => g1 xs fun y => gD y fun d =>
  ((SeqAt.shaped (.list ds) = true ∧ SeqAt.shaped d = true) ∧ (PyData.list ds).hasDict = false ∧ d.hasDict = false) ∧
  ∃ (j : Nat) (z : PyData), (ds[j]? = some z ∧ PyData.eqv z d = true ∧ ∀ (m : Nat) (z' : PyData), m < j → ds[m]? = some z' → PyData.eqv z' d = false) ∧ R (.d (.int (j : Nat))) M2
section
variable {K : PySem.W.Frag} {Wx : WX} {RE : REx}
theorem se_idxD {n : Nat} {to : TE} {T : TDE} {t : TA} {U : TDA} (h : SE K Wx RE to T) (g : SAn K Wx RE n t U) : SE K Wx RE (tBM K "list" (rIndexD K) to t) (idxD T U) := fun F H M σ ρ R Q hr hx hs ht k =>
  h F H M σ ρ _ _ hr hx hs ht fun v H1 F1 M1 x r1 g1 rx q1 => by
    obtain ⟨ds, rfl, q2⟩ := gL_of q1
    obtain ⟨p, vs, rfl, e1, e2⟩ := rx.lst
    refine ⟨.inl ⟨rfl, _, SqL.of (r1.fh _ _ e1)⟩, g F1 H1 M1 σ ρ _ _ r1 (hx.mono g1) (hs.mono g1.ff) q2 fun us H2 F2 M2 xs r2 g2 rxs hl q3 => ?_⟩
    obtain ⟨y, rfl, q4⟩ := g1_of q3
    obtain ⟨u, rfl, ru⟩ := rxs.one
    obtain ⟨d, rfl, ⟨⟨s1, s2⟩, d1, d2⟩, j, z, ⟨j1, j2, j3⟩, q5⟩ := gD_of q4
    exact ⟨p, u, d, ds, j, z, rfl, rfl, Dx.dp _ _ (Dx.mono r2.fh _ _ (rx.mono g2.ff).dx) d1, Dx.dp _ _ (Dx.mono r2.fh _ _ ru.dx) d2, s1, s2, j1, j2, j3, k _ H2 F2 M2 _ r2 (g1.trans g2) (.d (.int _)) q5⟩
end
/-! ### ord(x) -/
end Tl
set_option Elab.async false
set_option linter.all false
set_option maxRecDepth 100000
set_option maxHeartbeats 4000000
/-! len of a dict keyed by tuples. -/
set_option Elab.async false
set_option linter.all false
set_option maxRecDepth 100000
set_option maxHeartbeats 4000000
/-! d.setdefault(k, x), d keyed by tuples. -/
set_option Elab.async false
set_option linter.all false
set_option maxRecDepth 100000
set_option maxHeartbeats 4000000
/-! list(d), d keyed by tuples of numbers: its keys, in order. -/
namespace Tl
open PySem PySem.Spec PyProof.Rows L2
mutual
theorem keyV_dx {K : PySem.W.Frag} {F : Hp} : ∀ {d : PyData} {v : V}, keyOk d = true → KeyV K F v (keyN d) → Dx K F v d
  | .int i, v, _, h => by
    rw [keyN] at h
    cases h
    exact .int i
  | .tuple ds, v, ho, h => by
    rw [keyN] at h
    rw [keyOk] at ho
    cases h with
    | tup hs hr => exact .tup hs (keyVs_dx ho hr)
  | .none, _, h, _ => by simp [keyOk] at h
  | .bool _, _, h, _ => by simp [keyOk] at h
  | .str _, _, h, _ => by simp [keyOk] at h
  | .list _, _, h, _ => by simp [keyOk] at h
  | .dict _, _, h, _ => by simp [keyOk] at h
theorem keyVs_dx {K : PySem.W.Frag} {F : Hp} : ∀ {ds : List PyData} {vs : List V}, keyOks ds = true → KeyVs K F vs (keyNs ds) → DxL K F vs ds
  | [], vs, _, h => by
    rw [keyNs] at h
    cases h
    exact .nil
  | d :: ds, vs, ho, h => by
    rw [keyNs] at h
    rw [keyOks, Bool.and_eq_true] at ho
    cases h with
    | cons a b => exact .cons (keyV_dx ho.1 a) (keyVs_dx ho.2 b)
end
def keysU (xs : List DU1) : List V := xs.map fun x => V.ref x.2.1
def rListU (K : PySem.W.Frag) : List V → Hp → VK → Prop := fun vs H Q => ∃ (v : V) (a : Addr) (xs : List DU1), vs = [v] ∧ IsU K H v a xs ∧ ∀ p, H p = none → Q (.ref p) (upd H p (.lst (keysU xs)))
theorem call_listU {X : Cx} (hc : X.calm = true) : CallR X (.type "list") (rListU X.K) := by
  intro pins s σ H vs us Q I r h
  obtain ⟨v, a, xs, rfl, ⟨rfl, ea, eu⟩, q⟩ := h
  obtain ⟨u, rfl, ru⟩ := vals1 r
  cases ru
  obtain ⟨ys, o, es, ep, h1, h2, h3, h4, h5⟩ := DU_get I.hok ea
  have hel := h5 X.w
  have hl := Paired.length h1
  have hes : es.size = xs.length := by rw [← Array.length_toList, hel, List.length_map, hl]
  have hz := eu.sz
  refine PySem.W.kdl_call (kdl_raw eu.sm h3 h4) (I.ok.hd hc) h2 (by omega) fun h' tk acc' c' kp e2 it => ?_
  have ek : acc'.toList = ys.map fun y => Value.ref y.2.1 := by
    refine List.ext_getElem? fun i => ?_
    obtain ⟨z1, z2⟩ := it
    rw [Array.getElem?_toList, List.getElem?_map]
    by_cases hi : i < acc'.size
    · obtain ⟨en, e3, e4⟩ := z2 i _ (Array.getElem?_eq_getElem hi)
      rw [Array.getElem?_eq_getElem hi, e4]
      rw [← Array.getElem?_toList, hel, List.getElem?_map] at e3
      cases c : ys[i]? with
      | none => rw [c] at e3; cases e3
      | some y =>
        rw [c] at e3
        have e5 : entU X.w y = en := Option.some.inj e3
        rw [← e5]
        rfl
    · rw [Array.getElem?_eq_none (by omega), List.getElem?_eq_none (by omega)]
      rfl
  refine ⟨.ref _, _, I.laid (t' := tk) (o := .lst (keysU xs)) kp (Nat.le_refl _) ⟨?_, acc'.toList, c', ?_, by rw [e2, Array.toArray_toList]⟩, rfl, q _ (I.hok.fresh (Nat.le_refl _))⟩
  · unfold keysU
    rw [List.length_map]
    exact hz
  · rw [ek]
    unfold keysU
    clear ek q ea eu hel h5 hl hes hz it
    induction h1 with
    | nil => exact .nil
    | cons r t ih =>
      rw [List.map_cons, List.map_cons]
      refine .cons ?_ ih
      show Value.ref _ = Value.ref _
      rw [r.2.1]
@[reducible] def fListU : FL := fun xs M R => g1 xs fun x => gR x fun a => ∃ kw, M a = some (.dT kw) ∧ R (.d (.list (kw.map (·.1)))) M
theorem keys_dx {K : PySem.W.Frag} {F : Hp} {a : Addr} : ∀ {xs : List DU1} {kw : List (PyData × W)}, (∀ x ∈ xs, KeyV K F (.ref x.2.1) x.1 ∧ x.1.depth ≤ 8 ∧ noTxt x.1 = true) → xs.map (·.1) = kw.map (fun x => keyN x.1) → (∀ x ∈ kw, keyOk x.1 = true) → DxL K F (keysU xs) (kw.map (·.1))
  | [], [], _, _, _ => .nil
  | [], _ :: _, _, h, _ => by simp at h
  | _ :: _, [], _, h, _ => by simp at h
  | x :: xs, y :: kw, h, e, ho => by
    rw [List.map_cons, List.map_cons] at e
    injection e with e1 e2
    refine .cons (keyV_dx (ho y (.head _)) ?_) (keys_dx (a := a) (fun z hz => h z (.tail _ hz)) e2 fun z hz => ho z (.tail _ hz))
    rw [← e1]
    exact (h x (.head _)).1
theorem sc_listU {K : PySem.W.Frag} : SC K (rListU K) fListU := fun F H M vs xs R Q hr rx hf k => by
  obtain ⟨x, rfl, h1⟩ := g1_of hf
  obtain ⟨v, rfl, r⟩ := rx.one
  obtain ⟨a, rfl, kw, e, h2⟩ := gR_of h1
  obtain ⟨ys, iu, ku, e1, e3, _⟩ := hr.dT e
  rw [r.ref]
  refine ⟨_, a, ys, rfl, iu, fun p hp => ?_⟩
  obtain ⟨r2, g2, rz⟩ := hr.list hp (keys_dx (a := a) ku.ks e1 e3)
  exact k _ _ _ _ _ r2 g2 rz h2
end Tl
set_option Elab.async false
set_option linter.all false
set_option maxRecDepth 100000
set_option maxHeartbeats 4000000
/-! sorted: of data that are alike (tuples may be empty), of any length. -/
namespace Tl
open PySem L2 PyProof.Rows
open PySem.W (alike alikeAll AllAlike Sortable dataLe dataLt SortsAt EachIs keyToks keyToksAll)
mutual
theorem alike_nd1 : ∀ d : PyData, alike d d = true → d.hasDict = false
  | .none, _ => rfl
  | .bool _, _ => rfl
  | .int _, _ => rfl
  | .str _, _ => rfl
  | .list xs, h => by
    rw [PyData.hasDict]
    exact alike_nds xs (by simpa only [alike] using h)
  | .tuple xs, h => by
    rw [PyData.hasDict]
    exact alike_nds xs (by simpa only [alike] using h)
  | .dict _, h => by simp [alike] at h
theorem alike_nds : ∀ xs : List PyData, alikeAll xs xs = true → PyData.hasDictAll xs = false
  | [], _ => rfl
  | x :: xs, h => by
    have h2 := PySem.W.alike_all_cons h
    rw [PyData.hasDictAll, alike_nd1 x h2.1, alike_nds xs h2.2]
    rfl
end
/-- data that can be sorted -/
structure SrtOk (ds : List PyData) : Prop where
  al : AllAlike ds
  ty : Sortable ds ∨ ∀ d ∈ ds, ∃ xs, d = .tuple xs
  dp : ∀ d ∈ ds, d.depth ≤ 60
/-- sorted, by Python's order of alike data -/
def srt (ds : List PyData) : List PyData := ds.mergeSort (dataLe false id)
section
variable {M : Model} {prog : Program} {w : World} {A : Around} {E : Value → Shared → Prop} {s : Shared}
/-- the first items of tuples, where there are some -/
theorem firsts_tup : ∀ (vs : List Value) (ds : List PyData) {Q : List (Option Value) → Shared → Prop}, EachIs (fun v d => ∃ as, Reads s.heap v d as) vs ds → (∀ d ∈ ds, ∃ xs, d = .tuple xs) →
    (∀ fs : List (Option Value), fs.length = ds.length → (∀ (i : Nat) (x : PyData), ds[i]? = some x → ∃ f, fs[i]? = some f ∧ (f.isSome = true ↔ x ≠ .tuple [])) → Q fs s) → wpAny M A (vs.mapM firstOfTuple') Q E s
  | [], _, _, e, _, h => by
    cases e
    rw [List.mapM_nil]
    exact wpAny_pure (h [] rfl fun i x q => by simp at q)
  | v :: vs, _, Q, e, ht, h => by
    cases e with
    | @cons _ d _ ds r t =>
      obtain ⟨as, r⟩ := r
      obtain ⟨xs, rfl⟩ := ht _ (List.mem_cons_self ..)
      cases r with
      | @tuple a o us n _ _ ho hc hd hr =>
        rw [List.mapM_cons]
        refine wpAny_bind ?_
        rw [PySem.W.kas_first_eq]
        refine wpAny_bind (PySem.W.Looks.here (show PySem.W.Looks M s.heap (typeOf (.ref a)) o.cls from (PySem.W.Looks.ld ho).andThen .now) ?_)
        rw [hc, if_neg (by decide)]
        refine wpAny_bind (listItems_at ho hd (wpAny_pure ?_))
        refine wpAny_bind (firsts_tup vs ds (Q := fun bs s' => wpAny M A (pure (us[0]? :: bs)) Q E s') t (fun d hd => ht d (List.mem_cons_of_mem _ hd)) fun fs h1 h2 => wpAny_pure (h _ (by rw [List.length_cons, List.length_cons, h1]) fun i x q => ?_))
        cases i with
        | zero =>
          rw [List.getElem?_cons_zero] at q ⊢
          cases q
          refine ⟨_, rfl, ?_⟩
          have hl : us.size = xs.length := by simpa using SeqAt.ReadsAll.length _ _ _ hr
          cases xs with
          | nil =>
            have : us = #[] := Array.eq_empty_of_size_eq_zero hl
            subst this
            simp
          | cons x r =>
            have h0 : 0 < us.size := by rw [hl, List.length_cons]; exact Nat.succ_pos _
            rw [Array.getElem?_eq_getElem h0]
            simp
        | succ i =>
          rw [List.getElem?_cons_succ] at q ⊢
          exact h2 i x q
/-- one tuple against another -/
theorem oneLt_tup {f : Bool} {xs ys : List PyData} {a b : Value} {as bs : List Addr} {Q : Bool → Shared → Prop} (ra : Reads s.heap a (.tuple xs) as) (rb : Reads s.heap b (.tuple ys) bs) (h : alike (.tuple xs) (.tuple ys) = true)
    (hu : A.units + min (PyData.tuple xs).depth (PyData.tuple ys).depth < cLine) (hq : Q (dataLt (.tuple xs) (.tuple ys)) s) : wpAny (model prog w) A (oneLt' f a b) Q E s := by
  cases f with
  | false =>
    rw [oneLt'_eq]
    simp only [Bool.false_eq_true, if_false]
    exact wpAny_bind (PySem.W.rcLt_alike _ _ A s a b as bs ra rb h (by simp) hu prog w E _ (wpAny_truthy_bool hq))
  | true =>
    have hal : alikeAll xs ys = true := by simpa [alike] using h
    cases ra with
    | @tuple l o vs n _ as1 h1 h2 h3 h4 =>
      cases rb with
      | @tuple m p ws k _ bs1 k1 k2 k3 k4 =>
        have n1 : vs.size = xs.length := by simpa using SeqAt.ReadsAll.length _ _ _ h4
        have n2 : ws.size = ys.length := by simpa using SeqAt.ReadsAll.length _ _ _ k4
        rw [PySem.W.dataLt_tuple, ← PySem.W.firstLt_toks xs ys hal, ← n1, ← n2] at hq
        rw [oneLt'_eq]
        simp only [if_true]
        refine wpAny_bind (wpAny_cRoomFor (SeqAt.room_here hu) ?_)
        obtain ⟨cls, dd, data, sl⟩ := o
        obtain ⟨cls2, dd2, data2, sl2⟩ := p
        simp only at h2 h3 k2 k3
        subst h2 h3 k2 k3
        refine wpAny_bind (wpAny_callSpecialIfBound?_slot (T := "tuple") ⟨_, h1, rfl⟩ F.slot_tuple_lt (call_meets F.slot_tuple_lt ⟨_, h1, rfl⟩ F.entry_tuple_lt (F.args_tuple_lt_2 _ _)
          (SeqAt.tuple_ltAt l m vs ws n k dd dd2 sl sl2 (SeqAt.pairEq xs ys) (fun j => dataLt (xs.getD j .none) (ys.getD j .none))) ⟨h1, k1, fun j j1 j2 => ?_, fun j j1 j2 hj => ?_, ?_⟩))
        · have := PySem.W.eqAt_alikeAll xs ys A.in1 s vs.toList ws.toList _ _ h4 k4 hal (SeqAt.room_in hu) j (by simpa using j1) (by simpa using j2)
          simpa using this
        · have := PySem.W.rcLt_alikeAll xs ys A.in1 s vs.toList ws.toList _ _ h4 k4 hal (SeqAt.room_in hu) j (by simpa using j1) (by simpa using j2) hj
          simpa using this
        · exact wpAny_truthy_bool hq
/-- tuples, empty ones among them, can be sorted -/
theorem sorts_tups {vs : List Value} {ds : List PyData} (e : EachIs (fun v d => ∃ as, Reads s.heap v d as) vs ds) (hal : AllAlike ds) (ht : ∀ d ∈ ds, ∃ xs, d = .tuple xs) (hu : ∀ d, d ∈ ds → A.units + d.depth < cLine) :
    SortsAt prog w A s (PySem.W.dataKind s.heap ds) vs := by
  by_cases hne : ∀ d ∈ ds, d ≠ .tuple []
  · refine SortsAt.data e hal (.inl fun d hd => ?_) hu
    obtain ⟨xs, rfl⟩ := ht d hd
    cases xs with
    | nil => exact absurd rfl (hne _ hd)
    | cons x r => exact ⟨x, r, rfl⟩
  refine ⟨fun v hv => ?_, ?_⟩
  · obtain ⟨d, hd, as, r⟩ := e.left v hv
    exact ⟨_, PySem.W.dataKind_some hal hd r⟩
  have cmp : ∀ (f : Bool) (E : Value → Shared → Prop) {x y : Value} {a b : (PySem.W.dataKind s.heap ds).α} {Q : Bool → Shared → Prop}, (PySem.W.dataKind s.heap ds).keyOf x = some a → (PySem.W.dataKind s.heap ds).keyOf y = some b →
      Q ((PySem.W.dataKind s.heap ds).blt a b) s → wpAny (model prog w) A (oneLt' f x y) Q E s := by
    intro f E x y a b Q ha hb hq
    obtain ⟨d, as, hd, ra, rfl⟩ := PySem.W.dataKind_inv ha
    obtain ⟨d', as', hd', rb, rfl⟩ := PySem.W.dataKind_inv hb
    have hdd := hal d hd d' hd'
    have hm := Nat.lt_of_le_of_lt (Nat.add_le_add_left (Nat.min_le_left d.depth d'.depth) A.units) (hu d hd)
    obtain ⟨xs, rfl⟩ := ht d hd
    obtain ⟨ys, rfl⟩ := ht d' hd'
    exact oneLt_tup ra rb hdd hm hq
  have some0 : ∃ d ∈ ds, d = .tuple [] := by
    apply Classical.byContradiction
    intro c
    exact hne fun d hd z => c ⟨d, hd, z⟩
  by_cases h0 : ds[0]? = some (.tuple [])
  · refine ⟨oneType', fun E x y a b Q ha hb hq => ?_, fun h2 E Q hq => ?_⟩
    · rw [keyLt'_oneType]
      exact cmp true E ha hb hq
    · rw [keyKind'_eq, List.mapM_toArray, map_eq_pure_bind]
      refine wpAny_bind (wpAny_bind (firsts_tup vs ds e ht fun fs h1 h2' => wpAny_pure ?_))
      obtain ⟨f, hf1, hf2⟩ := h2' 0 _ h0
      have hf3 : f.isSome = false := by
        cases c : f.isSome with
        | false => rfl
        | true => exact absurd rfl (hf2.mp c)
      obtain ⟨g, gs, rfl⟩ : ∃ g gs, fs = g :: gs := by
        cases fs with
        | nil => simp at hf1
        | cons g gs => exact ⟨g, gs, rfl⟩
      rw [List.getElem?_cons_zero] at hf1
      rw [← Option.some.inj hf1] at hf3
      have hn : g = none := by simpa using hf3
      subst hn
      rw [if_neg (by simp), if_neg (by simp)]
      rw [oneTypeOnly'_eq, List.mapM_toArray, map_eq_pure_bind]
      refine wpAny_bind (wpAny_bind (wpAny_bind (PySem.W.kas_mapM (r := Value.type "tuple") _ (fun v hv Q' hq => PySem.W.Looks.here ?_ hq) (wpAny_pure ?_))))
      · obtain ⟨d, hd, as, r⟩ := e.left v hv
        obtain ⟨xs, rfl⟩ := ht d hd
        exact PySem.W.looks_reads r
      · have hall : ((List.map (fun _ => Value.type "tuple") vs).toArray.all fun x => x == Value.type "tuple") = true := by
          simp only [List.all_toArray, List.all_map, List.all_eq_true]
          intro _ _
          exact beq_self_eq_true _
        have h0 : (List.map (fun _ => Value.type "tuple") vs).toArray[0]? = some (Value.type "tuple") := by
          cases vs with
          | nil => simp at h2
          | cons v r => simp
        rw [h0]
        simp only [hall, if_true]
        exact wpAny_pure (wpAny_pure hq)
  · refine ⟨general', fun E x y a b Q ha hb hq => ?_, fun h2 E Q hq => ?_⟩
    · show wpAny (model prog w) A (oneLt' false _ _) Q E s
      exact cmp false E ha hb hq
    · rw [keyKind'_eq, List.mapM_toArray, map_eq_pure_bind]
      refine wpAny_bind (wpAny_bind (firsts_tup vs ds e ht fun fs h1 h2' => wpAny_pure ?_))
      obtain ⟨d, hd, rfl⟩ := some0
      obtain ⟨i, hi⟩ := List.getElem?_of_mem hd
      obtain ⟨f, hf1, hf2⟩ := h2' i _ hi
      have hf3 : f.isSome = false := by
        cases c : f.isSome with
        | false => rfl
        | true => exact absurd rfl (hf2.mp c)
      have hall : ¬ (fs.toArray.all fun x => x.isSome) = true := by
        rw [List.all_toArray, List.all_eq_true]
        intro c
        have := c f (List.mem_of_getElem? hf1)
        rw [hf3] at this
        exact Bool.false_ne_true this
      rw [if_neg hall]
      obtain ⟨d0, hd0⟩ : ∃ d0, ds[0]? = some d0 := by
        cases ds with
        | nil => simp at hd
        | cons d0 r => exact ⟨d0, rfl⟩
      obtain ⟨g, hg1, hg2⟩ := h2' 0 _ hd0
      have hg3 : g.isSome = true := hg2.mpr fun z => h0 (by rw [hd0, z])
      rw [if_pos (by rw [List.getElem?_toArray, hg1]; simpa using hg3)]
      exact wpAny_pure hq
theorem sorts_any {vs : List Value} {ds : List PyData} (e : EachIs (fun v d => ∃ as, Reads s.heap v d as) vs ds) (k : SrtOk ds) (hu : A.units + 60 < cLine) : SortsAt prog w A s (PySem.W.dataKind s.heap ds) vs := by
  have hu' : ∀ d, d ∈ ds → A.units + d.depth < cLine := fun d hd => Nat.lt_of_le_of_lt (Nat.add_le_add_left (k.dp d hd) _) hu
  rcases k.ty with h | h
  · exact SortsAt.data e k.al h hu'
  · exact sorts_tups e k.al h hu'
end
end Tl
set_option Elab.async false
set_option linter.all false
set_option maxRecDepth 100000
set_option maxHeartbeats 4000000
/-! x is True, x is not True, of truths. -/
set_option Elab.async false
set_option linter.all false
set_option maxRecDepth 100000
set_option maxHeartbeats 4000000
/-! Errors that leave a def and are caught by a suite that raises itself: the def's promise under L2N.CX. -/
namespace Tl
open PySem PySem.Spec PyProof.Rows L2
section
variable {P : Program} {w : World} {K : PySem.W.Frag} {mg : Str → Option Value} {base : Heap}
theorem ok_ofN {k : Nat} {f : Addr} {fd : FuncData} {ps : List Str} {sp : Sp} (F : FnOk P w K mg base (L2N.CX P w) k f fd ps sp) : FnOk P w K mg base (L2.CX P w) k f fd ps sp :=
  ⟨F.len, fun A outer s H args us vs Q E hr he hb hv hs => codeAny_mono (F.run A outer s H args us vs Q E hr he hb hv hs) fun r s' h => by
    cases r with
    | ok fl => cases fl <;> exact h
    | error e =>
      obtain ⟨a, B, H', cls, d, e1, fl, z⟩ := h
      exact ⟨a, B, H', cls, d, e1, L2H.flyingZ_imp (fun _ => L2N.Zn.zc) fl, z⟩⟩
structure UseN (P : Program) (w : World) (K : PySem.W.Frag) (mg : Str → Option Value) (base : Heap) (x : Str) (ps : List Str) (k : Nat) (sp : Sp) where
  f : Addr
  fd : FuncData
  ok : FnOk P w K mg base (L2N.CX P w) k f fd ps sp
  m : mg x = some (.ref f)
  kp : PySem.W.keepIn K (.ref f) = true
  b : Binds K fd ps []
def UseN.up {x : Str} {ps : List Str} {j k : Nat} {sp : Sp} (U : UseN P w K mg base x ps j sp) (h : j ≤ k) : UseN P w K mg base x ps k sp := ⟨U.f, U.fd, U.ok.mono h, U.m, U.kp, U.b⟩
def UseN.x {x : Str} {ps : List Str} {k : Nat} {sp : Sp} (U : UseN P w K mg base x ps k sp) : UseX P w K mg base x ps k sp := ⟨U.f, U.fd, ok_ofN U.ok, U.m, U.kp, U.b⟩
end
end Tl
set_option Elab.async false
set_option linter.all false
set_option maxRecDepth 100000
set_option maxHeartbeats 4000000
/-! count and index of True in a list of truths; a held error's field, whatever its class. -/
namespace Tl
open PySem PySem.Spec PyProof.Rows L2
/-! ### xs.count(True), xs.index(True) -/
section
variable {K : PySem.W.Frag} {Wx : WX} {RE : REx}
/-- e.n within the suite, of whatever class -/
def tXfA (K : PySem.W.Frag) (a : Addr) (cls : Value) (d : Option Addr) (f : Str) (te : TE) : TE := fun σ H Q => ∃ C, (XfC K C ∧ PySem.W.findIn K (.ref C) f = some none) ∧ tXf a cls d C f te σ H Q
theorem pe_xfA {X : Cx} {a : Addr} {oe : Obj} {cls : Value} {d : Option Addr} {pn : List (Addr × Obj)} {e : Expr} {te : TE} {pos : Pos} {n : Str} (hz : Zc cls d oe) (hf : ∃ vs, oe.data = .fields vs) (he : PE (X.suite a ((a, oe) :: pn)) e te) (hb : attributeBase e n X.env (eval e X.env) = eval e X.env := by rfl) :
    PE (X.suite a ((a, oe) :: pn)) (.Attribute e n pos) (tXfA X.K a cls d n te) := ⟨fun pins s σ H Q I ⟨C, ⟨h1, h2⟩, h⟩ => (pe_xf h1 h2 hz hf he hb).run pins s σ H Q I h⟩
@[reducible] def xfA (K : PySem.W.Frag) (a : Addr) (cls : Value) (d : Option Addr) (n : Str) (i : Nat) : TDE := fun ρ M R => nmT i ρ M fun x M1 => match x with | .x a' C dd fs => (a' = a ∧ cls = .ref C ∧ dd = d ∧ XfC K C ∧ PySem.W.findIn K (.ref C) n = some none) ∧ gO (fs.lookup n) fun y => R (.d y) M1 | _ => False
theorem se_xfA {a : Addr} {cls : Value} {d : Option Addr} {n : Str} {i : Nat} : SE K Wx RE (tXfA K a cls d n (tVar i)) (xfA K a cls d n i) := fun F H M σ ρ R Q hr hx hs ht k => by
  unfold xfA nmT at ht
  cases c : slot ρ i with
  | none => rw [c] at ht; exact ht.elim
  | some x =>
    rw [c] at ht
    obtain ⟨v, hv, rx⟩ := hs.at_ i x c
    cases x with
    | x a' C dd fs =>
      obtain ⟨⟨rfl, h2, rfl, h3, h3'⟩, h4⟩ := ht
      obtain ⟨y, h5, h6⟩ := gO_of h4
      cases rx with
      | x fx =>
        cases dd with
        | none =>
          have fx : fs = [] := fx
          rw [fx] at h5
          cases h5
        | some dd =>
          obtain ⟨fv, e1, e2, e3⟩ := fx
          obtain ⟨u, hu, du⟩ := dx_lookup e2 e3 h5
          exact ⟨C, ⟨h3, h3'⟩, .ref a', hv, rfl, h2, dd, fv, u, rfl, hr.fh _ _ e1, hu, k _ H F M _ hr .refl (.d du) h6⟩
    | d _ => exact ht.elim
    | r _ => exact ht.elim
    | o _ => exact ht.elim
end
end Tl
set_option Elab.async false
set_option linter.all false
set_option maxRecDepth 100000
set_option maxHeartbeats 4000000
/-! sorted(xs) of data: the rule and its reading; the law's source made by a def that hands back [script, 0, 0, 0]. -/
namespace Tl
open PySem L2 PyProof.Rows
open PySem.W (alike alikeAll AllAlike dataLe dataLt SortsAt EachIs keyToks)
/-- values sorted as their data are -/
def byD (zs : List (V × PyData)) : List (V × PyData) := zs.mergeSort (dataLe false fun p => p.2)
def rSortedD (K : PySem.W.Frag) : List V → Hp → VK → Prop := fun vs H Q => ∃ (a : Addr) (zs : List (V × PyData)), vs = [.ref a] ∧ SqL K H a (zs.map (·.1)) ∧ DpAll K H (zs.map (·.1)) (zs.map (·.2)) ∧ SrtOk (zs.map (·.2)) ∧
  ∀ p : Addr, H p = none → Q (.ref p) (upd H p (.lst ((byD zs).map (·.1))))
theorem each_vals : ∀ {zs : List (V × PyData)} {us : List Value}, Vals (zs.map (·.1)) us → EachIs (fun v (z : V × PyData) => RelV z.1 v) us zs
  | [], _, h => by cases h; exact .nil
  | z :: zs, _, h => by cases h with | cons a b => exact .cons a (each_vals b)
theorem vals_each : ∀ {zs : List (V × PyData)} {us : List Value}, EachIs (fun v (z : V × PyData) => RelV z.1 v) us zs → Vals (zs.map (·.1)) us
  | [], _, h => by cases h; exact .nil
  | z :: zs, _, h => by cases h with | cons a b => exact .cons a (vals_each b)
theorem each_reads {X : Cx} {pins : List (Addr × Obj)} {σ : L2.St} {H : Hp} {s : Shared} (I : Inv X pins σ H s) : ∀ {zs : List (V × PyData)} {us : List Value}, Vals (zs.map (·.1)) us → DpAll X.K H (zs.map (·.1)) (zs.map (·.2)) → EachIs (fun v (z : V × PyData) => ∃ as, Reads s.heap v z.2 as) us zs
  | [], _, h, _ => by cases h; exact .nil
  | z :: zs, _, h, d => by
    cases h with
    | cons a b =>
      cases d with
      | cons d1 d2 => exact .cons (Dp.reads I _ _ _ d1 a) (each_reads I b d2)
theorem alike_all_nd {ds : List PyData} (h : AllAlike ds) : PyData.hasDictAll ds = false := by
  induction ds with
  | nil => rfl
  | cons d r ih =>
    rw [PyData.hasDictAll, alike_nd1 d (h d (List.mem_cons_self ..) d (List.mem_cons_self ..)), ih fun x hx y hy => h x (List.mem_cons_of_mem _ hx) y (List.mem_cons_of_mem _ hy)]
    rfl
theorem byD_len (zs : List (V × PyData)) : (byD zs).length = zs.length := List.length_mergeSort _
theorem cr_sortedD {X : Cx} (hu : X.A.units + 62 < cLine) : CallR X (.builtin "sorted") (rSortedD X.K) := by
  intro pins s σ H vs us Q I r h
  obtain ⟨a, zs, rfl, hs, hd, hk, q⟩ := h
  obtain ⟨its, rv, hl, hz⟩ := I.list hs
  rw [Vals.ref1 r]
  have er := each_reads I rv hd
  have er' : EachIs (fun v (z : V × PyData) => ∃ as, Reads (PySem.W.sortingHeap (PySem.W.copyHeap s.heap its) (s.heap.objs.size + 1) its) v z.2 as) its zs := er.mono fun _ _ ⟨as, r⟩ => ⟨as, PyProof.Rows.Reads.keeps (fun _ _ => PySem.W.sorting_copy_old) r⟩
  have hlen : its.length ≤ sizeLine := by rw [← rv.length]; exact hz
  refine PySem.W.sorted_vals hl.isList (sorts_any (s := { s with heap := PySem.W.sortingHeap (PySem.W.copyHeap s.heap its) (s.heap.objs.size + 1) its }) (PySem.W.each_map (R := fun v d => ∃ as, Reads (PySem.W.sortingHeap (PySem.W.copyHeap s.heap its) (s.heap.objs.size + 1) its) v d as) (fun z : V × PyData => z.2) er') hk (by show X.A.units + 2 + 60 < cLine; omega)) hlen ?_
  have eo := PySem.W.sortVals_data (h' := PySem.W.sortingHeap (PySem.W.copyHeap s.heap its) (s.heap.objs.size + 1) its) (enc := fun z : V × PyData => z.2) false (each_vals rv) er' hk.al
  generalize PySem.W.sortVals _ false its its = out at eo ⊢
  obtain ⟨ep, he'⟩ := PyProof.Rows.sortedAll_at s.heap its out.toArray
  refine ⟨.ref _, upd H (s.heap.objs.size + 1) (.lst ((byD zs).map (·.1))), I.laid (t' := s.toks) (fun _ _ => PyProof.Rows.sortedAll_old) (Nat.le_succ _) ⟨?_, out, ep, vals_each eo, he'⟩, rfl, q _ (I.hok.fresh (Nat.le_succ _))⟩
  rw [List.length_map, byD_len, ← List.length_map (f := (·.1)) (as := zs)]
  exact hz
section
variable {K : PySem.W.Frag} {Wx : WX} {RE : REx}
theorem DxL.zip {F : Hp} : ∀ {vs : List V} {ds : List PyData}, DxL K F vs ds → ∃ zs : List (V × PyData), zs.map (·.1) = vs ∧ zs.map (·.2) = ds ∧ ∀ z ∈ zs, Dx K F z.1 z.2
  | _, _, .nil => ⟨[], rfl, rfl, fun _ h => by cases h⟩
  | _, _, .cons (v := v) (d := d) a b => by
    obtain ⟨zs, h1, h2, h3⟩ := DxL.zip b
    refine ⟨(v, d) :: zs, by rw [List.map_cons, h1], by rw [List.map_cons, h2], fun z hz => ?_⟩
    rcases List.mem_cons.mp hz with e | e
    · rw [e]; exact a
    · exact h3 z e
theorem DxL.unzip {F : Hp} : ∀ {zs : List (V × PyData)}, (∀ z ∈ zs, Dx K F z.1 z.2) → DxL K F (zs.map (·.1)) (zs.map (·.2))
  | [], _ => .nil
  | z :: zs, h => .cons (h z (List.mem_cons_self ..)) (DxL.unzip fun y hy => h y (List.mem_cons_of_mem _ hy))
theorem byD_snd (zs : List (V × PyData)) : (byD zs).map (·.2) = srt (zs.map (·.2)) := List.map_mergeSort fun _ _ _ _ => rfl
/-- sorted(..), as data -/
@[reducible] def fSortedF1 : FL := fun xs M R => g1 xs fun x => gW M x fun ws => gDs ws fun ds => SrtOk ds ∧ R (.d (.list (srt ds))) M
theorem sc_sortedF : SC K (rSortedD K) fSortedF1 := fun F H M vs xs R Q hr rx hf k => by
  obtain ⟨x, rfl, h1⟩ := g1_of hf
  obtain ⟨v, rfl, r⟩ := rx.one
  obtain ⟨a, us, ws, rfl, h2, h3, h4⟩ := gW_of hr r h1
  obtain ⟨ds, rfl, h5, h6⟩ := gDs_of h4
  obtain ⟨zs, rfl, rfl, hz⟩ := h3.undat.zip
  refine ⟨a, zs, rfl, SqL.of h2, DxL.dp _ _ (DxL.mono hr.fh _ _ h3.undat) (alike_all_nd h5.al), h5, fun p hp => ?_⟩
  have h7 : DxL K F ((byD zs).map (·.1)) (srt (zs.map (·.2))) := by
    rw [← byD_snd]
    exact DxL.unzip fun z m => hz z ((List.mergeSort_perm _ _).mem_iff.mp m)
  obtain ⟨r2, g2, rz⟩ := hr.list hp h7
  exact k _ _ _ _ _ r2 g2 rz h6
end
theorem room62 {A : Around} {k : Nat} (hr : Room k A) : A.units + 62 < cLine := Nat.lt_of_le_of_lt (Nat.add_le_add_left (by decide : 62 ≤ 64) _) hr.units
end Tl
set_option Elab.async false
set_option linter.all false
set_option maxRecDepth 100000
set_option maxHeartbeats 4000000
/-! a text against a dict; x in a tuple of texts, x any data. -/
namespace PySem.SeqAt
open PySem PyProof.Rows
open _root_.PySem.AutoSeq1 (wpAny_loadPart')
open MeetsSeq
end PySem.SeqAt
set_option Elab.async false
set_option linter.all false
set_option maxRecDepth 100000
set_option maxHeartbeats 4000000
/-! Trees of lists: their numbers; how they begin. -/
namespace Tl
open PySem L2
mutual
def AT.nums : AT → List Int
  | .node _ _ n _ ks => n :: numss ks
def numss : List AT → List Int
  | [] => []
  | k :: ks => k.nums ++ numss ks
end
/-- some numbers in a row -/
def rowI (k : Int) (n : Nat) : List Int := (List.range n).map fun i => k + (i : Nat)
/-- a tree of lists that is new: begun at M, standing at M' -/
structure NewT (d : PyData) (k : Int) (M : Mem) (T : AT) (M' : Mem) : Prop where
  tel : T.tel tgF = d
  nums : T.nums = rowI k (nn d)
  ok : T.ok M'
  nd : T.adr.Nodup
  new : ∀ x ∈ T.adr, M x = none
/-- some of them -/
structure NewTs (ds : List PyData) (k : Int) (M : Mem) (ts : List AT) (M' : Mem) : Prop where
  tel : ts.map (AT.tel tgF) = ds
  nums : numss ts = rowI k (nnAll ds)
  ok : oks M' ts
  nd : (adrs ts).Nodup
  new : ∀ x ∈ adrs ts, M x = none
theorem NewTs.nil (k : Int) (M M' : Mem) : NewTs [] k M [] M' := ⟨rfl, by rw [numss]; rfl, by rw [oks]; trivial, by rw [adrs]; exact List.nodup_nil, fun x h => by rw [adrs] at h; cases h⟩
/-- what stands in a tree of lists is something -/
theorem ok_some {M : Mem} {T : AT} (h : T.ok M) {x : Addr} (hx : x ∈ T.adr) : ∃ v, M x = some v := by
  have key : ∀ (t : AT), t.ok M → ∀ x ∈ t.adr, ∃ v, M x = some v := AT.rec (motive_1 := fun t => t.ok M → ∀ x ∈ t.adr, ∃ v, M x = some v) (motive_2 := fun ts => oks M ts → ∀ x ∈ adrs ts, ∃ v, M x = some v)
    (fun a b n t ks ih o x hx => by
      rw [AT.ok] at o
      rw [AT.adr] at hx
      rcases List.mem_cons.mp hx with rfl | hx
      · exact ⟨_, o.1⟩
      rcases List.mem_cons.mp hx with rfl | hx
      · exact ⟨_, o.2.1⟩
      · exact ih o.2.2 x hx)
    (fun o x hx => by rw [adrs] at hx; cases hx)
    (fun k ks ih1 ih2 o x hx => by
      rw [oks] at o
      rw [adrs, List.mem_append] at hx
      exact hx.elim (ih1 o.1 x) (ih2 o.2 x))
  exact key T h x hx
end Tl
set_option Elab.async false
set_option linter.all false
set_option maxRecDepth 100000
set_option maxHeartbeats 4000000
/-! A deed done on a tree of lists: what holds behind it. -/
namespace Tl
open PySem L2
structure LvR (T : AT) (x : Deed) (c : Addr) (M : Mem) (T' : AT) (M' : Mem) : Prop where
  ok : T'.ok M'
  nd : T'.adr.Nodup
  root : T'.root = T.root
  tel : T'.tel tgF = chg (T.tel tgF) x
  old : ∀ z, M z ≠ none → z ∉ T.adr → z ≠ c → M' z = M z
  new : ∀ z ∈ T'.adr, z ∈ T.adr ∨ M z = none
theorem box_in {T u : AT} {q : List Nat} (h : T.at_ q = some u) : u.root ∈ T.adr ∧ u.box ∈ T.adr := by
  rw [(adr_ctx h).mem_iff, (adr_ctx h).mem_iff, List.mem_append, List.mem_append, adr_eta u]
  exact ⟨.inr (List.mem_cons_self ..), .inr (List.mem_cons_of_mem _ (List.mem_cons_self ..))⟩
theorem kids_in {T u : AT} {q : List Nat} (h : T.at_ q = some u) {z : Addr} (hz : z ∈ adrs u.kids) : z ∈ T.adr := by
  rw [(adr_ctx h).mem_iff, List.mem_append, adr_eta u]
  exact .inr (List.mem_cons_of_mem _ (List.mem_cons_of_mem _ hz))
theorem kids_nd {M : Mem} {T u : AT} {q : List Nat} {ks : List AT} (h : T.ok M) (hn : T.adr.Nodup) (hq : T.at_ q = some u) (n1 : (adrs ks).Nodup) (n2 : ∀ z ∈ adrs ks, z ∈ adrs u.kids ∨ M z = none) :
    (T.put q (u.withKids ks)).adr.Nodup ∧ (∀ z ∈ (T.put q (u.withKids ks)).adr, z ∈ T.adr ∨ M z = none) ∧ u.box ∉ adrs ks := by
  have e := (adr_ctx hq).nodup_iff.mp hn
  rw [adr_eta u] at e
  obtain ⟨d1, d2, d3⟩ := List.nodup_append.mp e
  obtain ⟨d4, d5⟩ := List.nodup_cons.mp d2
  obtain ⟨d6, d7⟩ := List.nodup_cons.mp d5
  have fresh : ∀ z, z ∈ T.adr → M z ≠ none := fun z hz c => by
    obtain ⟨v, hv⟩ := ok_some h hz
    rw [c] at hv
    cases hv
  have r1 : u.root ∉ adrs ks := fun z => (n2 _ z).elim (fun z => d4 (List.mem_cons_of_mem _ z)) (fresh _ (box_in hq).1)
  have b1 : u.box ∉ adrs ks := fun z => (n2 _ z).elim d6 (fresh _ (box_in hq).2)
  have p := adr_put (s := u.withKids ks) hq
  have ea : (u.withKids ks).adr = u.root :: u.box :: adrs ks := adr_eta _
  rw [ea] at p
  refine ⟨p.nodup_iff.mpr (List.nodup_append.mpr ⟨d1, List.nodup_cons.mpr ⟨fun z => ?_, List.nodup_cons.mpr ⟨b1, n1⟩⟩, fun x hx y hy e => ?_⟩), fun z hz => ?_, b1⟩
  · rcases List.mem_cons.mp z with z | z
    · exact d4 (by rw [z]; exact List.mem_cons_self ..)
    · exact r1 z
  · subst e
    rcases List.mem_cons.mp hy with z | hy
    · exact d3 x hx x (by rw [z]; exact List.mem_cons_self ..) rfl
    rcases List.mem_cons.mp hy with z | hy
    · exact d3 x hx x (by rw [z]; exact List.mem_cons_of_mem _ (List.mem_cons_self ..)) rfl
    rcases n2 x hy with z | z
    · exact d3 x hx x (List.mem_cons_of_mem _ (List.mem_cons_of_mem _ z)) rfl
    · exact fresh x (by rw [(adr_ctx hq).mem_iff, List.mem_append]; exact .inl hx) z
  · rw [p.mem_iff, List.mem_append] at hz
    rcases hz with hz | hz
    · exact .inl (by rw [(adr_ctx hq).mem_iff, List.mem_append]; exact .inl hz)
    rcases List.mem_cons.mp hz with z1 | hz
    · exact .inl (by rw [z1]; exact (box_in hq).1)
    rcases List.mem_cons.mp hz with z1 | hz
    · exact .inl (by rw [z1]; exact (box_in hq).2)
    exact (n2 z hz).imp (kids_in hq) id
theorem LvR.of {M M1 : Mem} {T u : AT} {q : List Nat} {ks : List AT} {c : Addr} {x : Deed} (h : T.ok M) (h1 : T.ok M1) (hn : T.adr.Nodup) (hq : T.at_ q = some u) (hk : oks M1 ks) (n1 : (adrs ks).Nodup) (n2 : ∀ z ∈ adrs ks, z ∈ adrs u.kids ∨ M z = none)
    (hold : ∀ z, M z ≠ none → z ∉ T.adr → z ≠ c → M1 z = M z) (tel : repl q (T.tel tgF) (.tuple [u.tag, .tuple (ks.map (AT.tel tgF))]) = chg (T.tel tgF) x) : LvR T x c M (T.put q (u.withKids ks)) (mset M1 u.box (.lst (rootsW ks))) := by
  obtain ⟨a1, a2, a3⟩ := kids_nd h hn hq n1 n2
  refine ⟨setKids_ok h1 hq (nd_one hn _) hk a3, a1, put_root hq rfl, ?_, fun z z1 z2 z3 => ?_, a2⟩
  · rw [still_put hq, ← tel]
    congr 1
    rw [AT.withKids, still_node]
  · rw [mset_ne (fun e => z2 (by rw [e]; exact (box_in hq).2))]
    exact hold z z1 z2 z3
theorem LvR.name {M : Mem} {T u : AT} {q : List Nat} {c : Addr} {t : Str} (h : T.ok M) (hn : T.adr.Nodup) (hq : T.at_ q = some u) : LvR T (.name q t) c M (T.put q (.node u.root u.box u.num (.str t) u.kids)) (mset M u.root (.lst [.d (.int u.num), .d (.str t), .r u.box])) := by
  have p := adr_put (s := .node u.root u.box u.num (.str t) u.kids) hq
  have ea : (AT.node u.root u.box u.num (.str t) u.kids).adr = u.adr := by rw [adr_eta u]; exact adr_eta _
  rw [ea] at p
  have p2 := p.trans (adr_ctx hq).symm
  refine ⟨setTag_ok h hq (nd_one hn _), p2.nodup_iff.mpr hn, put_root hq rfl, ?_, fun z z1 z2 z3 => ?_, fun z hz => .inl (p2.mem_iff.mp hz)⟩
  · rw [still_put hq, chg, partD_of (e := u.tel tgF) (by rw [sub_still, hq]; rfl), still_node, still_eta u, kidsD_node]
  · exact mset_ne fun e => z2 (by rw [e]; exact (box_in hq).1)
end Tl
set_option Elab.async false
set_option linter.all false
set_option maxRecDepth 100000
set_option maxHeartbeats 4000000
/-! Trees and deeds are good to be shown; deeds that a law draws. -/
namespace Tl
open PySem L2
theorem tree_gk {d : PyData} (h : TrT 12 d) (hn : nn d ≤ 60) : Gk 6000 24 d := by
  obtain ⟨h1, h2, h3, _⟩ := TrT.gd h
  exact ⟨h1, by omega, h2⟩
theorem pathOk_gk {q : List Nat} (h : pathOk q) : Gk 40000 24 (pathD q) := (gk_path (by have := h.1; omega) fun i hi => by have := h.2 i hi; omega).mono (Nat.le_refl _) (by decide)
theorem adr_nums (T : AT) : T.adr.length = 2 * T.nums.length :=
  AT.rec (motive_1 := fun t => t.adr.length = 2 * t.nums.length) (motive_2 := fun ts => (adrs ts).length = 2 * (numss ts).length)
    (fun a b n t ks ih => by
      rw [AT.adr, AT.nums, List.length_cons, List.length_cons, List.length_cons, ih]
      omega)
    (by rw [adrs, numss]; rfl)
    (fun k ks ih1 ih2 => by
      rw [adrs, numss, List.length_append, List.length_append, ih1, ih2]
      omega) T
theorem NewT.len {d : PyData} {k : Int} {M M' : Mem} {T : AT} (h : NewT d k M T M') : T.adr.length = 2 * nn d := by
  rw [adr_nums, h.nums]
  unfold rowI
  rw [List.length_map, List.length_range]
theorem pathD_inj {a b : List Nat} (h : pathD a = pathD b) : a = b := by
  have := eqv_path a b
  rw [h, eqv_path] at this
  have e : decide (a = b) = true := by rw [← this]; exact decide_eq_true rfl
  exact of_decide_eq_true e
theorem int_inj {a b : Nat} (h : PyData.int (a : Int) = .int (b : Int)) : a = b := Int.ofNat.inj (PyData.int.inj h)
theorem Deed.inj : ∀ {x y : Deed}, x.d = y.d → x = y := fun {x y} h => by
  cases x <;> cases y <;> simp only [Deed.d, PyData.tuple.injEq, List.cons.injEq, PyData.str.injEq, and_true, true_and] at h <;> first
    | (exact absurd h.1 (by decide))
    | (exact absurd h (by decide))
    | (obtain ⟨h1, h2⟩ := h; rw [pathD_inj h1, h2])
    | (obtain ⟨h1, h2, h3⟩ := h; rw [pathD_inj h1, int_inj h2, h3])
    | (obtain ⟨h1, h2, h3⟩ := h; rw [pathD_inj h1, pathD_inj h2, int_inj h3])
    | (obtain ⟨h1, h2, h3, h4⟩ := h; rw [pathD_inj h1, int_inj h2, int_inj h3, h4])
    | (obtain ⟨h1, h2⟩ := h; rw [pathD_inj h1, pathD_inj h2])
    | (rw [pathD_inj h])
theorem tree_eq {d : PyData} (h1 : TrT 12 d) (h2 : nn d ≤ 60) : d.depth < 50 ∧ d.hasDict = false ∧ txt d = true ∧ eqOk d = true ∧ PyData.eqv d d = true := by
  obtain ⟨g, _, dp⟩ := tree_gk h1 h2
  have nd := gd_nd d g
  exact ⟨by omega, nd, gd_txt d g, gd_eqOk g (by omega), eqv_self d nd⟩
end Tl
set_option Elab.async false
set_option linter.all false
set_option maxRecDepth 100000
set_option maxHeartbeats 4000000
/-! Numbers of places, led through deeds: where a place stands behind. -/
set_option Elab.async false
set_option linter.all false
set_option maxRecDepth 100000
set_option maxHeartbeats 4000000
/-! A deed done on a tree of lists: its numbers, led. -/
set_option Elab.async false
set_option linter.all false
set_option maxRecDepth 100000
set_option maxHeartbeats 4000000
/-! The way back of a deed: it fits, leads back, each place too; its own way back is the deed. -/
namespace Tl
open PySem L2
/-! ### parts replaced, as data -/
/-! ### runs of kids, and back -/
theorem kidsN_of {d s : PyData} {ks : List PyData} {q : List Nat} (h : sub d q = some (.tuple [s, .tuple ks])) : kidsN d q = ks.length := by
  rw [kidsN, partD_of h, kidsD_node]
/-! ### paths, there and back -/
/-! ### the deed back -/
end Tl
set_option Elab.async false
set_option linter.all false
set_option maxRecDepth 100000
set_option maxHeartbeats 4000000
/-! Places in their order; the ways from a place. -/
namespace Tl
open PySem L2
open PySem.W (alike alikeAll AllAlike dataLe dataLt keyToks keyToksAll rowLt dataLt_tuple dataLt_cons dataLt_int toks_all_cons)
open PyProof.Rows
def ltN : List Nat → List Nat → Bool
  | [], [] => false
  | [], _ :: _ => true
  | _ :: _, [] => false
  | x :: a, y :: b => if x = y then ltN a b else decide (x < y)
theorem ltN_irr : ∀ a, ltN a a = false
  | [] => rfl
  | x :: a => by rw [ltN, if_pos rfl, ltN_irr a]
theorem ltN_asy : ∀ {a b : List Nat}, ltN a b = true → ltN b a = false
  | [], [], h => by cases h
  | [], _ :: _, _ => rfl
  | _ :: _, [], h => by cases h
  | x :: a, y :: b, h => by
    rw [ltN] at h ⊢
    by_cases e : x = y
    · rw [if_pos e] at h
      rw [if_pos e.symm]
      exact ltN_asy h
    · rw [if_neg e] at h
      rw [if_neg fun z => e z.symm]
      simp at h ⊢
      omega
theorem ltN_tr : ∀ {a b c : List Nat}, ltN a b = true → ltN b c = true → ltN a c = true
  | [], [], _, h, _ => by cases h
  | [], _ :: _, [], _, h => by cases h
  | [], _ :: _, _ :: _, _, _ => rfl
  | _ :: _, [], _, h, _ => by cases h
  | _ :: _, _ :: _, [], _, h => by cases h
  | x :: a, y :: b, z :: c, h, g => by
    rw [ltN] at h g ⊢
    by_cases e : x = y
    · subst e
      rw [if_pos rfl] at h
      by_cases e2 : x = z
      · subst e2
        rw [if_pos rfl] at g ⊢
        exact ltN_tr h g
      · rw [if_neg e2] at g ⊢
        exact g
    · rw [if_neg e] at h
      by_cases e2 : y = z
      · subst e2
        rw [if_neg e]
        exact h
      · rw [if_neg e2] at g
        simp at h g
        rw [if_neg (by omega)]
        simp
        omega
theorem ltN_app : ∀ (q : List Nat) {a b : List Nat}, ltN (q ++ a) (q ++ b) = ltN a b
  | [], _, _ => rfl
  | x :: q, a, b => by rw [List.cons_append, List.cons_append, ltN, if_pos rfl, ltN_app q]
/-- rising, each once -/
abbrev Up (l : List (List Nat)) : Prop := l.Pairwise fun a b => ltN a b = true
theorem Up.pre (q : List Nat) {l : List (List Nat)} (h : Up l) : Up (l.map (q ++ ·)) := List.Pairwise.map _ (fun a b k => by rw [ltN_app]; exact k) h
mutual
theorem plc_up : ∀ {n : Nat} {d : PyData}, TrT n d → Up (plc d)
  | 0, _, h => h.elim
  | n + 1, d, h => by
    obtain ⟨s, ks, rfl, _, hk⟩ := h
    rw [plc_node]
    refine List.pairwise_cons.mpr ⟨fun q hq => ?_, plcAll_up 0 hk⟩
    obtain ⟨i, r, k, rfl, _⟩ := plcAll_sub 0 hk q hq
    rfl
theorem plcAll_up : ∀ {n : Nat} {ks : List PyData} (j : Nat), (∀ k ∈ ks, TrT n k) → Up (plcAll j ks)
  | _, [], _, _ => by rw [plcAll]; exact .nil
  | n, k :: ks, j, h => by
    rw [plcAll]
    refine List.pairwise_append.mpr ⟨(plc_up (h k (.head _))).pre [j], plcAll_up (j + 1) fun x hx => h x (.tail _ hx), fun a ha b hb => ?_⟩
    obtain ⟨r, _, rfl⟩ := List.mem_map.mp ha
    obtain ⟨i, r2, k2, rfl, hi, _⟩ := plcAll_sub (j + 1) (fun x hx => h x (.tail _ hx)) b hb
    rw [ltN, if_neg (by omega)]
    simp
    omega
end
theorem mem_plcAll : ∀ {ks : List PyData} {i : Nat} {k : PyData} {r : List Nat} (j : Nat), ks[i]? = some k → r ∈ plc k → (j + i) :: r ∈ plcAll j ks
  | [], i, k, r, j, h, _ => by simp at h
  | a :: ks, 0, k, r, j, h, hr => by
    have e : a = k := Option.some.inj h
    subst e
    rw [plcAll]
    exact List.mem_append.mpr (.inl (List.mem_map.mpr ⟨r, hr, rfl⟩))
  | a :: ks, i + 1, k, r, j, h, hr => by
    rw [plcAll]
    refine List.mem_append.mpr (.inr ?_)
    have := mem_plcAll (ks := ks) (i := i) (j + 1) h hr
    rw [show j + (i + 1) = j + 1 + i by omega]
    exact this
theorem sub_plc : ∀ {q : List Nat} {n : Nat} {d e : PyData}, TrT n d → sub d q = some e → q ∈ plc d
  | _, 0, _, _, h, _ => h.elim
  | [], n + 1, d, e, h, _ => by
    obtain ⟨s, ks, rfl, _, hk⟩ := h
    rw [plc_node]
    exact .head _
  | i :: q, n + 1, d, e, h, hs => by
    obtain ⟨s, ks, rfl, _, hk⟩ := h
    rw [sub_node] at hs
    rw [plc_node]
    refine .tail _ ?_
    cases c : ks[i]? with
    | none => rw [c] at hs; cases hs
    | some k =>
      rw [c] at hs
      have := mem_plcAll 0 c (sub_plc (hk k (List.mem_of_getElem? c)) hs)
      rw [Nat.zero_add] at this
      exact this
/-! the order of paths as data -/
theorem rowLt_N : ∀ a b : List Nat, rowLt (a.map fun n : Nat => PyData.int (n : Int)) (b.map fun n : Nat => PyData.int (n : Int)) = ltN a b
  | [], [] => lex_irrefl _
  | [], y :: b => by
    show rowLt [] (PyData.int (y : Int) :: _) = _
    unfold rowLt
    rw [toks_all_cons]
    simp only [keyToksAll]
    rw [lex_diff (O := itemOrd) (by simp)]
    rfl
  | x :: a, [] => by
    show rowLt (PyData.int (x : Int) :: _) [] = _
    unfold rowLt
    rw [toks_all_cons]
    simp only [keyToksAll]
    rw [lex_diff (O := itemOrd) (by simp)]
    rfl
  | x :: a, y :: b => by
    have e : rowLt (PyData.int (x : Int) :: a.map fun n : Nat => PyData.int (n : Int)) (PyData.int (y : Int) :: b.map fun n : Nat => PyData.int (n : Int)) = if (x : Int) = y then rowLt (a.map fun n : Nat => PyData.int (n : Int)) (b.map fun n : Nat => PyData.int (n : Int)) else decide ((x : Int) < y) := by
      unfold rowLt
      rw [dataLt_cons (by simp [alike]), dataLt_int]
      simp only [PyData.eqv, beq_iff_eq]
    rw [List.map_cons, List.map_cons, e, ltN, rowLt_N a b]
    by_cases h : x = y
    · rw [if_pos h, if_pos (by omega)]
    · rw [if_neg h, if_neg (by omega)]
      simp
theorem dataLt_path (a b : List Nat) : dataLt (pathD a) (pathD b) = ltN a b := by
  unfold pathD
  rw [dataLt_tuple, ← rowLt_N]
  rfl
theorem path_depth (q : List Nat) : (pathD q).depth ≤ 2 := by
  have h : ∀ q : List Nat, PyData.depthAll (q.map fun n : Nat => PyData.int (n : Int)) ≤ 1 := by
    intro q
    induction q with
    | nil => exact Nat.zero_le _
    | cons x r ih =>
      rw [List.map_cons, PyData.depthAll]
      have e : (PyData.int (x : Int)).depth = 0 := rfl
      omega
  have := h q
  unfold pathD
  rw [PyData.depth]
  omega
theorem alike_paths : ∀ a b : List Nat, alikeAll (a.map fun n : Nat => PyData.int (n : Int)) (b.map fun n : Nat => PyData.int (n : Int)) = true
  | [], _ => by rw [List.map_nil, alikeAll]
  | _ :: _, [] => by rw [List.map_cons, List.map_nil, alikeAll]
  | x :: a, y :: b => by rw [List.map_cons, List.map_cons, alikeAll, alike_paths a b]; rfl
theorem srt_paths (l : List (List Nat)) : SrtOk (l.map pathD) := by
  refine ⟨fun d hd d' hd' => ?_, .inr fun d hd => ?_, fun d hd => ?_⟩
  · obtain ⟨a, _, rfl⟩ := List.mem_map.mp hd
    obtain ⟨b, _, rfl⟩ := List.mem_map.mp hd'
    unfold pathD
    rw [alike]
    exact alike_paths a b
  · obtain ⟨a, _, rfl⟩ := List.mem_map.mp hd
    exact ⟨_, rfl⟩
  · obtain ⟨a, _, rfl⟩ := List.mem_map.mp hd
    have := path_depth a
    omega
/-- a rising list of paths is sorted -/
theorem srt_up {l : List (List Nat)} (h : Up l) : srt (l.map pathD) = l.map pathD := by
  refine List.mergeSort_of_pairwise ?_
  rw [List.pairwise_map]
  refine h.imp fun {a b} k => ?_
  show (!dataLt (pathD b) (pathD a)) = true
  rw [dataLt_path, ltN_asy k]
  rfl
/-! the ways -/
theorem sub_cut {n : Nat} {d e : PyData} {a b : List Nat} (h : TrT n d) (hs : sub d (a ++ b) = some e) : ∃ u, sub d a = some u := by
  rw [sub_app b h] at hs
  cases c : sub d a with
  | none => rw [c] at hs; cases hs
  | some u => exact ⟨u, rfl⟩
theorem sub_kid {n : Nat} {d e : PyData} {q : List Nat} (h : TrT n d) (hs : sub d q = some e) (j : Nat) : (∃ u, sub d (q ++ [j]) = some u) ↔ j < kidsN d q := by
  obtain ⟨s, ks, rfl, _⟩ := node_at h hs
  rw [kidsN_of hs, sub_app [j] h, hs]
  show (∃ u, sub (.tuple [.str s, .tuple ks]) [j] = some u) ↔ _
  rw [sub_node]
  constructor
  · rintro ⟨u, hu⟩
    cases c : ks[j]? with
    | none => rw [c] at hu; cases hu
    | some k => exact (List.getElem?_eq_some_iff.mp c).1
  · intro hj
    rw [List.getElem?_eq_getElem hj]
    exact ⟨_, sub_nil _⟩
end Tl
set_option Elab.async false
set_option linter.all false
set_option maxRecDepth 100000
set_option maxHeartbeats 4000000
/-! < and >= of data that are alike; x in a tuple of data; sorted(..) of a tuple. -/
set_option Elab.async false
set_option linter.all false
set_option maxRecDepth 100000
set_option maxHeartbeats 4000000
/-! Dicts keyed by tuples of numbers: read while they are walked, walked, made by a comprehension. -/
namespace Tl
open PySem PySem.Spec PyProof.Rows L2
/-! ### there, walked or not -/
def HasU (H : Hp) (a : Addr) (xs : List DU1) : Prop := H a = some (DU a xs) ∨ ∃ od, H a = some (.frz od (DU a xs))
section
variable {X : Cx} {pins : List (Addr × Obj)} {σ : L2.St} {H : Hp} {s : Shared} {a b : Addr} {xs : List DU1} {k : NestedKey} {A : Around} {E : Value → Shared → Prop}
theorem HasU.phi (I : Inv X pins σ H s) (e : HasU H a xs) : phiU a xs s.heap := by
  rcases e with e | ⟨od, e⟩
  · exact DU_get I.hok e
  · exact (show ObjOk X.prog X.w H s.heap a (.frz od (DU a xs)) from I.hok a _ e).2.1
theorem DV_of (I : Inv X pins σ H s) (e : HasU H a xs) (ku : KeysU X.K H a xs) : ∃ ys, Paired RelU xs ys ∧ s.heap.DictOfH (nestedKind X.prog X.w) a ys ∧ ∀ y ∈ ys, noTxt y.1 = true := by
  obtain ⟨ys, o, es, ep, h1, h2, h3, h4, h5⟩ := e.phi I
  refine ⟨ys, h1, ⟨o, es, ep, h2, h3, h4, h5 X.w, fun y hy => ?_, by rw [← Paired.fst h1]; exact ku.nd⟩, fun y hy => ?_⟩
  · obtain ⟨x, hx, r1, r2, _⟩ := Paired.memU h1 y hy
    obtain ⟨q1, q2, _⟩ := ku.ks x hx
    rw [← r1, ← r2]
    exact ⟨q1.is I rfl, q2⟩
  · obtain ⟨x, hx, r1, r2, _⟩ := Paired.memU h1 y hy
    rw [← r1]
    exact (ku.ks x hx).2.2
theorem v_getItem {v : V} {Q : Value → Shared → Prop} (hu : A.units + 20 < cLine) (I : Inv X pins σ H s) (e : HasU H a xs) (ku : KeysU X.K H a xs) (hk : KeyV X.K H (.ref b) k) (hd : k.depth ≤ 8) (hf : findU xs k = some v) (h : ∀ w' s', Inv X pins σ H s' → RelV v w' → Q w' s') :
    wpAny (model X.prog X.w) A (getItem (.ref a) (.ref b)) Q E s := by
  obtain ⟨ys, h1, dd, _⟩ := DV_of I e ku
  obtain ⟨w', hw, rw'⟩ := RelO.some_of (v := v) (o := (atKey ys k).map (·.2)) (by rw [← hf]; exact Paired.findU h1 k)
  obtain ⟨p, hp, hp2⟩ := Option.map_eq_some_iff.mp hw
  refine wpAny_getItem_heap (knd := nestedKind X.prog X.w) (k := k) (show A.units + 1 + 8 < cLine by omega) ⟨hk.is I rfl, hd⟩ dd hp ?_
  rw [hp2]
  exact h w' _ (I.tok _) rw'
end
structure IsV (K : PySem.W.Frag) (H : Hp) (x : V) (a : Addr) (xs : List DU1) : Prop where
  e : x = .ref a
  h : HasU H a xs
  k : KeysU K H a xs
/-! ### {k: v for x in ..} -/
section
variable {X : Cx}
theorem sw_trueD {kx vx : Expr} {gs : List Comprehension} {scope : Scope} {pos py : Pos} {y : Str} {l : Nat} {env : Env} (hk : env.scope.kind = .function) (hy : env.scope.names.lookup y = some .local) (hl : (py.line == pos.line) = true)
    (ha : (scope.names.any fun (n, k) => n == y && (k == .local || k == .cell)) = false) : swapsWith (.DictComp kx vx gs scope pos) (some (.Name y py)) l env = pure true := by
  have ky : env.kindOf y = some .local := hy
  have hb : env.blockKind = .function := by unfold Env.blockKind; rw [hk]; rfl
  unfold swapsWith
  simp only [hb, ky, ha, Expr.pos, hl]
  rfl
/-! ### for k in d -/
theorem _root_.L2.Inv.frzU {pins : List (Addr × Obj)} {σ : L2.St} {H : Hp} {s : Shared} {d : Addr} {o : Obj} {xs : List DU1} (I : Inv X pins σ H s) (h : H d = some (.frz o (DU d xs))) :
    s.heap.get? d = some o ∧ o.ExactDict ∧ ∃ (es : Array DictEntry) (ep : Nat), o.data = .dict es ep ∧ es.size = xs.length ∧
      ∀ (i : Nat) (x : DU1), xs[i]? = some x → ∃ en : DictEntry, es[i]? = some en ∧ en.key = .ref x.2.1 := by
  obtain ⟨hd, ⟨ys, o', es, ep, h1, h2, h3, h4, h5⟩, _⟩ := (show ObjOk X.prog X.w H s.heap d (.frz o (DU d xs)) from I.hok d _ h)
  rw [hd] at h2
  cases h2
  have hel := h5 X.w
  have hl := Paired.length h1
  refine ⟨hd, h3, es, ep, h4, by rw [← Array.length_toList, hel, List.length_map, hl], fun i x e => ?_⟩
  obtain ⟨y, hy, e1, e2, _⟩ := paired_get h1 e
  refine ⟨entU X.w y, ?_, ?_⟩
  · rw [← Array.getElem?_toList, hel, List.getElem?_map, hy]
    rfl
  · show Value.ref y.2.1 = _
    rw [e2]
/-- the keys of the locked dict at d, in order -/
def Itu (d : Addr) (o : Obj) (xs : List DU1) : It :=
  ⟨fun i H => H d = some (.frz o (DU d xs)) ∧ i < xs.length, fun i H x H' => H' = H ∧ ∃ y : DU1, xs[i]? = some y ∧ x = .ref y.2.1, fun i H => H d = some (.frz o (DU d xs)) ∧ xs.length ≤ i⟩
theorem turn_keysU {P : Program} {w : World} {K : PySem.W.Frag} {tg : Expr} {d : Addr} {o : Obj} {es : Array DictEntry} {ep : Nat} {xs : List DU1} (it : Addr) (hod : o.data = .dict es ep) : Turn P w K tg (Itu d o xs) [it] it (fun i h => h.IsKeyIter it d i xs.length ep) where
  mem := by simp
  obj := fun i h st b hb => by
    have e : b = it := by simpa using hb
    subst e
    obtain ⟨oi, e, c, dd⟩ := st
    exact ⟨oi, e, fun v z => by rw [dd] at z; cases z⟩
  keep := fun i h h' st k => st.at fun oi e => k it (by simp) oi e
  item := by
    intro X hP hw hK hc i pins s σ H E I hf st hg
    subst hP hw hK
    obtain ⟨hd, hi⟩ := hg
    obtain ⟨f0, f1, f2, f3, f4, f5⟩ := hf it (by simp)
    obtain ⟨hgd, hx, es', ep', hdt, hsz, ent⟩ := I.frzU hd
    obtain ⟨rfl, rfl⟩ := dict_ep hod hdt
    obtain ⟨y, hy⟩ : ∃ p, xs[i]? = some p := ⟨xs[i], List.getElem?_eq_getElem hi⟩
    obtain ⟨en, hen, hkey⟩ := ent i y hy
    refine next_key_item st hgd hdt hsz hen fun h' st' sb => ?_
    have I1 : Inv X pins σ H { s with heap := h' } := I.turned (t' := s.toks) (fun b ob hb e => (sb.2 b hb).trans e) f0 f1 f3 f4 f5
    obtain ⟨oi, e, c, dd⟩ := id st'
    exact ⟨en.key, rfl, go_of (s := { s with heap := h' }) e c dd (by decide) ⟨.ref y.2.1, H, I1, hkey, ⟨rfl, y, hy, rfl⟩, st', fun b hb => (hf b hb).1⟩⟩
  done := by
    intro X hP hw hK hc i pins s σ H E I hf st hg
    subst hP hw hK
    obtain ⟨hd, hi⟩ := hg
    obtain ⟨f0, f1, f2, f3, f4, f5⟩ := hf it (by simp)
    obtain ⟨hgd, hx, es', ep', hdt, hsz, ent⟩ := I.frzU hd
    obtain ⟨rfl, rfl⟩ := dict_ep hod hdt
    exact next_key_end (I.ok.hd hc) st hgd hdt hsz hi fun h' eb => ⟨rfl, I.turned (t' := s.toks) (fun b ob hb e => eb b ob hb e) f0 f1 f3 f4 f5⟩
  self := fun A i s Q E st h => by
    refine wpAny_pyIter_slot st.typeIs F.slot_dict_keyiterator_iter (wpAny_call_entry F.slot_dict_keyiterator_iter st.typeIs F.entry_dict_keyiterator_iter ?_ (F.args_dict_keyiterator_iter_1 _))
    show wpAny _ _ (ret (.ref it)) _ _ s
    exact wpAny_pure ⟨_, rfl, "dict_keyiterator", _, st.typeIs, F.slot_dict_keyiterator_next.lookup, h⟩
def iKeysU (td : TE) : TI := fun σ H R => td σ H fun x H1 => ∃ d o xs, x = .ref d ∧ H1 d = some (.frz o (DU d xs)) ∧ (d == sysModules) = false ∧ R (Itu d o xs) H1
theorem pi_keysU {tg e : Expr} {td : TE} (he : PE X e td) : PI X tg e (iKeysU td) := by
  refine ⟨fun pins s σ H R I h => ?_⟩
  refine thn (he.run pins s σ H _ I h) fun u s1 ⟨x, H1, I1, rx, d, o, xs, ex, hd, hs, q⟩ => ?_
  subst ex
  obtain rfl : u = Value.ref d := rx
  obtain ⟨hgd, hx, es, ep, hdt, hsz, ent⟩ := I1.frzU hd
  refine iter_keys hs hgd hx hdt (pi_one (tk := s1.toks) I1 _ (turn_keysU _ hdt) ⟨_, Heap.get?_push_size _ rfl, rfl, ?_⟩ q)
  rw [hsz] <;> rfl
theorem walk_keysU {d : Addr} {o : Obj} {xs : List DU1} : Walk (Itu d o xs) xs.length (fun H => H d = some (.frz o (DU d xs))) (fun i H x H' => H' = H ∧ ∃ y : DU1, xs[i]? = some y ∧ x = .ref y.2.1) :=
  ⟨fun _ _ hi q => ⟨q, hi⟩, fun _ q => ⟨q, Nat.le_refl _⟩, fun _ _ _ _ _ _ y => y⟩
/-! ### d[k], d.get(k), d walked or not -/
def tVGet (K : PySem.W.Frag) (td ty : TE) : TE := fun σ H Q => td σ H fun x H1 => ty σ H1 fun y H2 => ∃ a b xs k v, IsV K H2 x a xs ∧ IsK K H2 y b k ∧ findU xs k = some v ∧ Q v H2
theorem pe_vget {o i : Expr} {pos : Pos} {td ty : TE} (hu : X.A.units + 20 < cLine) (ho : PE X o td) (hi : PE X i ty) (hs : NoSl i) : PE X (.Subscript o i pos) (tVGet X.K td ty) := by
  refine ⟨fun pins s σ H Q I h => ?_⟩
  refine subD_of PySem.F.slot_dict_getitem.lookup hs (thn (ho.run pins s σ H _ I h) fun u s1 ⟨x, H1, I1, rx, q1⟩ => thn (hi.run pins s1 σ H1 _ I1 q1) fun iv s2 ⟨y, H2, I2, ry, a, b, xs, k, v, ⟨ex, ea, eu⟩, ⟨ey, ek, ed⟩, hf, q2⟩ => ?_)
  subst ex ey
  obtain rfl : u = Value.ref a := rx
  obtain rfl : iv = Value.ref b := ry
  obtain ⟨ys, _, dd, _⟩ := DV_of I2 ea eu
  exact ⟨dd.typeIs, v_getItem hu I2 ea eu ek ed hf fun w' s3 I3 rw' => ⟨v, H2, I3, rw', q2⟩⟩
end
/-! ### as memory tells -/
def toDT : MO → Option (List (PyData × W))
  | .dT kw => some kw
  | .lkT _ _ kw => some kw
  | _ => none
section
variable {K : PySem.W.Frag} {Wx : WX} {RE : REx}
theorem _root_.Tl.Rl.dV {F H : Hp} {M : Mem} (h : Rl K F H M) {a : Addr} {o : MO} {kw : List (PyData × W)} (e : M a = some o) (eo : toDT o = some kw) : ∃ xs, IsV K H (.ref a) a xs ∧ KeysU K F a xs ∧ xs.map (·.1) = kw.map (fun x => keyN x.1) ∧ (∀ x ∈ kw, keyOk x.1 = true) ∧ RWs K F (xs.map (·.2.2)) (kw.map (·.2)) := by
  cases o with
  | dT kw' =>
    cases eo
    obtain ⟨_, h1, xs, rfl, h2, h3, h4, h5⟩ := h.at_ a _ e
    exact ⟨xs, ⟨rfl, .inl h1, h2.mono h.fh⟩, h2, h3, h4, h5⟩
  | lkT od ys kw' =>
    cases eo
    obtain ⟨_, h1, rfl, h2, h3, h4, h5⟩ := h.at_ a _ e
    exact ⟨ys, ⟨rfl, .inr ⟨_, h1⟩, h2.mono h.fh⟩, h2, h3, h4, h5⟩
  | _ => cases eo
theorem _root_.Tl.Rl.lkT {F H : Hp} {M : Mem} (h : Rl K F H M) {a : Addr} {od : Obj} {xs : List DU1} {kw : List (PyData × W)} (e : M a = some (.lkT od xs kw)) : H a = some (.frz od (DU a xs)) ∧ KeysU K F a xs ∧ xs.map (·.1) = kw.map (fun x => keyN x.1) ∧ (∀ x ∈ kw, keyOk x.1 = true) ∧ RWs K F (xs.map (·.2.2)) (kw.map (·.2)) := by
  obtain ⟨_, h1, rfl, h2⟩ := h.at_ a _ e
  exact ⟨h1, h2⟩
/-- d[k] -/
@[reducible] def getV (O I : TDE) : TDE := fun ρ M R => O ρ M fun x M1 => I ρ M1 fun i M2 => gR x fun a => gU i fun k => ∃ o, M2 a = some o ∧ gO (toDT o) fun kw => gO (valU kw k) fun w => R w M2
theorem se_getV {td ty : TE} {O I : TDE} (h1 : SE K Wx RE td O) (h2 : SE K Wx RE ty I) : SE K Wx RE (tVGet K td ty) (getV O I) := fun F H M σ ρ R Q hr hx hs ht k =>
  h1 F H M σ ρ _ _ hr hx hs ht fun v H1 F1 M1 x r1 g1 rx q1 => h2 F1 H1 M1 σ ρ _ _ r1 (hx.mono g1) (hs.mono g1.ff) q1 fun v2 H2 F2 M2 x2 r2 g2 rx2 q3 => by
    obtain ⟨a, rfl, q2⟩ := gR_of q3
    obtain ⟨d, b, rfl, rfl, ik, _, _, _, o, e, q4⟩ := gU_of r2 rx2 q2
    obtain ⟨kw, eo, q4⟩ := gO_of q4
    obtain ⟨w, c, q5⟩ := gO_of q4
    obtain ⟨xs, iu, _, e1, _, e2⟩ := r2.dV e eo
    obtain ⟨v3, e3, e4⟩ := (find_U d e1 e2).1 w c
    rw [(rx.mono g2.ff).ref]
    exact ⟨a, b, xs, keyN d, v3, iu, ik, e3, k _ _ _ _ _ r2 (g1.trans g2) e4 q5⟩
theorem nth_dx {F : Hp} {a : Addr} : ∀ {xs : List DU1} {kw : List (PyData × W)} {i : Nat} {y : DU1} {p : PyData × W}, (∀ x ∈ xs, KeyV K F (.ref x.2.1) x.1 ∧ x.1.depth ≤ 8 ∧ noTxt x.1 = true) → xs.map (·.1) = kw.map (fun x => keyN x.1) → (∀ x ∈ kw, keyOk x.1 = true) → xs[i]? = some y → kw[i]? = some p → Dx K F (.ref y.2.1) p.1 := by
  intro xs kw i y p h1 h2 h3 h4 h5
  have e := congrArg (fun l => l[i]?) h2
  simp only [List.getElem?_map, h4, h5, Option.map_some, Option.some.injEq] at e
  refine keyV_dx (h3 p (List.mem_of_getElem? h5)) ?_
  rw [← e]
  exact (h1 y (List.mem_of_getElem? h4)).1
/-- over such a dict's keys -/
@[reducible] def itKeysU (T : TDE) : TDI := fun ρ M R => T ρ M fun x M1 => gR x fun d => ∃ od xs kw, M1 d = some (.lkT od xs kw) ∧ R (rows1 (kw.map fun p => W.d p.1)) (fun M => M d = some (.lkT od xs kw)) M1
theorem si_keysU {t : TE} {T : TDE} (h : SE K Wx RE t T) : SI K Wx RE (iKeysU t) false (itKeysU T) := fun F H M σ ρ R Q hr hx hs ht k =>
  h F H M σ ρ _ _ hr hx hs ht fun v H1 F1 M1 x r1 g1 rx h1 => by
    obtain ⟨d, rfl, od, xs, kw, e, h2⟩ := gR_of h1
    obtain ⟨e1, e2, e3, e4, e5⟩ := r1.lkT e
    refine ⟨d, od, xs, rx.ref, e1, e2.sm, k _ H1 F1 M1 _ _ r1 g1 ?_ h2⟩
    have hl : xs.length = kw.length := by
      have := congrArg List.length e3
      rwa [List.length_map, List.length_map] at this
    refine ItOk.of (walk_keysU (d := d) (o := od) (xs := xs)) (by unfold rows1; rw [List.length_map, List.length_map, hl]) (fun F2 H2 M2 r2 g2 hk => (r2.lkT hk).1) (fun i x H2 H3 F2 M2 row hrow r2 g2 hk y => ?_)
    obtain ⟨w, hw, rfl⟩ := rows1_get hrow
    rw [List.getElem?_map] at hw
    obtain ⟨q, hq, rfl⟩ := Option.map_eq_some_iff.mp hw
    obtain ⟨rfl, z, hz, rfl⟩ := y
    obtain ⟨_, f2, f3, f4, f5⟩ := r2.lkT hk
    exact ⟨_, rfl, rfl, .d (nth_dx (a := d) f2.ks f3 f4 hz hq)⟩
end
/-! ### a comprehension's dict, as memory tells -/
/-! ### <= and > of data -/
end Tl
set_option Elab.async false
set_option linter.all false
set_option maxRecDepth 100000
set_option maxHeartbeats 4000000
/-! A dict walked wherever it stands (a field); {k: v for ..} keyed by numbers or texts. -/
namespace Tl
open PySem PySem.Spec PyProof.Rows L2
section
variable {X : Cx}
theorem ps_setDcK {i : Nat} {y : Str} {py : Pos} {kx vx tg iter : Expr} {ifs : List Expr} {scope : Scope} {own : List (Str × Nat)} {pos spos : Pos} {wi : TI} {g : TG} {tt : TT} {tk tv : TE} (hc : X.calm = true) (hN : X.N.Nodup) (hy : X.N[i]? = some y) (hyl : X.env.scope.names.lookup y = some .local)
    (hsw : swapsWith (.DictComp kx vx [⟨tg, iter, ifs, 0⟩] scope pos) (some (.Name y py)) spos.line X.env = pure true) (hi : PI X tg iter wi) (ok : BlkOk X.N X.env.scope scope own)
    (hg : ∀ (s : Shared) (H : Hp) (C : Addr) (cl : List (Str × Addr)) (fp : List Addr), PG (X.blk s H scope (compEnvC scope cl C X.env) fp) tg g) (ht : ∀ (s : Shared) (H : Hp) (C : Addr) (cl : List (Str × Addr)) (fp : List Addr), PTs (X.blk s H scope (compEnvC scope cl C X.env) fp) ifs tt)
    (hk : ∀ (s : Shared) (H : Hp) (C : Addr) (cl : List (Str × Addr)) (fp : List Addr), PE (X.blk s H scope (compEnvC scope cl C X.env) fp) kx tk)
    (he : ∀ (s : Shared) (H : Hp) (C : Addr) (cl : List (Str × Addr)) (fp : List Addr), PE (X.blk s H scope (compEnvC scope cl C X.env) fp) vx tv) (hs : ∀ x, foldedSetIterable iter X.env x = pure x := by intro _; rfl) :
    PS X (.Assign [.Name y py] (.DictComp kx vx [⟨tg, iter, ifs, 0⟩] scope pos) spos) (tAsg (tDc wi g tt tk tv (own.map (·.2))) (gName i)) := by
  refine ⟨fun pins s σ H D I h => ?_⟩
  rw [exec_Assign_Name_used _ _ _ _ hsw]
  refine wpAny_bind (wpAny_standAt (wpAny_bind ?_))
  show wpAny _ X.A (do let _ ← comprehension (.DictComp kx vx [⟨tg, iter, ifs, 0⟩] scope pos) scope X.env (firstIterPos [⟨tg, iter, ifs, 0⟩] pos) newDict false (eval iter X.env) (some (assign (.Name y py) X.env))) _ _ s
  have h : tDc wi g tt tk tv (own.map (·.2)) σ H (fun x H1 => gName i x σ H1 D.nx) := h
  refine wpAny_bind (thn (dc_core (Qf := fun _ s' => SP X pins D .next s') hc hN I hi ok hg ht hk he hs h fun L C s' m H' I' q hn f => ?_) fun _ s' hq => wpAny_pure (wpAny_pure hq))
  show wpAny _ _ (assign (.Name y py) X.env (.ref L)) _ _ _
  refine wpAny_assign_Name (store_ok2 (v := V.ref L) I' hN hy (.inl hyl) rfl (fun s2 I2 ⟨a, sb, ha⟩ => ?_) (.inr hyl))
  obtain ⟨f0, f1, f2, f3, f4, f5⟩ := f
  have haC : C ≠ a := by
    rcases ha with z | z
    · rw [z]; exact f1
    · exact fun e => f4 y a z e.symm
  refine ⟨m, hn.sameBut sb haC, fun h3 sb3 => ?_⟩
  exact ⟨_, H', I2.turned (t' := s2.toks) (fun b o hb e => (sb3.2 b hb).trans e) f0 f1 f3 f4 f5, q⟩
end
section
variable {K : PySem.W.Frag} {Wx : WX} {RE : REx}
/-- a statement, or an expression, while the dict at d is walked -/
@[reducible] def lockA (T : TDS) : TDS := fun D ρ M => ∃ d kw, M d = some (.dT kw) ∧ ∀ od xs, T ⟨fun ρ' M' => M' d = some (.lkT od xs kw) ∧ D.nx ρ' (mset M' d (.dT kw)), fun v M' => M' d = some (.lkT od xs kw) ∧ D.rt v (mset M' d (.dT kw)), fun ρ' M' => M' d = some (.lkT od xs kw) ∧ D.bk ρ' (mset M' d (.dT kw)), fun ρ' M' => M' d = some (.lkT od xs kw) ∧ D.ct ρ' (mset M' d (.dT kw))⟩ ρ (mset M d (.lkT od xs kw))
theorem ss_lockA {t : TS} {T : TDS} (h : SSt K Wx RE t T) : SSt K Wx RE (tLock t) (lockA T) := fun F H M σ ρ D E hr hx hs ht k => by
  obtain ⟨d, kw, e, q⟩ := ht
  obtain ⟨xs, iu, e1, e2, e3, e4⟩ := hr.dT e
  refine ⟨d, DU d xs, iu.h, trivial, fun od => ?_⟩
  obtain ⟨r1, g1⟩ := hr.put (u := .frz od (DU d xs)) (o := .lkT od xs kw) e ⟨rfl, e1, e2, e3, e4⟩
  have back : ∀ {F2 H2 M2}, Rl K F2 H2 M2 → Gr F (upd H d (.frz od (DU d xs))) (mset M d (.lkT od xs kw)) F2 H2 M2 → M2 d = some (.lkT od xs kw) → H2 d = some (.frz od (DU d xs)) ∧ Rl K F2 (upd H2 d (DU d xs)) (mset M2 d (.dT kw)) ∧ Gr F2 H2 M2 F2 (upd H2 d (DU d xs)) (mset M2 d (.dT kw)) ∧ Gr F H M F2 (upd H2 d (DU d xs)) (mset M2 d (.dT kw)) := fun r2 g2 e3 => by
    obtain ⟨e5, e6⟩ := r2.lkT e3
    obtain ⟨r3, g3⟩ := r2.put (u := DU d xs) (o := .dT kw) e3 ⟨_, rfl, e6⟩
    exact ⟨e5, r3, g3, (g1.trans g2).trans g3⟩
  refine h F _ _ σ ρ _ _ r1 (hx.mono g1) (hs.mono g1.ff) (q od xs) ⟨?_, ?_, ?_, ?_⟩
  · intro σ' H2 F2 M2 ρ' r2 g2 s2 ⟨e3, q3⟩
    obtain ⟨b1, b2, b3, b4⟩ := back r2 g2 e3
    exact ⟨b1, k.nx σ' _ _ _ ρ' b2 b4 (s2.mono b3.ff) q3⟩
  · intro v H2 F2 M2 y r2 g2 ry ⟨e3, q3⟩
    obtain ⟨b1, b2, b3, b4⟩ := back r2 g2 e3
    exact ⟨b1, k.rt v _ _ _ y b2 b4 (ry.mono b3.ff) q3⟩
  · intro σ' H2 F2 M2 ρ' r2 g2 s2 ⟨e3, q3⟩
    obtain ⟨b1, b2, b3, b4⟩ := back r2 g2 e3
    exact ⟨b1, k.bk σ' _ _ _ ρ' b2 b4 (s2.mono b3.ff) q3⟩
  · intro σ' H2 F2 M2 ρ' r2 g2 s2 ⟨e3, q3⟩
    obtain ⟨b1, b2, b3, b4⟩ := back r2 g2 e3
    exact ⟨b1, k.ct σ' _ _ _ ρ' b2 b4 (s2.mono b3.ff) q3⟩
end
section
variable {J : It} {n : Nat} {G : Hp → Prop} {Y : Nat → Hp → V → Hp → Prop}
theorem dcK_it (w : Walk J n G Y) {g : TG} {tt : TT} {tk tv : TE} {vs : List Nat} {σ : L2.St} {H1 : Hp} {D : Addr} {Qd : Hp → Prop} (Pv : Nat → Hp → Prop) (h0 : Pv 0 (upd H1 D (.dK []))) (hG : ∀ i H, i ≤ n → Pv i H → G H)
    (hs : ∀ i x H H', i < n → Pv i H → Y i H x H' → g x (wipe σ vs) H' fun σ2 H2 => wipe σ2 vs = wipe σ vs ∧ tt σ2 H2 fun b H3 =>
      if b = true then tk σ2 H3 fun y H4 => tv σ2 H4 fun z H5 => ∃ kvs k, y = kV k ∧ H5 D = some (.dK kvs) ∧ kvs.length < sizeLine ∧ Pv (i + 1) (upd H5 D (.dK (putK kvs k z))) else Pv (i + 1) H3) (hd : ∀ H, Pv n H → Qd H) :
    ∃ W : Nat → Nat → Hp → Prop, (∃ m, W 0 m (upd H1 D (.dK []))) ∧ ∀ i m H, W i m H →
      (J.stop i H ∧ Qd H) ∨ (J.go i H ∧ ∃ Nx : Hp → Prop, (∀ H', Nx H' → ∃ m', m' < m ∧ W (i + 1) m' H') ∧ ∀ x H', J.yld i H x H' → g x (wipe σ vs) H' fun σ2 H2 => wipe σ2 vs = wipe σ vs ∧ tt σ2 H2 fun b H3 =>
        if b = true then tk σ2 H3 fun y H4 => tv σ2 H4 fun z H5 => ∃ kvs k, y = kV k ∧ H5 D = some (.dK kvs) ∧ kvs.length < sizeLine ∧ Nx (upd H5 D (.dK (putK kvs k z))) else Nx H3) := by
  refine ⟨fun i m H => m = n - i ∧ i ≤ n ∧ Pv i H, ⟨n, by simp, Nat.zero_le _, h0⟩, ?_⟩
  rintro i m H ⟨rfl, hi, p⟩
  have q := hG i H hi p
  by_cases hlt : i < n
  · refine .inr ⟨w.goes i H hlt q, Pv (i + 1), fun H' p' => ⟨n - (i + 1), by omega, rfl, hlt, p'⟩, fun x H' y => hs i x H H' hlt p (w.yields i H x H' hlt q y)⟩
  · have e : i = n := by omega
    subst e
    exact .inl ⟨w.stops H q, hd H p⟩
end
section
variable {K : PySem.W.Frag} {Wx : WX} {RE : REx}
/-- one after another; behind all the new dict -/
def dcGoK (b : TDG) (keep : Mem → Prop) (tk tv : TDE) (ρ : EnvD) (fin : List (L2.Key × W) → Mem → Prop) : List (List W) → List (L2.Key × W) → Mem → Prop
  | [], kw, M => keep M ∧ fin kw M
  | row :: rest, kw, M => keep M ∧ b row ρ M fun ρ1 M1 => tk ρ1 M1 fun y M2 => tv ρ1 M2 fun z M3 => gK y fun k => kw.length < sizeLine ∧ dcGoK b keep tk tv ρ fin rest (putKW kw k z) M3
@[reducible] def dcK (it : TDI) (b : TDG) (tk tv : TDE) (vs : List Nat) : TDE := fun ρ M R => it ρ M fun rows keep M1 => dcGoK b keep tk tv (hide ρ vs) (fun kw M2 => ∀ p, M2 p = none → R (.r p) (mset M2 p (.dK kw))) rows [] M1
theorem se_dcK {wi : TI} {g : TG} {tk tv : TE} {vs : List Nat} {pair : Bool} {it : TDI} {b : TDG} {Tk Tv : TDE} (hi : SI K Wx RE wi pair it) (hg : SG K g pair vs b) (hk : SE K (fun _ _ _ _ => False) (fun _ _ _ => False) tk Tk) (he : SE K (fun _ _ _ _ => False) (fun _ _ _ => False) tv Tv) (hv : vs.length ≤ 2 := by decide) :
    SE K Wx RE (tDc wi g tYes tk tv vs) (dcK it b Tk Tv vs) := fun F H M σ ρ R Q hr hx hs hT k =>
  hi F H M σ ρ _ _ hr hx hs hT fun J H1 F1 M1 rows keep r1 g1 iok h1 D hD => by
    obtain ⟨G, Y, wk, hG, hY⟩ := iok
    have x0 : ∀ (F H : Hp) (M : Mem), XOk K F H M (fun _ _ _ _ => False) (fun _ _ _ => False) := fun F H M F' H' M' σ ρ cls d x _ _ _ _ z => z
    refine dcK_it wk (fun i H2 => ∃ F2 M2 kw xs, Rl K F2 H2 M2 ∧ Gr F1 H1 M1 F2 H2 M2 ∧ H2 D = some (.dK xs) ∧ F2 D = none ∧ M2 D = none ∧ PrR K F2 xs kw ∧ dcGoK b keep Tk Tv (hide ρ vs) (fun kw M2 => ∀ p, M2 p = none → R (.r p) (mset M2 p (.dK kw))) (rows.drop i) kw M2)
      ⟨F1, M1, [], [], (r1.hid (u := .dK []) (r1.fh.free hD) (r1.new hD)), ⟨Same.refl _, fun c u q n => ⟨by rw [upd_ne (ne_of_none q hD)]; exact q, n⟩, fun _ _ _ _ f => f⟩, upd_same, r1.fh.free hD, r1.new hD, .nil, h1⟩
      (fun i H2 hi2 ⟨F2, M2, kw, xs, r2, g2, d1, d2, d3, d4, q⟩ => ?_) (fun i x H2 H3 hi2 ⟨F2, M2, kw, xs, r2, g2, d1, d2, d3, e2, q⟩ y => ?_) (fun H2 ⟨F2, M2, kw, xs, r2, g2, d1, d2, d3, d4, q⟩ => ?_)
    · have hk : keep M2 := by
        cases hd : rows.drop i with
        | nil => rw [hd] at q; exact q.1
        | cons a b => rw [hd] at q; exact q.1
      exact hG F2 H2 M2 r2 g2 hk
    · rw [List.drop_eq_getElem_cons hi2] at q
      obtain ⟨hkk, q⟩ := q
      have hrow : rows[i]? = some rows[i] := List.getElem?_eq_getElem hi2
      have yd := hY i x H2 H3 F2 M2 _ hrow r2 g2 hkk y
      have rel := (hs.mono (g1.trans g2).ff)
      refine hg F2 H2 M2 x H3 _ (wipe σ vs) (hide ρ vs) _ _ r2 yd (hide_rel rel vs) q fun σ4 H4 F4 M4 ρ4 r4 g4 s4 w4 q4 => ⟨by rw [w4]; exact wipe_wipe vs σ hv, ?_⟩
      have D4 := g4.un D _ d1 d3
      have F4D : F4 D = none := g4.nf D _ d1 d3 d2
      unfold tYes
      dsimp only
      rw [if_pos rfl]
      refine hk F4 H4 M4 σ4 ρ4 _ _ r4 (x0 _ _ _) s4 q4 fun v5 H5 F5 M5 z5 r5 g5 rz5 q5 => ?_
      have D5 := g5.un D _ D4.1 D4.2
      have F5D := g5.nf D _ D4.1 D4.2 F4D
      refine he F5 H5 M5 σ4 ρ4 _ _ r5 (x0 _ _ _) (s4.mono g5.ff) q5 fun v6 H6 F6 M6 z6 r6 g6 rz6 q6 => ?_
      have D6 := g6.un D _ D5.1 D5.2
      have F6D := g6.nf D _ D5.1 D5.2 F5D
      have gg := ((g4.trans g5).trans g6)
      obtain ⟨j, rfl, hl, q7⟩ := gK_of q6
      refine ⟨xs, j, (rz5.mono g6.ff).key, D6.1, by rw [e2.lenK]; exact hl, F6, M6, putKW kw j z6, putK xs j v6, r6.hid F6D D6.2, ?_, upd_same, F6D, D6.2, prR_putK (e2.mono gg.ff) rz6 j, q7⟩
      have g7 := g2.trans gg
      refine ⟨g7.ff, fun c u q n => ?_, g7.nf⟩
      have z : c ≠ D := ne_of_none q hD
      rw [upd_ne z]
      exact g7.un c u q n
    · rw [List.drop_length] at q
      have r' : Rl K F2 H2 (mset M2 D (.dK kw)) := by
        refine ⟨r2.fh, fun a o c => ?_, fun a o c => ?_⟩
        · by_cases z : a = D
          · rw [z]; exact d2
          · rw [mset_ne z] at c; exact r2.mf a o c
        · by_cases z : a = D
          · subst z
            rw [mset_same] at c
            cases c
            exact ⟨_, d1, xs, rfl, d4⟩
          · rw [mset_ne z] at c; exact r2.at_ a o c
      refine k _ H2 _ _ _ r' (g1.trans ⟨g2.ff, fun b u q n => ?_, g2.nf⟩) (.r D) (q.2 D d3)
      rw [mset_ne (ne_of_none q hD)]
      exact g2.un b u q n
end
/-! ### list(d) -/
def kD : L2.Key → PyData
  | .inl i => .int i
  | .inr x => .str x
@[reducible] def fListK : FL := fun xs M R => g1 xs fun x => gR x fun a => ∃ kw, M a = some (.dK kw) ∧ R (.d (.list (kw.map fun p => kD p.1))) M
theorem sc_listK {K : PySem.W.Frag} : SC K (fun xs H Q => ∃ (a : Addr) (kvs : List (L2.Key × V)), xs = [.ref a] ∧ Rd H a (.dK kvs) ∧ ∀ p, H p = none → Q (.ref p) (upd H p (.lst (kvs.map fun kv => kV kv.1)))) fListK := fun F H M vs xs R Q hr rx hf k => by
  obtain ⟨x, rfl, h1⟩ := g1_of hf
  obtain ⟨v, rfl, r⟩ := rx.one
  obtain ⟨a, rfl, kw, e, h2⟩ := gR_of h1
  obtain ⟨kv, e1, e2⟩ := hr.dK e
  rw [r.ref]
  refine ⟨a, kv, rfl, .inl e1, fun p hp => ?_⟩
  have dx : ∀ {kv : List (L2.Key × V)} {kw : List (L2.Key × W)}, kv.map (·.1) = kw.map (·.1) → DxL K F (kv.map fun x => kV x.1) (kw.map fun x => kD x.1) := by
    intro kv kw h
    induction kv generalizing kw with
    | nil => cases kw with
      | nil => exact .nil
      | cons y kw => simp at h
    | cons x kv ih => cases kw with
      | nil => simp at h
      | cons y kw =>
        rw [List.map_cons, List.map_cons] at h
        injection h with h1 h2
        refine .cons ?_ (ih h2)
        show Dx K F (kV x.1) (kD y.1)
        have h1 : x.1 = y.1 := h1
        rw [h1]
        cases y.1 with
        | inl i => exact .int i
        | inr z => exact .str z
  obtain ⟨r2, g2, rz⟩ := hr.list hp (dx e2.1)
  exact k _ _ _ _ _ r2 g2 rz h2
end Tl
set_option Elab.async false
set_option linter.all false
set_option maxRecDepth 100000
set_option maxHeartbeats 4000000
/-! Edits of sides, what a side leads to; trees that bear labels. -/
namespace Tl
open PySem L2
open PySem.W (alike alikeAll AllAlike dataLe dataLt keyToks keyToksAll)
inductive Edt where
  | name (q : List Nat) (t : Str)
  | out (q : List Nat)
  | put (q : List Nat) (n : Nat) (es : List PyData)
def Edt.q : Edt → List Nat
  | .name q _ => q
  | .out q => q
  | .put q _ _ => q
def Edt.w : Edt → Str
  | .name _ _ => "name"
  | .out _ => "out"
  | .put _ _ _ => "put"
def Edt.n : Edt → Nat
  | .put _ n _ => n
  | _ => 0
def Edt.isOut : Edt → Bool
  | .out _ => true
  | _ => false
def Edt.d : Edt → PyData
  | .name q t => .tuple [.str "name", pathD q, .str t]
  | .out q => .tuple [.str "out", pathD q]
  | .put q n es => .tuple [.str "put", pathD q, .int n, .tuple es]
def Edt.kT (e : Edt) : PyData := .tuple [pathD e.q, .str e.w, .int (e.n : Nat)]
/-- an edit of that tree -/
def EdOk (d : PyData) : Edt → Prop
  | .name q t => pathOk q ∧ (∃ e, sub d q = some e) ∧ isTag (.str t) = true
  | .out q => pathOk q ∧ (∃ e, sub d q = some e) ∧ q ≠ []
  | .put q n es => pathOk q ∧ (∃ e, sub d q = some e ∧ n ≤ (kidsD e).length) ∧ es ≠ [] ∧ (∀ x ∈ es, isTreeD x = true) ∧ es.length ≤ 1000
/-- the keys' order -/
def ltE (a b : Edt) : Bool := dataLt a.kT b.kT
def takesE (a b : Edt) : Bool := a.isOut && decide (a.q <+: b.q)
def goesE (es : List Edt) (e : Edt) : Bool := (match es.getLast? with
  | none => true
  | some l => ltE l e) && !es.any fun x => takesE x e || takesE e x
/-- a side, as far as its edits go -/
inductive SideR (d : PyData) : List Edt → Prop where
  | nil : SideR d []
  | snoc {es : List Edt} {e : Edt} (h : SideR d es) (ok : EdOk d e) (g : goesE es e = true) : SideR d (es ++ [e])
theorem SideR.ok {d : PyData} {es : List Edt} (h : SideR d es) : ∀ e ∈ es, EdOk d e := by
  induction h with
  | nil => intro e he; cases he
  | snoc h ok g ih =>
    intro x hx
    rcases List.mem_append.mp hx with hx | hx
    · exact ih x hx
    · rw [List.mem_singleton.mp hx]; exact ok
/-! ### keys -/
theorem ltE_tr {a b c : Edt} (h1 : ltE a b = true) (h2 : ltE b c = true) : ltE a c = true := (PyProof.Rows.listOrd PyProof.Rows.itemOrd).trans _ _ _ h1 h2
theorem SideR.up {d : PyData} {es : List Edt} (h : SideR d es) : es.Pairwise fun a b => ltE a b = true := by
  induction h with
  | nil => exact .nil
  | @snoc es e h ok g ih =>
    rw [List.pairwise_append]
    refine ⟨ih, List.pairwise_singleton _ _, fun a ha b hb => ?_⟩
    obtain rfl := List.mem_singleton.mp hb
    unfold goesE at g
    rw [Bool.and_eq_true] at g
    rcases List.eq_nil_or_concat es with rfl | ⟨r, l, rfl⟩
    · cases ha
    rw [List.concat_eq_append, List.getLast?_concat] at g
    rw [List.concat_eq_append] at ha
    rcases List.mem_append.mp ha with ha | ha
    · have h2 : ltE a l = true := by
        rw [List.concat_eq_append, List.pairwise_append] at ih
        exact ih.2.2 a ha l (.head _)
      exact ltE_tr h2 g.1
    · obtain rfl := List.mem_singleton.mp ha
      exact g.1
/-! ### what a side does -/
def tagS : PyData → Str
  | .str s => s
  | _ => ⟨#[]⟩
/-! ### trees that bear labels -/
inductive LT where
  | node (l : Option (List Nat)) (t : Str) (ks : List LT)
def LT.tag : LT → Str
  | .node _ t _ => t
def LT.kids : LT → List LT
  | .node _ _ ks => ks
mutual
/-- a tree without labels -/
def bare : PyData → LT
  | .tuple [s, .tuple ks] => .node none (tagS s) (bares ks)
  | _ => .node none ⟨#[]⟩ []
def bares : List PyData → List LT
  | [] => []
  | k :: ks => bare k :: bares ks
end
end Tl
set_option Elab.async false
set_option linter.all false
set_option maxRecDepth 100000
set_option maxHeartbeats 4000000
/-! Where labels stand; how great a tree behind a side is. -/
set_option Elab.async false
set_option linter.all false
set_option maxRecDepth 100000
set_option maxHeartbeats 4000000
/-! {k: v for x in .. if ..}; d.get(k, x). -/
set_option Elab.async false
set_option linter.all false
set_option maxRecDepth 100000
set_option maxHeartbeats 4000000
/-! The dicts of a side's edits. -/
namespace Tl
open PySem L2
theorem ok_path' (q : List Nat) : keyOk (pathD q) = true := by
  unfold pathD
  rw [keyOk]
  induction q with
  | nil => rfl
  | cons i q ih => rw [List.map_cons, keyOks, ih]; rfl
theorem pathD_inj' {p q : List Nat} (h : pathD p = pathD q) : p = q := by
  unfold pathD at h
  injection h with h
  induction p generalizing q with
  | nil => cases q with
    | nil => rfl
    | cons j q => cases h
  | cons i p ih => cases q with
    | nil => cases h
    | cons j q =>
      rw [List.map_cons, List.map_cons, List.cons.injEq] at h
      obtain ⟨h1, h2⟩ := h
      injection h1 with h1
      rw [ih h2, show i = j by omega]
theorem pathD_depth (q : List Nat) : (pathD q).depth ≤ 2 := by
  unfold pathD
  rw [PyData.depth]
  have : PyData.depthAll (q.map fun n : Nat => PyData.int (n : Int)) ≤ 1 := by
    induction q with
    | nil => exact Nat.zero_le _
    | cons i q ih =>
      rw [List.map_cons, PyData.depthAll]
      have : (PyData.int (i : Int)).depth ≤ 1 := by rw [PyData.depth]; omega
      omega
  omega
/-! ### the three dicts -/
end Tl
set_option Elab.async false
set_option linter.all false
set_option maxRecDepth 100000
set_option maxHeartbeats 4000000
/-! Handles by paths, as a dict has them. -/
namespace Tl
open PySem L2
abbrev Hs := List (List Nat × Nat)
def kwH (hs : Hs) : List (PyData × W) := hs.map fun x => (pathD x.1, W.d (.int (x.2 : Nat)))
def hOf (hs : Hs) (q : List Nat) : Option Nat := (hs.find? fun x => decide (x.1 = q)).map (·.2)
theorem keyN_iff (a b : List Nat) : keyN (pathD a) = keyN (pathD b) ↔ a = b :=
  ⟨fun h => pathD_inj' (keyN_inj _ _ (ok_path' a) (ok_path' b) h), fun h => by rw [h]⟩
theorem val_kwH (hs : Hs) (q : List Nat) : valU (kwH hs) (pathD q) = (hOf hs q).map fun n => W.d (.int (n : Nat)) := by
  unfold valU hOf kwH
  rw [List.find?_map]
  have e : ((fun x : PyData × W => decide (keyN x.1 = keyN (pathD q))) ∘ fun x : List Nat × Nat => (pathD x.1, W.d (.int (x.2 : Nat)))) = fun x => decide (x.1 = q) := by
    funext x
    exact decide_eq_decide.mpr (keyN_iff _ _)
  rw [e, Option.map_map, Option.map_map]
  rfl
theorem put_new {hs : Hs} {q : List Nat} {n : Nat} (h : hOf hs q = none) : putW2 (kwH hs) (pathD q) (W.d (.int (n : Nat))) = kwH (hs ++ [(q, n)]) := by
  unfold putW2
  rw [val_kwH, h]
  unfold kwH
  rw [List.map_append]
  rfl
theorem hOf_none {hs : Hs} {q : List Nat} (h : q ∉ hs.map (·.1)) : hOf hs q = none := by
  unfold hOf
  rw [List.find?_eq_none.mpr fun x hx => by
    rw [decide_eq_true_eq]
    exact fun z => h (List.mem_map.mpr ⟨x, hx, z⟩)]
  rfl
theorem hOf_mem {hs : Hs} {q : List Nat} {n : Nat} (nd : (hs.map (·.1)).Nodup) (h : (q, n) ∈ hs) : hOf hs q = some n := by
  induction hs with
  | nil => cases h
  | cons x r ih =>
    rw [List.map_cons, List.nodup_cons] at nd
    unfold hOf
    rcases List.mem_cons.mp h with rfl | h
    · rw [List.find?_cons_of_pos (by simp)]
      rfl
    · rw [List.find?_cons_of_neg]
      · exact ih nd.2 h
      · rw [decide_eq_true_eq]
        exact fun z => nd.1 (List.mem_map.mpr ⟨(q, n), h, z.symm⟩)
/-- handles for those that have none yet -/
def giveH : List (List Nat) → Hs → Nat → Hs × Nat
  | [], hs, n => (hs, n)
  | q :: r, hs, n => if (hOf hs q).isSome then giveH r hs n else giveH r (hs ++ [(q, n)]) (n + 1)
theorem give_new : ∀ (qs : List (List Nat)) (hs : Hs) (n : Nat), qs.Nodup → (∀ q ∈ qs, q ∉ hs.map (·.1)) → giveH qs hs n = (hs ++ qs.zipIdx n, n + qs.length)
  | [], hs, n, _, _ => by rw [giveH]; simp
  | q :: r, hs, n, nd, h => by
    rw [List.nodup_cons] at nd
    rw [giveH, hOf_none (h q (.head _))]
    simp only [Option.isSome_none, Bool.false_eq_true, if_false]
    rw [give_new r _ _ nd.2 fun x hx => ?_]
    · rw [List.append_assoc, List.zipIdx_cons, List.length_cons]
      refine Prod.ext rfl ?_
      show n + 1 + r.length = n + (r.length + 1)
      omega
    · rw [List.map_append, List.mem_append]
      rintro (z | z)
      · exact h x (.tail _ hx) z
      · rw [List.map_cons, List.map_nil, List.mem_singleton] at z
        rw [z] at hx
        exact nd.1 hx
end Tl
set_option Elab.async false
set_option linter.all false
set_option maxRecDepth 100000
set_option maxHeartbeats 8000000
namespace Tl
open PySem L2 RZ
local macro_rules
  | `(tactic| decreasing_trivial) => `(tactic| ((with_reducible (conv => whnf)); (repeat ((first | (with_reducible refine exI (by first | exact mset_same | assumption | (rw [mset_ne (by assumption)]; first | exact mset_same | assumption)) ?_) | (with_reducible refine exI2 (by first | exact mset_same | assumption | (rw [mset_ne (by assumption)]; first | exact mset_same | assumption)) ?_) | (with_reducible refine gPut_n ?_) | (with_reducible refine gPut_0 ?_) | (with_reducible refine (gPut_s (by decide +kernel)) ?_) | (with_reducible refine (gO_i hk_tr) ?_) | (with_reducible refine (gO_i hk_he) ?_) | (with_reducible refine (gO_i hk_en) ?_) | (with_reducible refine (gO_i hk_is) ?_) | (with_reducible refine (gO_i hk_tu) ?_) | (with_reducible refine hp_is ?_) | (with_reducible refine gDs_c ?_) | (with_reducible refine gDs_n ?_) | (with_reducible refine gNs_c ?_) | (with_reducible refine gNs_n ?_) | (with_reducible refine gO_i tyAny_lt ?_) | (with_reducible refine gIs_c ?_) | (with_reducible refine gIs_n ?_) | (with_reducible refine gBs_c ?_) | (with_reducible refine gBs_n ?_) | (with_reducible refine gSs_c ?_) | (with_reducible refine gSs_n ?_) | (with_reducible refine gO_i tyIs_int ?_) | (with_reducible refine gO_i tyIs_bool ?_) | (with_reducible refine gO_i tyIs_str ?_) | (with_reducible refine gO_i tyIs_tuple ?_) | (with_reducible refine gO_i tyIs_list ?_) | (with_reducible refine gDs_i ?_) | (with_reducible refine gO_i (Eq.refl _) ?_) | (with_reducible refine gO_i (by assumption) ?_) | (with_reducible refine gO_i at_0 ?_) | (with_reducible refine gO_i at_m0 ?_) | (with_reducible refine gO_i at_1 ?_) | (with_reducible refine gO_i at_m1 ?_) | (with_reducible refine gO_i at_2 ?_) | (with_reducible refine gO_i at_m2 ?_) | (with_reducible refine gO_i at_3 ?_) | (with_reducible refine gO_i at_m3 ?_) | (with_reducible refine gO_i at_4 ?_) | (with_reducible refine gO_i at_m4 ?_) | (with_reducible refine gO_i at_5 ?_) | (with_reducible refine gO_i at_m5 ?_) | (with_reducible refine gO_i at_6 ?_) | (with_reducible refine gO_i at_m6 ?_) | (with_reducible refine gO_i at_7 ?_) | (with_reducible refine gO_i at_m7 ?_) | (with_reducible refine IfB.ngf ?_) | (with_reducible refine IfB.ngt ?_) | (with_reducible refine IfB.not ?_) | (with_reducible refine IfB.nil ?_) | (with_reducible refine IfB.nilT ?_) | (with_reducible refine IfB.f isE_c ?_) | (with_reducible refine IfB.t isE_n ?_) | (with_reducible refine IfB.t ?gha ?_; (case gha => rfl)) | (with_reducible refine IfB.f ?gha ?_; (case gha => rfl)) | (with_reducible refine IfB.t ?gha ?_; (case gha => assumption)) | (with_reducible refine IfB.f ?gha ?_; (case gha => assumption)) | (with_reducible refine IfB.yes (Eq.refl _) ?_) | (with_reducible refine IfB.yes ?gha ?_; (case gha => (first | omega | (simp only [len_c, len_n, List.length_map]; omega)))) | (with_reducible refine IfB.no ?gha ?_; (case gha => (first | omega | (simp only [len_c, len_n, List.length_map]; omega)))) | (with_reducible refine IfB.t ?gha ?_; (case gha => decide +kernel)) | (with_reducible refine IfB.f ?gha ?_; (case gha => decide +kernel))); (with_reducible (conv => whnf))))))
local macro_rules
  | `(tactic| decreasing_trivial_pre_omega) => `(tactic| (decreasing_trivial; (repeat ((first | ((with_reducible refine And.intro ?gha ?_); (case gha => (first | assumption | omega | exact rfl | (exact mset_same) | (exact ⟨_, mset_same⟩) | (exact Exists.intro _ (by first | exact mset_same | assumption | (rw [mset_ne (by assumption)]; first | exact mset_same | assumption))) | (exact sm_of (by omega) (by omega)) | (exact sz1000 (by first | omega | (simp; done) | (simp; omega))) | (exact Or.inl ⟨by decide, by decide⟩) | decide | (simp; done) | (refine ⟨?_, ?_⟩ <;> (first | assumption | omega | exact rfl | (exact mset_same) | (exact ⟨_, mset_same⟩) | (exact Exists.intro _ (by first | exact mset_same | assumption | (rw [mset_ne (by assumption)]; first | exact mset_same | assumption))) | (exact sm_of (by omega) (by omega)) | (exact sz1000 (by first | omega | (simp; done) | (simp; omega))) | (exact Or.inl ⟨by decide, by decide⟩) | decide | (simp; done))) | (refine ⟨?_, ?_, ?_⟩ <;> (first | assumption | omega | exact rfl | (exact mset_same) | (exact ⟨_, mset_same⟩) | (exact Exists.intro _ (by first | exact mset_same | assumption | (rw [mset_ne (by assumption)]; first | exact mset_same | assumption))) | (exact sm_of (by omega) (by omega)) | (exact sz1000 (by first | omega | (simp; done) | (simp; omega))) | (exact Or.inl ⟨by decide, by decide⟩) | decide | (simp; done))) | (refine ⟨?_, ?_, ?_, ?_⟩ <;> (first | assumption | omega | exact rfl | (exact mset_same) | (exact ⟨_, mset_same⟩) | (exact Exists.intro _ (by first | exact mset_same | assumption | (rw [mset_ne (by assumption)]; first | exact mset_same | assumption))) | (exact sm_of (by omega) (by omega)) | (exact sz1000 (by first | omega | (simp; done) | (simp; omega))) | (exact Or.inl ⟨by decide, by decide⟩) | decide | (simp; done)))))) | (with_reducible refine exW (by first | exact mset_same | assumption | (rw [mset_ne (by assumption)]; first | exact mset_same | assumption)) ?_)); decreasing_trivial))))
/-- a make with handles: its fields -/
def hF (l t : W) (b : Bool) (r c : Int) (p e : Addr) (n u : Int) : List (Str × W) := [("hearers", .d (.list [])), ("busy", .d (.bool b)), ("rounds", .d (.int r)), ("acted", .d (.int c)), ("last", l), ("tree", t), ("held", .r p), ("ends", .r e), ("issued", .d (.int n)), ("turns", .d (.int u))]
def h0 (l : W) (b : Bool) (r c : Int) : List (Str × W) := [("hearers", .d (.list [])), ("busy", .d (.bool b)), ("rounds", .d (.int r)), ("acted", .d (.int c)), ("last", l)]
section
variable {l t d : W} {b : Bool} {r c n u i : Int} {p e : Addr}
theorem hk_tr : List.lookup ("tree" : Str) (hF l t b r c p e n u) = some t := by simp only [hF, List.lookup]; rfl
theorem hk_he : List.lookup ("held" : Str) (hF l t b r c p e n u) = some (.r p) := by simp only [hF, List.lookup]; rfl
theorem hk_en : List.lookup ("ends" : Str) (hF l t b r c p e n u) = some (.r e) := by simp only [hF, List.lookup]; rfl
theorem hk_is : List.lookup ("issued" : Str) (hF l t b r c p e n u) = some (.d (.int n)) := by simp only [hF, List.lookup]; rfl
theorem hk_tu : List.lookup ("turns" : Str) (hF l t b r c p e n u) = some (.d (.int u)) := by simp only [hF, List.lookup]; rfl
theorem hp_is {k : List (Str × W) → Prop} (q : k (hF l t b r c p e i u)) : gPut "issued" (.d (.int i)) (hF l t b r c p e n u) k := by
  unfold hF at q ⊢
  exact gPut_s (by decide +kernel) (gPut_s (by decide +kernel) (gPut_s (by decide +kernel) (gPut_s (by decide +kernel) (gPut_s (by decide +kernel) (gPut_s (by decide +kernel) (gPut_s (by decide +kernel) (gPut_s (by decide +kernel) (gPut_0 q))))))))
theorem hF_len : (hF l t b r c p e n u).length < 1000 := by
  show (10 : Nat) < 1000
  decide
end
structure HtC (K : PySem.W.Frag) (C : Addr) : Prop where
  cls : L2.Cls K C
  n1 : NoAttr K C "hearers"
  n2 : NoAttr K C "busy"
  n3 : NoAttr K C "rounds"
  n4 : NoAttr K C "acted"
  n5 : NoAttr K C "last"
  n6 : NoAttr K C "tree"
  n7 : NoAttr K C "held"
  n8 : NoAttr K C "ends"
  n9 : NoAttr K C "issued"
  n10 : NoAttr K C "turns"
section
variable {P : Program} {w : World} {K : PySem.W.Frag} {mg : Str → Option Value} {base : Heap}
@[reducible] def tfGive (C : Addr) : TF := fun ws M R _ => ∃ (a dx p e : Addr) (l : W) (t : PyData) (b : Bool) (r c u : Int) (hs : Hs) (n : Nat), ws = [.r a] ∧ (M a = some (.ins C dx (hF l (.d t) b r c p e (n : Nat) u)) ∧ M p = some (.dT (kwH hs)) ∧ TrT 12 t ∧ nn t ≤ 60 ∧ hs.length ≤ 60) ∧ ∀ M', M' a = some (.ins C dx (hF l (.d t) b r c p e ((giveH (plc t) hs n).2 : Nat) u)) → M' p = some (.dT (kwH (giveH (plc t) hs n).1)) → (∀ x, x ≠ a → x ≠ p → M' x = M x) → R (.d .none) M'
abbrev sHtGi : Stmt := inClsN (top 83) 2
theorem scHtGi : FnScope ["self", "path"] ["self"] (defScope sHtGi) := ⟨rfl, rfl, rfl, by decide +kernel, rfl, by decide +kernel, by decide +kernel⟩
theorem ok_htGive {f C : Addr} {fd : FuncData} {k j : Nat} (F : Fun K "give_handles" "HandleTree.give_handles" sHtGi f fd) (MHandleTree : HtC K C) (Upaths_from : Use P w K mg base "paths_from" ["tree", "path"] j (spD K 2 (tfPls 12))) (hj : j ≤ k) : FnOk P w K mg base CX0 (k + 1) f fd ["self"] (spD K 1 (tfGive C)) := by
  refine okD F scHtGi rfl fun cdv A outer s H E hr => ?_
  refine ⟨_, _, (pss_one (ps_for PassesOwn.never rfl (pi_list (pe_call Upaths_from.ok (hr.mono (by omega)) rfl Upaths_from.m Upaths_from.kp Upaths_from.b .nil pass0 (pa_cons (pe_fld (pv 0) (by rfl)) (pa_cons (pe_tup pa_nil) pa_nil)))) (pg_name (i := 1) scHtGi.nd rfl (.inl rfl)) (pss_one (ps_if (pt_cmpR (op_notInU (hu20 hr)) (pv 1) (pe_fld (pv 0) (by rfl)) (by rfl)) (pss_cons (ps_asg (pe_fld (pv 0) (by rfl)) (pg_sub (pe_fld (pv 0) (by rfl)) (pv 1) (set_U (hu20 hr))))
        (pss_one (ps_fldaug (pv 0) pe_int in_add))) pss_nil)))),
    (ss_for (si_lst (se_call (sa_cons (se_fld se_nm) (sa_cons (se_tup sa_nil) sa_nil)))) sg_name (ss_if (st_test (se_op so_ninU se_nm (se_fld se_nm))) (ss_cons (ss_setU (se_fld se_nm) (se_fld se_nm) se_nm)
        (ss_augF so_add se_nm se_int)) ss_nil)), fun ws M R RX hl h => ?_⟩
  obtain ⟨a, dx, p, e, l, t, b, r, c, u, hs, n, rfl, ⟨hM, hP, ht, hn, hl1⟩, h2⟩ := h
  have nap : a ≠ p := fun z => by rw [z, hP] at hM; cases hM
  have c1 := MHandleTree.cls
  have c6 := MHandleTree.n6
  have c7 := MHandleTree.n7
  have c9 := MHandleTree.n9
  simp only [start0, len_c, len_n, map_c, map_n, app_c, app_n, rep_0, rep_s, Nat.reduceAdd, Nat.reduceSub]
  decreasing_trivial_pre_omega
  refine ⟨t, [], rfl, ⟨ht, by omega, by decide⟩, ?_⟩
  decreasing_trivial_pre_omega
  have e1 : (pls [] (plc t)).map W.d = (plc t).map fun q => W.d (pathD q) := by rw [show pls [] (plc t) = (plc t).map pathD from rfl, List.map_map]; rfl
  have pl := plc_len ht
  rw [e1]
  refine for1 (fun i ρ M' => ∃ (hs' : Hs) (n' : Nat) (y : Option W), ρ = [some (.r a), y] ∧ M' a = some (.ins C dx (hF l (.d t) b r c p e (n' : Nat) u)) ∧ M' p = some (.dT (kwH hs')) ∧ (∀ x, x ≠ a → x ≠ p → M' x = M x) ∧ hs'.length ≤ 60 + i ∧ giveH ((plc t).drop i) hs' n' = giveH (plc t) hs n)
    ⟨hs, n, none, rfl, hM, hP, fun _ _ _ => rfl, by omega, rfl⟩ (fun _ _ _ _ _ => trivial) (fun i q ρ M' N hi pv hN => ?_) (fun ρ M' pv => ?_)
  · obtain ⟨hs', n', y, rfl, hM', hP', hK', hl', hg⟩ := pv
    have hi2 := (List.getElem?_eq_some_iff.mp hi).1
    have hl := hF_len (l := l) (t := .d t) (b := b) (r := r) (c := c) (n := (n' : Nat)) (u := u) (p := p) (e := e)
    have k1 := ok_path' q
    have k2 : (pathD q).depth ≤ 8 := by
      have := pathD_depth q
      omega
    have v := val_kwH hs' q
    rw [List.drop_eq_getElem_cons hi2, (List.getElem?_eq_some_iff.mp hi).2, giveH] at hg
    unfold pathD at k1 k2 v ⊢
    decreasing_trivial_pre_omega
    refine ⟨_, hP', ?_⟩
    rw [v]
    cases cq : hOf hs' q with
    | some m =>
      rw [cq] at hg
      decreasing_trivial_pre_omega
      refine IfB.t rfl ?_
      decreasing_trivial_pre_omega
      exact hN _ _ ⟨hs', n', _, rfl, hM', hP', hK', by omega, hg⟩
    | none =>
      rw [cq] at hg
      have pn := put_new (n := n') cq
      unfold pathD at pn
      decreasing_trivial_pre_omega
      refine ⟨_, hP', small1000 (by unfold kwH; rw [List.length_map]; omega), ?_⟩
      rw [pn]
      have hA2 : mset M' p (.dT (kwH (hs' ++ [(q, n')]))) a = some (.ins C dx (hF l (.d t) b r c p e (n' : Nat) u)) := by rw [mset_ne nap]; exact hM'
      have hP2 : mset M' p (.dT (kwH (hs' ++ [(q, n')]))) p = some (.dT (kwH (hs' ++ [(q, n')]))) := mset_same
      have hK2 : ∀ x, x ≠ a → x ≠ p → mset M' p (.dT (kwH (hs' ++ [(q, n')]))) x = M x := fun x z1 z2 => by rw [mset_ne z2]; exact hK' x z1 z2
      decreasing_trivial_pre_omega
      refine hp_is (i := (n' : Int) + 1) ?_
      rw [show (n' : Int) + 1 = ((n' + 1 : Nat) : Int) by omega]
      refine hN _ _ ⟨hs' ++ [(q, n')], n' + 1, _, rfl, mset_same, by rw [mset_ne nap.symm]; exact hP2, fun x z1 z2 => by rw [mset_ne z1]; exact hK2 x z1 z2, by rw [List.length_append, List.length_singleton]; omega, hg⟩
  · obtain ⟨hs', n', y, rfl, hM', hP', hK', hl', hg⟩ := pv
    rw [List.drop_length, giveH] at hg
    rw [← hg] at h2
    decreasing_trivial_pre_omega
    exact h2 _ hM' hP' hK'
end
end Tl
set_option Elab.async false
set_option linter.all false
set_option maxRecDepth 100000
set_option maxHeartbeats 8000000
namespace Tl
open PySem L2 RZ
local macro_rules
  | `(tactic| decreasing_trivial) => `(tactic| ((with_reducible (conv => whnf)); (repeat ((first | (with_reducible refine exI (by first | exact mset_same | assumption | (rw [mset_ne (by assumption)]; first | exact mset_same | assumption)) ?_) | (with_reducible refine exI2 (by first | exact mset_same | assumption | (rw [mset_ne (by assumption)]; first | exact mset_same | assumption)) ?_) | (with_reducible refine gPut_n ?_) | (with_reducible refine gPut_0 ?_) | (with_reducible refine (gPut_s (by decide +kernel)) ?_) | (with_reducible refine (gO_i hk_tr) ?_) | (with_reducible refine (gO_i hk_he) ?_) | (with_reducible refine (gO_i hk_en) ?_) | (with_reducible refine (gO_i hk_is) ?_) | (with_reducible refine (gO_i hk_tu) ?_) | (with_reducible refine hp_is ?_) | (with_reducible refine gDs_c ?_) | (with_reducible refine gDs_n ?_) | (with_reducible refine gNs_c ?_) | (with_reducible refine gNs_n ?_) | (with_reducible refine gO_i tyAny_lt ?_) | (with_reducible refine gIs_c ?_) | (with_reducible refine gIs_n ?_) | (with_reducible refine gBs_c ?_) | (with_reducible refine gBs_n ?_) | (with_reducible refine gSs_c ?_) | (with_reducible refine gSs_n ?_) | (with_reducible refine gO_i tyIs_int ?_) | (with_reducible refine gO_i tyIs_bool ?_) | (with_reducible refine gO_i tyIs_str ?_) | (with_reducible refine gO_i tyIs_tuple ?_) | (with_reducible refine gO_i tyIs_list ?_) | (with_reducible refine gDs_i ?_) | (with_reducible refine gO_i (Eq.refl _) ?_) | (with_reducible refine gO_i (by assumption) ?_) | (with_reducible refine gO_i at_0 ?_) | (with_reducible refine gO_i at_m0 ?_) | (with_reducible refine gO_i at_1 ?_) | (with_reducible refine gO_i at_m1 ?_) | (with_reducible refine gO_i at_2 ?_) | (with_reducible refine gO_i at_m2 ?_) | (with_reducible refine gO_i at_3 ?_) | (with_reducible refine gO_i at_m3 ?_) | (with_reducible refine gO_i at_4 ?_) | (with_reducible refine gO_i at_m4 ?_) | (with_reducible refine gO_i at_5 ?_) | (with_reducible refine gO_i at_m5 ?_) | (with_reducible refine gO_i at_6 ?_) | (with_reducible refine gO_i at_m6 ?_) | (with_reducible refine gO_i at_7 ?_) | (with_reducible refine gO_i at_m7 ?_) | (with_reducible refine IfB.ngf ?_) | (with_reducible refine IfB.ngt ?_) | (with_reducible refine IfB.not ?_) | (with_reducible refine IfB.nil ?_) | (with_reducible refine IfB.nilT ?_) | (with_reducible refine IfB.f isE_c ?_) | (with_reducible refine IfB.t isE_n ?_) | (with_reducible refine IfB.t ?gha ?_; (case gha => rfl)) | (with_reducible refine IfB.f ?gha ?_; (case gha => rfl)) | (with_reducible refine IfB.t ?gha ?_; (case gha => assumption)) | (with_reducible refine IfB.f ?gha ?_; (case gha => assumption)) | (with_reducible refine IfB.yes (Eq.refl _) ?_) | (with_reducible refine IfB.yes ?gha ?_; (case gha => (first | omega | (simp only [len_c, len_n, List.length_map]; omega)))) | (with_reducible refine IfB.no ?gha ?_; (case gha => (first | omega | (simp only [len_c, len_n, List.length_map]; omega)))) | (with_reducible refine IfB.t ?gha ?_; (case gha => decide +kernel)) | (with_reducible refine IfB.f ?gha ?_; (case gha => decide +kernel))); (with_reducible (conv => whnf))))))
local macro_rules
  | `(tactic| decreasing_trivial_pre_omega) => `(tactic| (decreasing_trivial; (repeat ((first | ((with_reducible refine And.intro ?gha ?_); (case gha => (first | assumption | omega | exact rfl | (exact mset_same) | (exact ⟨_, mset_same⟩) | (exact Exists.intro _ (by first | exact mset_same | assumption | (rw [mset_ne (by assumption)]; first | exact mset_same | assumption))) | (exact sm_of (by omega) (by omega)) | (exact sz1000 (by first | omega | (simp; done) | (simp; omega))) | (exact Or.inl ⟨by decide, by decide⟩) | decide | (simp; done) | (refine ⟨?_, ?_⟩ <;> (first | assumption | omega | exact rfl | (exact mset_same) | (exact ⟨_, mset_same⟩) | (exact Exists.intro _ (by first | exact mset_same | assumption | (rw [mset_ne (by assumption)]; first | exact mset_same | assumption))) | (exact sm_of (by omega) (by omega)) | (exact sz1000 (by first | omega | (simp; done) | (simp; omega))) | (exact Or.inl ⟨by decide, by decide⟩) | decide | (simp; done))) | (refine ⟨?_, ?_, ?_⟩ <;> (first | assumption | omega | exact rfl | (exact mset_same) | (exact ⟨_, mset_same⟩) | (exact Exists.intro _ (by first | exact mset_same | assumption | (rw [mset_ne (by assumption)]; first | exact mset_same | assumption))) | (exact sm_of (by omega) (by omega)) | (exact sz1000 (by first | omega | (simp; done) | (simp; omega))) | (exact Or.inl ⟨by decide, by decide⟩) | decide | (simp; done))) | (refine ⟨?_, ?_, ?_, ?_⟩ <;> (first | assumption | omega | exact rfl | (exact mset_same) | (exact ⟨_, mset_same⟩) | (exact Exists.intro _ (by first | exact mset_same | assumption | (rw [mset_ne (by assumption)]; first | exact mset_same | assumption))) | (exact sm_of (by omega) (by omega)) | (exact sz1000 (by first | omega | (simp; done) | (simp; omega))) | (exact Or.inl ⟨by decide, by decide⟩) | decide | (simp; done)))))) | (with_reducible refine exW (by first | exact mset_same | assumption | (rw [mset_ne (by assumption)]; first | exact mset_same | assumption)) ?_)); decreasing_trivial))))
abbrev sI_NoHandle : Stmt := inClsN (top 9) 0
theorem scI_NoHandle : FnScope ["self", "handle"] ["self", "handle"] (defScope sI_NoHandle) := ⟨rfl, rfl, rfl, by decide +kernel, rfl, by decide +kernel, by decide +kernel⟩
theorem okI_NoHandle {P : Program} {w : World} {K : PySem.W.Frag} {mg : Str → Option Value} {base : Heap} {f C : Addr} {fd : FuncData} {k : Nat} (F : Fun K "__init__" "NoHandle.__init__" sI_NoHandle f fd) (o : OexC K C) (n : PySem.W.findIn K (.ref C) "handle" = some none) : FnOk P w K mg base CX0 (k + 1) f fd ["self", "handle"] (spInitF K C "handle") := by
  refine F.ok scI_NoHandle (fun vs H Q E h => ?_) (fun cdv A outer s H vs Q E hr h => ?_)
  · obtain ⟨_, _, rfl, _⟩ := h
    rfl
  obtain ⟨a, v, rfl, ha, q⟩ := h
  exact ⟨_, pss_one (ps_ost (pv 0) (pv 1)), _, rfl, _, rfl, a, C, rfl, o, n, .inl ⟨ha, fun dx h1 h2 => q dx h1 h2⟩⟩
structure Cls (K : PySem.W.Frag) (mg : Str → Option Value) where
  c_TreeError : Addr
  c_NoThing : Addr
  c_NoFit : Addr
  c_Cut : Addr
  c_NoTree : Addr
  c_NoPath : Addr
  c_NoDeed : Addr
  c_NoHandle : Addr
  c_NoPlace : Addr
  c_Root : Addr
  c_Within : Addr
  c_TooMany : Addr
  c_TooDeep : Addr
  c_Gone : Addr
  c_Stopped : Addr
  c_Busy : Addr
  c_Make : Addr
  c_HandleTree : Addr
  m_TreeError : mg "TreeError" = some (.ref c_TreeError)
  m_NoThing : mg "NoThing" = some (.ref c_NoThing)
  m_NoFit : mg "NoFit" = some (.ref c_NoFit)
  m_Cut : mg "Cut" = some (.ref c_Cut)
  m_NoTree : mg "NoTree" = some (.ref c_NoTree)
  m_NoPath : mg "NoPath" = some (.ref c_NoPath)
  m_NoDeed : mg "NoDeed" = some (.ref c_NoDeed)
  m_NoHandle : mg "NoHandle" = some (.ref c_NoHandle)
  m_NoPlace : mg "NoPlace" = some (.ref c_NoPlace)
  m_Root : mg "Root" = some (.ref c_Root)
  m_Within : mg "Within" = some (.ref c_Within)
  m_TooMany : mg "TooMany" = some (.ref c_TooMany)
  m_TooDeep : mg "TooDeep" = some (.ref c_TooDeep)
  m_Gone : mg "Gone" = some (.ref c_Gone)
  m_Stopped : mg "Stopped" = some (.ref c_Stopped)
  m_Busy : mg "Busy" = some (.ref c_Busy)
  m_Make : mg "Make" = some (.ref c_Make)
  m_HandleTree : mg "HandleTree" = some (.ref c_HandleTree)
  e_NoTree : Er K mg "NoTree" c_NoTree
  x_NoTree : ExcC K c_NoTree
  v_NoTree : PySem.W.kitOne K (.ref c_NoTree) (.type "ValueError") = some true
  k_NoTree_TreeError : PySem.W.kitOne K (.ref c_NoTree) (.ref c_TreeError) = some true
  k_NoTree_NoThing : PySem.W.kitOne K (.ref c_NoTree) (.ref c_NoThing) = some true
  k_NoTree_NoFit : PySem.W.kitOne K (.ref c_NoTree) (.ref c_NoFit) = some false
  k_NoTree_Cut : PySem.W.kitOne K (.ref c_NoTree) (.ref c_Cut) = some false
  k_NoTree_NoTree : PySem.W.kitOne K (.ref c_NoTree) (.ref c_NoTree) = some true
  k_NoTree_NoPath : PySem.W.kitOne K (.ref c_NoTree) (.ref c_NoPath) = some false
  k_NoTree_NoDeed : PySem.W.kitOne K (.ref c_NoTree) (.ref c_NoDeed) = some false
  k_NoTree_NoHandle : PySem.W.kitOne K (.ref c_NoTree) (.ref c_NoHandle) = some false
  k_NoTree_NoPlace : PySem.W.kitOne K (.ref c_NoTree) (.ref c_NoPlace) = some false
  k_NoTree_Root : PySem.W.kitOne K (.ref c_NoTree) (.ref c_Root) = some false
  k_NoTree_Within : PySem.W.kitOne K (.ref c_NoTree) (.ref c_Within) = some false
  k_NoTree_TooMany : PySem.W.kitOne K (.ref c_NoTree) (.ref c_TooMany) = some false
  k_NoTree_TooDeep : PySem.W.kitOne K (.ref c_NoTree) (.ref c_TooDeep) = some false
  k_NoTree_Gone : PySem.W.kitOne K (.ref c_NoTree) (.ref c_Gone) = some false
  k_NoTree_Stopped : PySem.W.kitOne K (.ref c_NoTree) (.ref c_Stopped) = some false
  k_NoTree_Busy : PySem.W.kitOne K (.ref c_NoTree) (.ref c_Busy) = some false
  k_NoTree_Make : PySem.W.kitOne K (.ref c_NoTree) (.ref c_Make) = some false
  k_NoTree_HandleTree : PySem.W.kitOne K (.ref c_NoTree) (.ref c_HandleTree) = some false
  h_NoTree_TreeError : PySem.W.exmOne K (.ref c_NoTree) (.ref c_TreeError) = some true
  h_NoTree_NoTree : PySem.W.exmOne K (.ref c_NoTree) (.ref c_NoTree) = some true
  e_NoPath : Er K mg "NoPath" c_NoPath
  x_NoPath : ExcC K c_NoPath
  v_NoPath : PySem.W.kitOne K (.ref c_NoPath) (.type "ValueError") = some true
  k_NoPath_TreeError : PySem.W.kitOne K (.ref c_NoPath) (.ref c_TreeError) = some true
  k_NoPath_NoThing : PySem.W.kitOne K (.ref c_NoPath) (.ref c_NoThing) = some true
  k_NoPath_NoFit : PySem.W.kitOne K (.ref c_NoPath) (.ref c_NoFit) = some false
  k_NoPath_Cut : PySem.W.kitOne K (.ref c_NoPath) (.ref c_Cut) = some false
  k_NoPath_NoTree : PySem.W.kitOne K (.ref c_NoPath) (.ref c_NoTree) = some false
  k_NoPath_NoPath : PySem.W.kitOne K (.ref c_NoPath) (.ref c_NoPath) = some true
  k_NoPath_NoDeed : PySem.W.kitOne K (.ref c_NoPath) (.ref c_NoDeed) = some false
  k_NoPath_NoHandle : PySem.W.kitOne K (.ref c_NoPath) (.ref c_NoHandle) = some false
  k_NoPath_NoPlace : PySem.W.kitOne K (.ref c_NoPath) (.ref c_NoPlace) = some false
  k_NoPath_Root : PySem.W.kitOne K (.ref c_NoPath) (.ref c_Root) = some false
  k_NoPath_Within : PySem.W.kitOne K (.ref c_NoPath) (.ref c_Within) = some false
  k_NoPath_TooMany : PySem.W.kitOne K (.ref c_NoPath) (.ref c_TooMany) = some false
  k_NoPath_TooDeep : PySem.W.kitOne K (.ref c_NoPath) (.ref c_TooDeep) = some false
  k_NoPath_Gone : PySem.W.kitOne K (.ref c_NoPath) (.ref c_Gone) = some false
  k_NoPath_Stopped : PySem.W.kitOne K (.ref c_NoPath) (.ref c_Stopped) = some false
  k_NoPath_Busy : PySem.W.kitOne K (.ref c_NoPath) (.ref c_Busy) = some false
  k_NoPath_Make : PySem.W.kitOne K (.ref c_NoPath) (.ref c_Make) = some false
  k_NoPath_HandleTree : PySem.W.kitOne K (.ref c_NoPath) (.ref c_HandleTree) = some false
  h_NoPath_TreeError : PySem.W.exmOne K (.ref c_NoPath) (.ref c_TreeError) = some true
  h_NoPath_NoTree : PySem.W.exmOne K (.ref c_NoPath) (.ref c_NoTree) = some false
  e_NoPlace : ErF K mg "NoPlace" "NoPlace.__init__" "path" sI_NoPlace c_NoPlace
  x_NoPlace : ExcC K c_NoPlace
  v_NoPlace : PySem.W.kitOne K (.ref c_NoPlace) (.type "ValueError") = some true
  k_NoPlace_TreeError : PySem.W.kitOne K (.ref c_NoPlace) (.ref c_TreeError) = some true
  k_NoPlace_NoThing : PySem.W.kitOne K (.ref c_NoPlace) (.ref c_NoThing) = some false
  k_NoPlace_NoFit : PySem.W.kitOne K (.ref c_NoPlace) (.ref c_NoFit) = some true
  k_NoPlace_Cut : PySem.W.kitOne K (.ref c_NoPlace) (.ref c_Cut) = some false
  k_NoPlace_NoTree : PySem.W.kitOne K (.ref c_NoPlace) (.ref c_NoTree) = some false
  k_NoPlace_NoPath : PySem.W.kitOne K (.ref c_NoPlace) (.ref c_NoPath) = some false
  k_NoPlace_NoDeed : PySem.W.kitOne K (.ref c_NoPlace) (.ref c_NoDeed) = some false
  k_NoPlace_NoHandle : PySem.W.kitOne K (.ref c_NoPlace) (.ref c_NoHandle) = some false
  k_NoPlace_NoPlace : PySem.W.kitOne K (.ref c_NoPlace) (.ref c_NoPlace) = some true
  k_NoPlace_Root : PySem.W.kitOne K (.ref c_NoPlace) (.ref c_Root) = some false
  k_NoPlace_Within : PySem.W.kitOne K (.ref c_NoPlace) (.ref c_Within) = some false
  k_NoPlace_TooMany : PySem.W.kitOne K (.ref c_NoPlace) (.ref c_TooMany) = some false
  k_NoPlace_TooDeep : PySem.W.kitOne K (.ref c_NoPlace) (.ref c_TooDeep) = some false
  k_NoPlace_Gone : PySem.W.kitOne K (.ref c_NoPlace) (.ref c_Gone) = some false
  k_NoPlace_Stopped : PySem.W.kitOne K (.ref c_NoPlace) (.ref c_Stopped) = some false
  k_NoPlace_Busy : PySem.W.kitOne K (.ref c_NoPlace) (.ref c_Busy) = some false
  k_NoPlace_Make : PySem.W.kitOne K (.ref c_NoPlace) (.ref c_Make) = some false
  k_NoPlace_HandleTree : PySem.W.kitOne K (.ref c_NoPlace) (.ref c_HandleTree) = some false
  h_NoPlace_TreeError : PySem.W.exmOne K (.ref c_NoPlace) (.ref c_TreeError) = some true
  h_NoPlace_NoTree : PySem.W.exmOne K (.ref c_NoPlace) (.ref c_NoTree) = some false
  e_NoHandle : ErF K mg "NoHandle" "NoHandle.__init__" "handle" sI_NoHandle c_NoHandle
  x_NoHandle : ExcC K c_NoHandle
  v_NoHandle : PySem.W.kitOne K (.ref c_NoHandle) (.type "ValueError") = some true
  k_NoHandle_TreeError : PySem.W.kitOne K (.ref c_NoHandle) (.ref c_TreeError) = some true
  k_NoHandle_NoThing : PySem.W.kitOne K (.ref c_NoHandle) (.ref c_NoThing) = some true
  k_NoHandle_NoFit : PySem.W.kitOne K (.ref c_NoHandle) (.ref c_NoFit) = some false
  k_NoHandle_Cut : PySem.W.kitOne K (.ref c_NoHandle) (.ref c_Cut) = some false
  k_NoHandle_NoTree : PySem.W.kitOne K (.ref c_NoHandle) (.ref c_NoTree) = some false
  k_NoHandle_NoPath : PySem.W.kitOne K (.ref c_NoHandle) (.ref c_NoPath) = some false
  k_NoHandle_NoDeed : PySem.W.kitOne K (.ref c_NoHandle) (.ref c_NoDeed) = some false
  k_NoHandle_NoHandle : PySem.W.kitOne K (.ref c_NoHandle) (.ref c_NoHandle) = some true
  k_NoHandle_NoPlace : PySem.W.kitOne K (.ref c_NoHandle) (.ref c_NoPlace) = some false
  k_NoHandle_Root : PySem.W.kitOne K (.ref c_NoHandle) (.ref c_Root) = some false
  k_NoHandle_Within : PySem.W.kitOne K (.ref c_NoHandle) (.ref c_Within) = some false
  k_NoHandle_TooMany : PySem.W.kitOne K (.ref c_NoHandle) (.ref c_TooMany) = some false
  k_NoHandle_TooDeep : PySem.W.kitOne K (.ref c_NoHandle) (.ref c_TooDeep) = some false
  k_NoHandle_Gone : PySem.W.kitOne K (.ref c_NoHandle) (.ref c_Gone) = some false
  k_NoHandle_Stopped : PySem.W.kitOne K (.ref c_NoHandle) (.ref c_Stopped) = some false
  k_NoHandle_Busy : PySem.W.kitOne K (.ref c_NoHandle) (.ref c_Busy) = some false
  k_NoHandle_Make : PySem.W.kitOne K (.ref c_NoHandle) (.ref c_Make) = some false
  k_NoHandle_HandleTree : PySem.W.kitOne K (.ref c_NoHandle) (.ref c_HandleTree) = some false
  h_NoHandle_TreeError : PySem.W.exmOne K (.ref c_NoHandle) (.ref c_TreeError) = some true
  h_NoHandle_NoTree : PySem.W.exmOne K (.ref c_NoHandle) (.ref c_NoTree) = some false
def kwG (gs : List (Int × Int)) : List (L2.Key × W) := gs.map fun x => (.inl x.1, W.d (.int x.2))
/-- a make with handles stands at a: its tree, its handles, those that are gone, how many were given, how many deeds were done -/
def HtAt (C : Addr) (M : Mem) (a : Addr) (t : PyData) (hs : Hs) (gs : List (Int × Int)) (n u : Nat) : Prop := ∃ (dx p e : Addr) (l : W) (b : Bool) (r c : Int), M a = some (.ins C dx (hF l (.d t) b r c p e (n : Nat) (u : Nat))) ∧ M p = some (.dT (kwH hs)) ∧ M e = some (.dK (kwG gs))
/-- as it begins -/
def HtNew (C : Addr) (M : Mem) (a : Addr) (t : PyData) : Prop := HtAt C M a t (plc t).zipIdx [] (plc t).length 0
@[reducible] def tfHtPlant (C : Addr) : TF := fun ws M R _ => ∃ (a dx : Addr) (l : W) (b : Bool) (r c : Int) (t : PyData), ws = [.r a, .d t] ∧ (M a = some (.ins C dx (h0 l b r c)) ∧ TrT 12 t ∧ nn t ≤ 60) ∧ ∀ M', HtNew C M' a t → (∀ x, x ≠ a → M x ≠ none → M' x = M x) → R (.d .none) M'
@[reducible] def tfHtMake (C cT : Addr) : TF := fun ws M R RX => ∃ (a dx : Addr) (d : PyData), ws = [.r a, .d d] ∧ (M a = some (.ins C dx []) ∧ txt d = true) ∧ (isTreeD d = true → ∀ M', HtNew C M' a d → (∀ x, x ≠ a → M x ≠ none → M' x = M x) → R (.d .none) M') ∧ (isTreeD d = false → RX ⟨.ref cT, []⟩ M)
section
variable {P : Program} {w : World} {K : PySem.W.Frag} {mg : Str → Option Value} {base : Heap}
abbrev sHtPl : Stmt := inClsN (top 83) 0
theorem scHtPl : FnScope ["self", "tree"] ["self", "tree"] (defScope sHtPl) := ⟨rfl, rfl, rfl, by decide +kernel, rfl, by decide +kernel, by decide +kernel⟩
theorem ok_htPlant {f C : Addr} {fd : FuncData} {k j : Nat} (F : Fun K "plant" "HandleTree.plant" sHtPl f fd) (MHandleTree : HtC K C) (UHandleTree_give_handles : UseM P w K mg base C "give_handles" ["self"] j (spD K 1 (tfGive C))) (hj : j ≤ k) : FnOk P w K mg base CX0 (k + 1) f fd ["self", "tree"] (spD K 2 (tfHtPlant C)) := by
  refine okD F scHtPl rfl fun cdv A outer s H E hr => ?_
  refine ⟨_, _, (pss_cons (ps_fld (pv 0) (pv 1) (by rfl))
    (pss_cons (ps_fld (pv 0) pe_unew (by rfl))
    (pss_cons (ps_fld (pv 0) pe_dnewK (by rfl))
    (pss_cons (ps_fld (pv 0) pe_int (by rfl))
    (pss_cons (ps_fld (pv 0) pe_int (by rfl))
    (pss_one (ps_expr (pe_meth0 (E := fun _ _ _ => False) (pv 0) MHandleTree.cls UHandleTree_give_handles.hm UHandleTree_give_handles.ok (hr.mono (by omega)) UHandleTree_give_handles.b .nil pass0)))))))),
    (ss_cons (ss_fld se_nm se_nm)
    (ss_cons (ss_fld se_newU se_nm)
    (ss_cons (ss_fld se_newK se_nm)
    (ss_cons (ss_fld se_int se_nm)
    (ss_cons (ss_fld se_int se_nm)
    (ss_drop (se_meth se_nm sa_nil))))))), fun ws M R RX hl h => ?_⟩
  obtain ⟨a, dx, l, b, r, c, t, rfl, ⟨hM, ht, hn⟩, h2⟩ := h
  have c1 := MHandleTree.cls
  have c6 := MHandleTree.n6
  have c7 := MHandleTree.n7
  have c8 := MHandleTree.n8
  have c9 := MHandleTree.n9
  have c10 := MHandleTree.n10
  unfold h0 at hM
  simp only [start0, len_c, len_n, map_c, map_n, app_c, app_n, rep_0, rep_s, Nat.reduceAdd, Nat.reduceSub]
  decreasing_trivial_pre_omega
  let f1 : List (Str × W) := [("hearers", .d (.list [])), ("busy", .d (.bool b)), ("rounds", .d (.int r)), ("acted", .d (.int c)), ("last", l), ("tree", .d t)]
  have A1 : mset M a (.ins C dx f1) a = some (.ins C dx f1) := mset_same
  have K1 : ∀ x, x ≠ a → M x ≠ none → mset M a (.ins C dx f1) x = M x := fun x z _ => mset_ne z
  intro p hp
  show nmT 0 _ (mset (mset M a (.ins C dx f1)) p (.dT [])) _
  change mset M a (.ins C dx f1) p = none at hp
  have hpM : M p = none := by
    have n0 : p ≠ a := fun z => by rw [z, mset_same] at hp; cases hp
    rwa [mset_ne n0] at hp
  generalize mset M a (.ins C dx f1) = M1 at hp A1 K1 ⊢
  have n1 : a ≠ p := fun z => by rw [z, hp] at A1; cases A1
  have A2 : mset M1 p (.dT []) a = some (.ins C dx f1) := by rw [mset_ne n1]; exact A1
  have P2 : mset M1 p (.dT []) p = some (.dT []) := mset_same
  have K2 : ∀ x, x ≠ a → M x ≠ none → mset M1 p (.dT []) x = M x := fun x h1 h2 => by
    have := K1 x h1 h2
    rw [mset_ne (fun z => h2 (by rw [← this, z]; exact hp))]
    exact this
  generalize mset M1 p (.dT []) = M2 at A2 P2 K2 ⊢
  have l1 : f1.length < 1000 := by show (6 : Nat) < 1000; decide
  unfold f1 at A2 l1
  decreasing_trivial_pre_omega
  let f2 : List (Str × W) := [("hearers", .d (.list [])), ("busy", .d (.bool b)), ("rounds", .d (.int r)), ("acted", .d (.int c)), ("last", l), ("tree", .d t), ("held", .r p)]
  have A3 : mset M2 a (.ins C dx f2) a = some (.ins C dx f2) := mset_same
  have P3 : mset M2 a (.ins C dx f2) p = some (.dT []) := by rw [mset_ne n1.symm]; exact P2
  have K3 : ∀ x, x ≠ a → M x ≠ none → mset M2 a (.ins C dx f2) x = M x := fun x h1 h2 => by rw [mset_ne h1]; exact K2 x h1 h2
  intro e he
  show nmT 0 _ (mset (mset M2 a (.ins C dx f2)) e (.dK [])) _
  change mset M2 a (.ins C dx f2) e = none at he
  generalize mset M2 a (.ins C dx f2) = M3 at he A3 P3 K3 ⊢
  have n2 : a ≠ e := fun z => by rw [z, he] at A3; cases A3
  have n3 : p ≠ e := fun z => by rw [z, he] at P3; cases P3
  have A4 : mset M3 e (.dK []) a = some (.ins C dx f2) := by rw [mset_ne n2]; exact A3
  have P4 : mset M3 e (.dK []) p = some (.dT []) := by rw [mset_ne n3]; exact P3
  have Q4 : mset M3 e (.dK []) e = some (.dK []) := mset_same
  have K4 : ∀ x, x ≠ a → M x ≠ none → mset M3 e (.dK []) x = M x := fun x h1 h2 => by
    have := K3 x h1 h2
    rw [mset_ne (fun z => h2 (by rw [← this, z]; exact he))]
    exact this
  generalize mset M3 e (.dK []) = M4 at A4 P4 Q4 K4 ⊢
  have l2 : f2.length < 1000 := by show (7 : Nat) < 1000; decide
  unfold f2 at A4 l2
  decreasing_trivial_pre_omega
  rw [mset_mset, mset_mset]
  refine ⟨a, dx, p, e, l, t, b, r, c, 0, [], 0, rfl, ⟨mset_same, by rw [mset_ne n1.symm]; exact P4, ht, hn, Nat.zero_le _⟩, fun M' q1 q2 q3 => ?_⟩
  have gn := give_new (plc t) [] 0 ((plc_up ht).imp fun {a b} z e => by rw [e, ltN_irr] at z; cases z) (fun q hq z => by cases z)
  rw [gn, Nat.zero_add] at q1
  rw [gn, List.nil_append] at q2
  decreasing_trivial_pre_omega
  refine h2 M' ⟨dx, p, e, l, b, r, c, q1, q2, ?_⟩ fun x z1 z2 => ?_
  · rw [q3 e n2.symm n3.symm, mset_ne n2.symm]
    exact Q4
  · have z3 : x ≠ p := fun z => z2 (by rw [z]; exact hpM)
    rw [q3 x z1 z3, mset_ne z1]
    exact K4 x z1 z2
abbrev sMkIn : Stmt := inClsN (top 81) 0
theorem scMkIn : FnScope ["self", "tree"] ["self", "tree"] (defScope sMkIn) := ⟨rfl, rfl, rfl, by decide +kernel, rfl, by decide +kernel, by decide +kernel⟩
theorem ok_htInit {f C cT : Addr} {fd : FuncData} {k j : Nat} (F : Fun K "__init__" "Make.__init__" sMkIn f fd) (MMake : HtC K C) (Ucheck_tree : UseX P w K mg base "check_tree" ["thing"] j (spD K 1 (tfChk isTreeD cT))) (UMake_plant : UseM P w K mg base C "plant" ["self", "tree"] j (spD K 2 (tfHtPlant C))) (hj : j ≤ k) : FnOk P w K mg base (L2.CX P w) (k + 1) f fd ["self", "tree"] (spD K 2 (tfHtMake C cT)) := by
  refine okDX F scMkIn rfl fun cdv A outer s H E hr => ?_
  refine ⟨_, fun RE => _, (pss_cons (ps_expr (pe_callS Ucheck_tree.ok (hr.mono (by omega)) rfl Ucheck_tree.m Ucheck_tree.kp Ucheck_tree.b (fun σ => passAt (takes_of (E := E) rfl rfl rfl rfl) σ) (pa_cons (pv 1) pa_nil)))
    (pss_cons (ps_fld (pv 0) (pe_lst pa_nil) (by rfl))
    (pss_cons (ps_fld (pv 0) pe_bl (by rfl))
    (pss_cons (ps_fld (pv 0) pe_int (by rfl))
    (pss_cons (ps_fld (pv 0) pe_int (by rfl))
    (pss_cons (ps_fld (pv 0) pe_non (by rfl))
    (pss_one (ps_expr (pe_meth (E := fun _ _ _ => False) (pv 0) MMake.cls UMake_plant.hm UMake_plant.ok (hr.mono (by omega)) UMake_plant.b .nil pass0 (pa_cons (pv 1) pa_nil)))))))))), fun RE => (ss_cons (ss_drop (se_callX (sa_cons se_nm sa_nil)))
    (ss_cons (ss_fld (se_lsf sa_nil) se_nm)
    (ss_cons (ss_fld se_bl se_nm)
    (ss_cons (ss_fld se_int se_nm)
    (ss_cons (ss_fld se_int se_nm)
    (ss_cons (ss_fld se_non se_nm)
    (ss_drop (se_meth se_nm (sa_cons se_nm sa_nil))))))))), fun ws M R RX hl h => ?_⟩
  obtain ⟨a, dx, d, rfl, ⟨hM, h2⟩, h3, h4⟩ := h
  have c1 := MMake.cls
  have c2 := MMake.n1
  have c3 := MMake.n2
  have c4 := MMake.n3
  have c5 := MMake.n4
  have c6 := MMake.n5
  simp only [start0, len_c, len_n, map_c, map_n, app_c, app_n, rep_0, rep_s, Nat.reduceAdd, Nat.reduceSub]
  decreasing_trivial_pre_omega
  refine ⟨fun c => ?_, h4⟩
  obtain ⟨t1, t2⟩ := tree_iff.mp c
  decreasing_trivial_pre_omega
  refine ⟨a, dx, .d .none, false, 0, 0, d, rfl, ⟨mset_same, t1, t2⟩, ?_⟩
  rw [mset_mset, mset_mset, mset_mset, mset_mset]
  intro M' q1 q2
  exact h3 c M' q1 fun x z1 z2 => by rw [q2 x z1 (by rw [mset_ne z1]; exact z2), mset_ne z1]
end
end Tl
set_option Elab.async false
set_option linter.all false
set_option maxRecDepth 100000
set_option maxHeartbeats 4000000
/-! sorted(xs, key=len), xs tuples: stably by their lengths. -/
set_option Elab.async false
set_option linter.all false
set_option maxRecDepth 100000
set_option maxHeartbeats 4000000
/-! A lambda made by a def: what stands behind its making; a lambda of one name called on a tuple, at the heap alone. -/
namespace Tl
open PySem PySem.Spec L2 PyProof.Rows
open PySem.W (KeyPure)
/-- the table at P has a code object more, or none -/
def TabStep (H : Hp) (P : Addr) (q : Str) (H1 : Hp) : Prop := H1 = H ∨ ∃ (ps more : Array Value) (b : Addr), H P = some (.tbl ps) ∧ H b = none ∧ TriplesOk (ps ++ more).toList ∧
  (∀ (z : Pos) (x : Value), codeAmong z (ps ++ more).toList = some x → codeAmong z ps.toList = some x ∨ x = .ref b) ∧ H1 = upd (upd H P (.tbl (ps ++ more))) b (LamX.CodeO b q)
theorem TabStep.ext {H H1 : Hp} {P : Addr} {q : Str} (t : TabStep H P q H1) {a : Addr} {u : HO} (h : H a = some u) (n : ∀ ps, u ≠ .tbl ps) : H1 a = some u := by
  rcases t with rfl | ⟨ps, more, b, h1, h2, _, _, rfl⟩
  · exact h
  · rw [upd_ne (ne_of_none h h2), upd_ne (fun z => n ps (Option.some.inj (h.symm.trans (by rw [z]; exact h1))))]
    exact h
theorem TabStep.none {H H1 : Hp} {P : Addr} {q : Str} (t : TabStep H P q H1) {a : Addr} (h : H1 a = none) : H a = none := by
  rcases t with rfl | ⟨ps, more, b, h1, h2, _, _, rfl⟩
  · exact h
  · by_cases e : a = b
    · rw [e]; exact h2
    · rw [upd_ne e] at h
      by_cases e2 : a = P
      · rw [e2, upd_same] at h; cases h
      · rw [upd_ne e2] at h; exact h
theorem TabStep.sqL {K : PySem.W.Frag} {H H1 : Hp} {P : Addr} {q : Str} (t : TabStep H P q H1) {a : Addr} {xs : List V} (h : SqL K H a xs) : SqL K H1 a xs := by
  rcases h with h | h
  · rcases h with h | ⟨o, h⟩
    · exact .inl (.inl (t.ext h fun ps z => by cases z))
    · exact .inl (.inr ⟨o, t.ext h fun ps z => by cases z⟩)
  · exact .inr h
end Tl
set_option Elab.async false
set_option linter.all false
set_option maxRecDepth 100000
set_option maxHeartbeats 4000000
/-! Two lambdas over pairs (number, path): p[1] + (i,) and (len(p[1]), p[1]). -/
namespace Tl
open PySem PySem.Spec L2 PyProof.Rows
open PySem.W (KeyPure)
/-- the pair (number, path) and what its path holds -/
structure PairAt (h : Heap) (v : Value) (ds : List PyData) : Prop where
  ex : ∃ (a c : Addr) (n : Value) (its : List Value), v = .ref a ∧ IsTup h a [n, .ref c].toArray ∧ IsTup h c its.toArray ∧ ReadsAll h its ds []
theorem isTup_keep {h g : Heap} (k : ∀ a o, h.get? a = some o → g.get? a = some o) {a : Addr} {xs : Array Value} (t : IsTup h a xs) : IsTup g a xs := by
  obtain ⟨o, h1, h2, n, h3⟩ := t
  exact ⟨o, k _ _ h1, h2, n, h3⟩
theorem PairAt.keep {h g : Heap} (k : ∀ a o, h.get? a = some o → g.get? a = some o) {v : Value} {ds : List PyData} (p : PairAt h v ds) : PairAt g v ds := by
  obtain ⟨a, c, n, its, h1, h2, h3, h4⟩ := p.ex
  exact ⟨a, c, n, its, h1, isTup_keep k h2, isTup_keep k h3, PyProof.Rows.ReadsAll.keeps k h4⟩
end Tl
set_option Elab.async false
set_option linter.all false
set_option maxRecDepth 100000
set_option maxHeartbeats 4000000
/-! sorted(xs, key=lambda p: ..), xs pairs (number, path). -/
namespace Tl
open PySem PySem.Spec L2 PyProof.Rows
open PySem.W (KeyPure AllAlike Sortable dataLe dataLt SortsAt EachIs keyToks)
theorem TabStep.sqT {K : PySem.W.Frag} {H H1 : Hp} {P : Addr} {q : Str} (t : TabStep H P q H1) {a : Addr} {xs : List V} (h : SqT K H a xs) : SqT K H1 a xs := by
  rcases h with h | h
  · rcases h with h | ⟨o, h⟩
    · exact .inl (.inl (t.ext h fun ps z => by cases z))
    · exact .inl (.inr ⟨o, t.ext h fun ps z => by cases z⟩)
  · exact .inr h
mutual
theorem TabStep.dp {K : PySem.W.Frag} {H H1 : Hp} {P : Addr} {q : Str} (t : TabStep H P q H1) : ∀ (d : PyData) (v : V), Dp K H v d → Dp K H1 v d
  | .none, _, h => by cases h; exact .non
  | .bool b, _, h => by cases h; exact .bl b
  | .int i, _, h => by cases h; exact .int i
  | .str x, _, h => by cases h; exact .str x
  | .list ds, _, h => by
    cases h with
    | lst hs ha => exact .lst (t.sqL hs) (TabStep.dps t ds _ ha)
  | .tuple ds, _, h => by
    cases h with
    | tup hs ha => exact .tup (t.sqT hs) (TabStep.dps t ds _ ha)
  | .dict _, _, h => by cases h
theorem TabStep.dps {K : PySem.W.Frag} {H H1 : Hp} {P : Addr} {q : Str} (t : TabStep H P q H1) : ∀ (ds : List PyData) (vs : List V), DpAll K H vs ds → DpAll K H1 vs ds
  | [], _, h => by cases h; exact .nil
  | d :: ds, _, h => by
    cases h with
    | cons h1 h2 => exact .cons (TabStep.dp t d _ h1) (TabStep.dps t ds _ h2)
end
end Tl
set_option Elab.async false
set_option linter.all false
set_option maxRecDepth 100000
set_option maxHeartbeats 4000000
/-! Orders of a tree's places: sorted by keys, and as the walks give them. -/
namespace Tl
open PySem L2
open PySem.W (dataLe dataLt rowLt dataLt_tuple dataLt_cons dataLt_int)
theorem ltN_tot : ∀ a b : List Nat, a ≠ b → ltN a b = true ∨ ltN b a = true
  | [], [], h => absurd rfl h
  | [], _ :: _, _ => .inl rfl
  | _ :: _, [], _ => .inr rfl
  | x :: a, y :: b, h => by
    rw [ltN, ltN]
    by_cases e : x = y
    · subst e
      rw [if_pos rfl, if_pos rfl]
      exact ltN_tot a b fun z => h (by rw [z])
    · rw [if_neg e, if_neg fun z => e z.symm]
      simp
      omega
/-- a strict order of keys -/
structure So {κ : Type} (lt : κ → κ → Bool) : Prop where
  irr : ∀ a, lt a a = false
  tr : ∀ {a b c}, lt a b = true → lt b c = true → lt a c = true
  tot : ∀ a b, a ≠ b → lt a b = true ∨ lt b a = true
theorem So.asy {κ : Type} {lt : κ → κ → Bool} (s : So lt) {a b : κ} (h : lt a b = true) : lt b a = false := by
  cases c : lt b a with
  | false => rfl
  | true =>
    have := s.tr h c
    rw [s.irr] at this
    cases this
theorem so_N : So ltN := ⟨ltN_irr, ltN_tr, ltN_tot⟩
section
variable {κ α : Type} {lt : κ → κ → Bool}
theorem So.ext (s : So lt) : ∀ {a b : List κ}, a.Pairwise (fun x y => lt x y = true) → b.Pairwise (fun x y => lt x y = true) → (∀ x, x ∈ a ↔ x ∈ b) → a = b
  | [], [], _, _, _ => rfl
  | [], y :: b, _, _, h => absurd ((h y).mpr (.head _)) List.not_mem_nil
  | x :: a, [], _, _, h => absurd ((h x).mp (.head _)) List.not_mem_nil
  | x :: a, y :: b, ha, hb, h => by
    rw [List.pairwise_cons] at ha hb
    have e : x = y := by
      rcases List.mem_cons.mp ((h x).mp (.head _)) with e | e
      · exact e
      · rcases List.mem_cons.mp ((h y).mpr (.head _)) with e2 | e2
        · exact e2.symm
        · have h1 := s.asy (ha.1 y e2)
          rw [hb.1 x e] at h1
          cases h1
    subst e
    have nin : ∀ {l : List κ}, (∀ z ∈ l, lt x z = true) → x ∉ l := fun hl z => by
      have := hl x z
      rw [s.irr] at this
      cases this
    rw [s.ext ha.2 hb.2 fun z => ⟨fun hz => ?_, fun hz => ?_⟩]
    · rcases List.mem_cons.mp ((h z).mp (.tail _ hz)) with e | e
      · rw [e] at hz; exact absurd hz (nin ha.1)
      · exact e
    · rcases List.mem_cons.mp ((h z).mpr (.tail _ hz)) with e | e
      · rw [e] at hz; exact absurd hz (nin hb.1)
      · exact e
/-- not behind, by a key -/
def leK (lt : κ → κ → Bool) (k : α → κ) (x y : α) : Bool := !lt (k y) (k x)
theorem So.le_tr (s : So lt) (k : α → κ) (x y z : α) (h1 : leK lt k x y = true) (h2 : leK lt k y z = true) : leK lt k x z = true := by
  unfold leK at *
  cases c : lt (k z) (k x) with
  | false => rfl
  | true =>
    by_cases e : k y = k z
    · rw [e, c] at h1; cases h1
    · rcases s.tot _ _ e with h | h
      · rw [s.tr h c] at h1; cases h1
      · rw [h] at h2; cases h2
theorem So.le_tot (s : So lt) (k : α → κ) (x y : α) : (leK lt k x y || leK lt k y x) = true := by
  unfold leK
  cases c : lt (k y) (k x) with
  | false => rfl
  | true => rw [s.asy c]; rfl
/-- sorted by keys that all differ: strictly rising -/
theorem So.sorted (s : So lt) (k : α → κ) {l : List α} (hn : (l.map k).Nodup) : ((l.mergeSort (leK lt k)).map k).Pairwise (fun x y => lt x y = true) := by
  have h1 := List.pairwise_mergeSort (le := leK lt k) (s.le_tr k) (s.le_tot k) l
  have h2 : ((l.mergeSort (leK lt k)).map k).Nodup := ((List.mergeSort_perm l (leK lt k)).map k).nodup_iff.mpr hn
  rw [List.pairwise_map]
  have h3 := List.pairwise_map.mp h2
  refine (h1.and h3).imp fun {a b} h => ?_
  obtain ⟨ha, hb⟩ := h
  rcases s.tot _ _ hb with h | h
  · exact h
  · unfold leK at ha
    rw [h] at ha
    cases ha
end
/-! by the walk behind -/
/-! by levels -/
end Tl
namespace Tl
open PySem PySem.Spec L2 PyProof.Rows
open PySem.W (KeyPure dataLe dataLt rowLt dataLt_tuple dataLt_cons dataLt_int alike alikeAll)
/-! the same, as data -/
theorem srt_N (l : List (List Nat)) : srt (l.map pathD) = (l.mergeSort (leK ltN id)).map pathD := by
  unfold srt
  refine (List.map_mergeSort (f := pathD) (r := leK ltN id) (s := dataLe false id) fun a _ b _ => ?_).symm
  show _ = !dataLt (pathD b) (pathD a)
  rw [dataLt_path]
  rfl
/-! the orders -/
/-! what the lambdas give -/
end Tl
set_option Elab.async false
set_option linter.all false
set_option maxRecDepth 100000
set_option maxHeartbeats 8000000
namespace Tl
open PySem L2 RZ
local macro_rules
  | `(tactic| decreasing_trivial) => `(tactic| ((with_reducible (conv => whnf)); (repeat ((first | (with_reducible refine exI (by first | exact mset_same | assumption | (rw [mset_ne (by assumption)]; first | exact mset_same | assumption)) ?_) | (with_reducible refine exI2 (by first | exact mset_same | assumption | (rw [mset_ne (by assumption)]; first | exact mset_same | assumption)) ?_) | (with_reducible refine gPut_n ?_) | (with_reducible refine gPut_0 ?_) | (with_reducible refine (gPut_s (by decide +kernel)) ?_) | (with_reducible refine (gO_i hk_tr) ?_) | (with_reducible refine (gO_i hk_he) ?_) | (with_reducible refine (gO_i hk_en) ?_) | (with_reducible refine (gO_i hk_is) ?_) | (with_reducible refine (gO_i hk_tu) ?_) | (with_reducible refine hp_is ?_) | (with_reducible refine gDs_c ?_) | (with_reducible refine gDs_n ?_) | (with_reducible refine gNs_c ?_) | (with_reducible refine gNs_n ?_) | (with_reducible refine gO_i tyAny_lt ?_) | (with_reducible refine gIs_c ?_) | (with_reducible refine gIs_n ?_) | (with_reducible refine gBs_c ?_) | (with_reducible refine gBs_n ?_) | (with_reducible refine gSs_c ?_) | (with_reducible refine gSs_n ?_) | (with_reducible refine gO_i tyIs_int ?_) | (with_reducible refine gO_i tyIs_bool ?_) | (with_reducible refine gO_i tyIs_str ?_) | (with_reducible refine gO_i tyIs_tuple ?_) | (with_reducible refine gO_i tyIs_list ?_) | (with_reducible refine gDs_i ?_) | (with_reducible refine gO_i (Eq.refl _) ?_) | (with_reducible refine gO_i (by assumption) ?_) | (with_reducible refine gO_i at_0 ?_) | (with_reducible refine gO_i at_m0 ?_) | (with_reducible refine gO_i at_1 ?_) | (with_reducible refine gO_i at_m1 ?_) | (with_reducible refine gO_i at_2 ?_) | (with_reducible refine gO_i at_m2 ?_) | (with_reducible refine gO_i at_3 ?_) | (with_reducible refine gO_i at_m3 ?_) | (with_reducible refine gO_i at_4 ?_) | (with_reducible refine gO_i at_m4 ?_) | (with_reducible refine gO_i at_5 ?_) | (with_reducible refine gO_i at_m5 ?_) | (with_reducible refine gO_i at_6 ?_) | (with_reducible refine gO_i at_m6 ?_) | (with_reducible refine gO_i at_7 ?_) | (with_reducible refine gO_i at_m7 ?_) | (with_reducible refine IfB.ngf ?_) | (with_reducible refine IfB.ngt ?_) | (with_reducible refine IfB.not ?_) | (with_reducible refine IfB.nil ?_) | (with_reducible refine IfB.nilT ?_) | (with_reducible refine IfB.f isE_c ?_) | (with_reducible refine IfB.t isE_n ?_) | (with_reducible refine IfB.t ?gha ?_; (case gha => rfl)) | (with_reducible refine IfB.f ?gha ?_; (case gha => rfl)) | (with_reducible refine IfB.t ?gha ?_; (case gha => assumption)) | (with_reducible refine IfB.f ?gha ?_; (case gha => assumption)) | (with_reducible refine IfB.yes (Eq.refl _) ?_) | (with_reducible refine IfB.yes ?gha ?_; (case gha => (first | omega | (simp only [len_c, len_n, List.length_map]; omega)))) | (with_reducible refine IfB.no ?gha ?_; (case gha => (first | omega | (simp only [len_c, len_n, List.length_map]; omega)))) | (with_reducible refine IfB.t ?gha ?_; (case gha => decide +kernel)) | (with_reducible refine IfB.f ?gha ?_; (case gha => decide +kernel))); (with_reducible (conv => whnf))))))
local macro_rules
  | `(tactic| decreasing_trivial_pre_omega) => `(tactic| (decreasing_trivial; (repeat ((first | ((with_reducible refine And.intro ?gha ?_); (case gha => (first | assumption | omega | exact rfl | (exact mset_same) | (exact ⟨_, mset_same⟩) | (exact Exists.intro _ (by first | exact mset_same | assumption | (rw [mset_ne (by assumption)]; first | exact mset_same | assumption))) | (exact sm_of (by omega) (by omega)) | (exact sz1000 (by first | omega | (simp; done) | (simp; omega))) | (exact Or.inl ⟨by decide, by decide⟩) | decide | (simp; done) | (refine ⟨?_, ?_⟩ <;> (first | assumption | omega | exact rfl | (exact mset_same) | (exact ⟨_, mset_same⟩) | (exact Exists.intro _ (by first | exact mset_same | assumption | (rw [mset_ne (by assumption)]; first | exact mset_same | assumption))) | (exact sm_of (by omega) (by omega)) | (exact sz1000 (by first | omega | (simp; done) | (simp; omega))) | (exact Or.inl ⟨by decide, by decide⟩) | decide | (simp; done))) | (refine ⟨?_, ?_, ?_⟩ <;> (first | assumption | omega | exact rfl | (exact mset_same) | (exact ⟨_, mset_same⟩) | (exact Exists.intro _ (by first | exact mset_same | assumption | (rw [mset_ne (by assumption)]; first | exact mset_same | assumption))) | (exact sm_of (by omega) (by omega)) | (exact sz1000 (by first | omega | (simp; done) | (simp; omega))) | (exact Or.inl ⟨by decide, by decide⟩) | decide | (simp; done))) | (refine ⟨?_, ?_, ?_, ?_⟩ <;> (first | assumption | omega | exact rfl | (exact mset_same) | (exact ⟨_, mset_same⟩) | (exact Exists.intro _ (by first | exact mset_same | assumption | (rw [mset_ne (by assumption)]; first | exact mset_same | assumption))) | (exact sm_of (by omega) (by omega)) | (exact sz1000 (by first | omega | (simp; done) | (simp; omega))) | (exact Or.inl ⟨by decide, by decide⟩) | decide | (simp; done)))))) | (with_reducible refine exW (by first | exact mset_same | assumption | (rw [mset_ne (by assumption)]; first | exact mset_same | assumption)) ?_)); decreasing_trivial))))
/-- the handles are those of the places, each once -/
structure HsOk (t : PyData) (hs : Hs) (n : Nat) : Prop where
  nd : (hs.map (·.1)).Nodup
  mem : ∀ q, q ∈ hs.map (·.1) ↔ q ∈ plc t
  ne : (hs.map (·.2)).Nodup
  lt : ∀ x ∈ hs, x.2 < n
theorem HsOk.of {t : PyData} {hs : Hs} {n : Nat} (h : HsOk t hs n) {q : List Nat} (hq : q ∈ plc t) : ∃ m, hOf hs q = some m ∧ (q, m) ∈ hs ∧ m < n := by
  obtain ⟨x, hx, e⟩ := List.mem_map.mp ((h.mem q).mpr hq)
  obtain ⟨q', m⟩ := x
  cases e
  exact ⟨m, hOf_mem h.nd hx, hx, h.lt _ hx⟩
theorem HsOk.len {N : Nat} {t : PyData} {hs : Hs} {n : Nat} (h : HsOk t hs n) (ht : TrT N t) : hs.length = (plc t).length := by
  have p : (hs.map (·.1)).Perm (plc t) := (List.perm_ext_iff_of_nodup h.nd ((plc_up ht).imp fun {a b} z e => by rw [e, ltN_irr] at z; cases z)).mpr h.mem
  have := p.length_eq
  rwa [List.length_map] at this
theorem zip_ok {N : Nat} {t : PyData} (ht : TrT N t) : HsOk t (plc t).zipIdx (plc t).length where
  nd := by
    rw [List.zipIdx_map_fst]
    exact (plc_up ht).imp fun {a b} z e => by rw [e, ltN_irr] at z; cases z
  mem q := by rw [List.zipIdx_map_fst]
  ne := by
    rw [List.zipIdx_map_snd]
    exact List.nodup_range'
  lt x hx := by
    have := List.snd_lt_of_mem_zipIdx hx
    omega
theorem srt_hs {N : Nat} {t : PyData} {hs : Hs} {n : Nat} (ht : TrT N t) (h : HsOk t hs n) : srt ((hs.map (·.1)).map pathD) = (plc t).map pathD := by
  rw [srt_N]
  congr 1
  have hs2 := so_N.sorted (α := List Nat) id (l := hs.map (·.1)) (by rw [List.map_id]; exact h.nd)
  rw [List.map_id] at hs2
  exact so_N.ext hs2 (plc_up ht) fun x => by rw [(List.mergeSort_perm _ _).mem_iff]; exact h.mem x
theorem kwH_keys (hs : Hs) : (kwH hs).map (·.1) = (hs.map (·.1)).map pathD := by
  unfold kwH
  rw [List.map_map, List.map_map]
  rfl
def hN (hs : Hs) (q : List Nat) : Nat := (hOf hs q).getD 0
@[reducible] def tfHt (C : Addr) (g : PyData → Hs → Nat → Nat → PyData) : TF := fun ws M R _ => ∃ (a : Addr) (t : PyData) (hs : Hs) (gs : List (Int × Int)) (n u : Nat), ws = [.r a] ∧ HtAt C M a t hs gs n u ∧ R (.d (g t hs n u)) M
@[reducible] def tfHandles (C : Addr) : TF := fun ws M R _ => ∃ (a : Addr) (t : PyData) (hs : Hs) (gs : List (Int × Int)) (n u : Nat), ws = [.r a] ∧ (HtAt C M a t hs gs n u ∧ TrT 12 t ∧ nn t ≤ 60 ∧ HsOk t hs n) ∧ R (.d (.tuple ((plc t).map fun q => .int (hN hs q : Nat)))) M
@[reducible] def tfHtGone (C : Addr) : TF := fun ws M R _ => ∃ (a : Addr) (t : PyData) (hs : Hs) (n u : Nat), ws = [.r a] ∧ HtAt C M a t hs [] n u ∧ R (.d (.tuple [])) M
section
variable {P : Program} {w : World} {K : PySem.W.Frag} {mg : Str → Option Value} {base : Heap}
abbrev sMkVa : Stmt := inClsN (top 81) 3
theorem scMkVa : FnScope ["self"] ["self"] (defScope sMkVa) := ⟨rfl, rfl, rfl, by decide +kernel, rfl, by decide +kernel, by decide +kernel⟩
theorem ok_htValue {f C : Addr} {fd : FuncData} {k : Nat} (F : Fun K "value" "Make.value" sMkVa f fd) (MMake : HtC K C) : FnOk P w K mg base CX0 (k + 1) f fd ["self"] (spD K 1 (tfHt C fun t _ _ _ => t)) := by
  refine okD F scMkVa rfl fun cdv A outer s H E hr => ?_
  refine ⟨_, _, (pss_one (ps_ret (pe_fld (pv 0) (by rfl)))),
    (ss_ret (se_fld se_nm)), fun ws M R RX hl h => ?_⟩
  obtain ⟨a, t, hs, gs, n, u, rfl, ⟨dx, p, e, l, b, r, c, hM, hP, hE⟩, h4⟩ := h
  have c1 := MMake.cls
  have c6 := MMake.n6
  simp only [start0, len_c, len_n, map_c, map_n, app_c, app_n, rep_0, rep_s, Nat.reduceAdd, Nat.reduceSub]
  decreasing_trivial_pre_omega
  exact h4
abbrev sHtGv : Stmt := inClsN (top 83) 9
theorem scHtGv : FnScope ["self"] ["self"] (defScope sHtGv) := ⟨rfl, rfl, rfl, by decide +kernel, rfl, by decide +kernel, by decide +kernel⟩
theorem ok_htGiven {f C : Addr} {fd : FuncData} {k : Nat} (F : Fun K "given" "HandleTree.given" sHtGv f fd) (MHandleTree : HtC K C) : FnOk P w K mg base CX0 (k + 1) f fd ["self"] (spD K 1 (tfHt C fun _ _ n _ => .int (n : Nat))) := by
  refine okD F scHtGv rfl fun cdv A outer s H E hr => ?_
  refine ⟨_, _, (pss_one (ps_ret (pe_fld (pv 0) (by rfl)))),
    (ss_ret (se_fld se_nm)), fun ws M R RX hl h => ?_⟩
  obtain ⟨a, t, hs, gs, n, u, rfl, ⟨dx, p, e, l, b, r, c, hM, hP, hE⟩, h4⟩ := h
  have c1 := MHandleTree.cls
  have c9 := MHandleTree.n9
  simp only [start0, len_c, len_n, map_c, map_n, app_c, app_n, rep_0, rep_s, Nat.reduceAdd, Nat.reduceSub]
  decreasing_trivial_pre_omega
  exact h4
abbrev sHtAc : Stmt := inClsN (top 83) 10
theorem scHtAc : FnScope ["self"] ["self"] (defScope sHtAc) := ⟨rfl, rfl, rfl, by decide +kernel, rfl, by decide +kernel, by decide +kernel⟩
theorem ok_htActs {f C : Addr} {fd : FuncData} {k : Nat} (F : Fun K "acts" "HandleTree.acts" sHtAc f fd) (MHandleTree : HtC K C) : FnOk P w K mg base CX0 (k + 1) f fd ["self"] (spD K 1 (tfHt C fun _ _ _ u => .int (u : Nat))) := by
  refine okD F scHtAc rfl fun cdv A outer s H E hr => ?_
  refine ⟨_, _, (pss_one (ps_ret (pe_fld (pv 0) (by rfl)))),
    (ss_ret (se_fld se_nm)), fun ws M R RX hl h => ?_⟩
  obtain ⟨a, t, hs, gs, n, u, rfl, ⟨dx, p, e, l, b, r, c, hM, hP, hE⟩, h4⟩ := h
  have c1 := MHandleTree.cls
  have c10 := MHandleTree.n10
  simp only [start0, len_c, len_n, map_c, map_n, app_c, app_n, rep_0, rep_s, Nat.reduceAdd, Nat.reduceSub]
  decreasing_trivial_pre_omega
  exact h4
abbrev sHtGo : Stmt := inClsN (top 83) 11
theorem scHtGo : FnScope ["self", "handle"] ["self"] (defScope sHtGo) := ⟨rfl, rfl, rfl, by decide +kernel, rfl, by decide +kernel, by decide +kernel⟩
theorem ok_htGone {f C : Addr} {fd : FuncData} {k : Nat} (F : Fun K "gone" "HandleTree.gone" sHtGo f fd) (MHandleTree : HtC K C) (T : Bl mg) (mSrt : mg "sorted" = none) : FnOk P w K mg base CX0 (k + 1) f fd ["self"] (spD K 1 (tfHtGone C)) := by
  refine okD F scHtGo rfl fun cdv A outer s H E hr => ?_
  refine ⟨_, _, (pss_one (ps_ret (pe_callTy call_tuple_of (by rfl) T.tuple PyProof.Rows.boot_tuple (pa_cons (pe_lc (own := [("handle", 1)]) (g := gName 1) (tt := tYes) (by rfl) scHtGo.nd (pi_list (pe_callB (cr_sortedD (room62 hr)) (by rfl) mSrt PyProof.Rows.boot_sorted (pa_cons (pe_callTy (call_listD rfl) (by rfl) T.list PyProof.Rows.boot_list (pa_cons (pe_fld (pv 0) (by rfl)) pa_nil)) pa_nil))) (blkOk_by (N := ["self", "handle"]) (sc := defScope sHtGo) (own := [("handle", 1)]) (by decide +kernel)) (fun _ _ _ _ _ => pg_name (i := 1) scHtGo.nd rfl (Or.inl rfl)) (fun _ _ _ _ _ => pts_nil) (fun _ _ _ _ _ => (pe_tup (pa_cons (pv 1) (pa_cons (pe_dget (hu_of hr) (pe_fld (pv 0) (by rfl)) (pv 1) (fun _ _ => rfl)) pa_nil))))) pa_nil)))),
    (ss_ret (se_cb sc_tuple (sa_cons (se_lcF (si_lst (se_cb sc_sortedF (sa_cons (se_cb sc_listK (sa_cons (se_fld se_nm) sa_nil)) sa_nil))) sg_name st_yes (se_tup (sa_cons se_nm (sa_cons (se_getK (se_fld se_nm) se_nm) sa_nil)))) sa_nil))), fun ws M R RX hl h => ?_⟩
  obtain ⟨a, t, hs, n, u, rfl, ⟨dx, p, e, l, b, r, c, hM, hP, hE⟩, h4⟩ := h
  have c1 := MHandleTree.cls
  have c8 := MHandleTree.n8
  simp only [start0, len_c, len_n, map_c, map_n, app_c, app_n, rep_0, rep_s, Nat.reduceAdd, Nat.reduceSub]
  decreasing_trivial_pre_omega
  refine ⟨_, hE, ?_⟩
  decreasing_trivial_pre_omega
  refine ⟨srt_paths [], ?_⟩
  rw [show srt (List.map (fun p : L2.Key × W => kD p.1) (kwG [])) = [] from srt_up (l := []) .nil]
  decreasing_trivial_pre_omega
  refine ⟨trivial, ?_⟩
  refine gDs_i (ds := []) ?_
  decreasing_trivial_pre_omega
  exact h4
abbrev sHtHs : Stmt := inClsN (top 83) 8
theorem scHtHs : FnScope ["self", "path"] ["self"] (defScope sHtHs) := ⟨rfl, rfl, rfl, by decide +kernel, rfl, by decide +kernel, by decide +kernel⟩
theorem ok_htHandles {f C : Addr} {fd : FuncData} {k : Nat} (F : Fun K "handles" "HandleTree.handles" sHtHs f fd) (MHandleTree : HtC K C) (T : Bl mg) (mSrt : mg "sorted" = none) : FnOk P w K mg base CX0 (k + 1) f fd ["self"] (spD K 1 (tfHandles C)) := by
  refine okD F scHtHs rfl fun cdv A outer s H E hr => ?_
  refine ⟨_, _, (pss_one (ps_ret (pe_callTy call_tuple_of (by rfl) T.tuple PyProof.Rows.boot_tuple (pa_cons (pe_lc (own := [("path", 1)]) (g := gName 1) (tt := tYes) (by rfl) scHtHs.nd (pi_list (pe_callB (cr_sortedD (room62 hr)) (by rfl) mSrt PyProof.Rows.boot_sorted (pa_cons (pe_callTy (call_listU rfl) (by rfl) T.list PyProof.Rows.boot_list (pa_cons (pe_fld (pv 0) (by rfl)) pa_nil)) pa_nil))) (blkOk_by (N := ["self", "path"]) (sc := defScope sHtHs) (own := [("path", 1)]) (by decide +kernel)) (fun _ _ _ _ _ => pg_name (i := 1) scHtHs.nd rfl (Or.inl rfl)) (fun _ _ _ _ _ => pts_nil) (fun _ _ _ _ _ => (pe_uget (hu20 hr) (pe_fld (pv 0) (by rfl)) (pv 1) (fun _ _ => rfl)))) pa_nil)))),
    (ss_ret (se_cb sc_tuple (sa_cons (se_lcF (si_lst (se_cb sc_sortedF (sa_cons (se_cb sc_listU (sa_cons (se_fld se_nm) sa_nil)) sa_nil))) sg_name st_yes (se_getU (se_fld se_nm) se_nm)) sa_nil))), fun ws M R RX hl h => ?_⟩
  obtain ⟨a, t, hs, gs, n, u, rfl, ⟨⟨dx, p, e, l, b, r, c, hM, hP, hE⟩, ht, hn, ok⟩, h4⟩ := h
  have c1 := MHandleTree.cls
  have c7 := MHandleTree.n7
  simp only [start0, len_c, len_n, map_c, map_n, app_c, app_n, rep_0, rep_s, Nat.reduceAdd, Nat.reduceSub]
  decreasing_trivial_pre_omega
  refine ⟨_, hP, ?_⟩
  rw [kwH_keys]
  decreasing_trivial_pre_omega
  refine ⟨srt_paths _, ?_⟩
  rw [srt_hs ht ok]
  decreasing_trivial_pre_omega
  have e1 : ((plc t).map pathD).map W.d = (plc t).map fun q => W.d (pathD q) := by rw [List.map_map]; rfl
  rw [e1]
  have pl := plc_len ht
  refine lc1F (k := fun ds => R (.d (.tuple ds)) M) (b := bName 1) (fun q => .int (hN hs q : Nat)) trivial (fun q hq Rk q1 => ?_) (sz1000 (by omega)) ?_
  · obtain ⟨m, o1, o2, o3⟩ := ok.of hq
    have k1 := ok_path' q
    have k2 : (pathD q).depth ≤ 8 := by
      have := pathD_depth q
      omega
    have v := val_kwH hs q
    unfold hN at q1
    rw [o1] at v q1
    unfold pathD at k1 k2 v ⊢
    decreasing_trivial_pre_omega
    exact ⟨_, hP, gO_i v q1⟩
  · decreasing_trivial_pre_omega
    exact h4
end
end Tl
set_option Elab.async false
set_option linter.all false
set_option maxRecDepth 100000
set_option maxHeartbeats 8000000
namespace Tl
open PySem L2 RZ
local macro_rules
  | `(tactic| decreasing_trivial) => `(tactic| ((with_reducible (conv => whnf)); (repeat ((first | (with_reducible refine exI (by first | exact mset_same | assumption | (rw [mset_ne (by assumption)]; first | exact mset_same | assumption)) ?_) | (with_reducible refine exI2 (by first | exact mset_same | assumption | (rw [mset_ne (by assumption)]; first | exact mset_same | assumption)) ?_) | (with_reducible refine gPut_n ?_) | (with_reducible refine gPut_0 ?_) | (with_reducible refine (gPut_s (by decide +kernel)) ?_) | (with_reducible refine (gO_i hk_tr) ?_) | (with_reducible refine (gO_i hk_he) ?_) | (with_reducible refine (gO_i hk_en) ?_) | (with_reducible refine (gO_i hk_is) ?_) | (with_reducible refine (gO_i hk_tu) ?_) | (with_reducible refine hp_is ?_) | (with_reducible refine gDs_c ?_) | (with_reducible refine gDs_n ?_) | (with_reducible refine gNs_c ?_) | (with_reducible refine gNs_n ?_) | (with_reducible refine gO_i tyAny_lt ?_) | (with_reducible refine gIs_c ?_) | (with_reducible refine gIs_n ?_) | (with_reducible refine gBs_c ?_) | (with_reducible refine gBs_n ?_) | (with_reducible refine gSs_c ?_) | (with_reducible refine gSs_n ?_) | (with_reducible refine gO_i tyIs_int ?_) | (with_reducible refine gO_i tyIs_bool ?_) | (with_reducible refine gO_i tyIs_str ?_) | (with_reducible refine gO_i tyIs_tuple ?_) | (with_reducible refine gO_i tyIs_list ?_) | (with_reducible refine gDs_i ?_) | (with_reducible refine gO_i (Eq.refl _) ?_) | (with_reducible refine gO_i (by assumption) ?_) | (with_reducible refine gO_i at_0 ?_) | (with_reducible refine gO_i at_m0 ?_) | (with_reducible refine gO_i at_1 ?_) | (with_reducible refine gO_i at_m1 ?_) | (with_reducible refine gO_i at_2 ?_) | (with_reducible refine gO_i at_m2 ?_) | (with_reducible refine gO_i at_3 ?_) | (with_reducible refine gO_i at_m3 ?_) | (with_reducible refine gO_i at_4 ?_) | (with_reducible refine gO_i at_m4 ?_) | (with_reducible refine gO_i at_5 ?_) | (with_reducible refine gO_i at_m5 ?_) | (with_reducible refine gO_i at_6 ?_) | (with_reducible refine gO_i at_m6 ?_) | (with_reducible refine gO_i at_7 ?_) | (with_reducible refine gO_i at_m7 ?_) | (with_reducible refine IfB.ngf ?_) | (with_reducible refine IfB.ngt ?_) | (with_reducible refine IfB.not ?_) | (with_reducible refine IfB.nil ?_) | (with_reducible refine IfB.nilT ?_) | (with_reducible refine IfB.f isE_c ?_) | (with_reducible refine IfB.t isE_n ?_) | (with_reducible refine IfB.t ?gha ?_; (case gha => rfl)) | (with_reducible refine IfB.f ?gha ?_; (case gha => rfl)) | (with_reducible refine IfB.t ?gha ?_; (case gha => assumption)) | (with_reducible refine IfB.f ?gha ?_; (case gha => assumption)) | (with_reducible refine IfB.yes (Eq.refl _) ?_) | (with_reducible refine IfB.yes ?gha ?_; (case gha => (first | omega | (simp only [len_c, len_n, List.length_map]; omega)))) | (with_reducible refine IfB.no ?gha ?_; (case gha => (first | omega | (simp only [len_c, len_n, List.length_map]; omega)))) | (with_reducible refine IfB.t ?gha ?_; (case gha => decide +kernel)) | (with_reducible refine IfB.f ?gha ?_; (case gha => decide +kernel))); (with_reducible (conv => whnf))))))
local macro_rules
  | `(tactic| decreasing_trivial_pre_omega) => `(tactic| (decreasing_trivial; (repeat ((first | ((with_reducible refine And.intro ?gha ?_); (case gha => (first | assumption | omega | exact rfl | (exact mset_same) | (exact ⟨_, mset_same⟩) | (exact Exists.intro _ (by first | exact mset_same | assumption | (rw [mset_ne (by assumption)]; first | exact mset_same | assumption))) | (exact sm_of (by omega) (by omega)) | (exact sz1000 (by first | omega | (simp; done) | (simp; omega))) | (exact Or.inl ⟨by decide, by decide⟩) | decide | (simp; done) | (refine ⟨?_, ?_⟩ <;> (first | assumption | omega | exact rfl | (exact mset_same) | (exact ⟨_, mset_same⟩) | (exact Exists.intro _ (by first | exact mset_same | assumption | (rw [mset_ne (by assumption)]; first | exact mset_same | assumption))) | (exact sm_of (by omega) (by omega)) | (exact sz1000 (by first | omega | (simp; done) | (simp; omega))) | (exact Or.inl ⟨by decide, by decide⟩) | decide | (simp; done))) | (refine ⟨?_, ?_, ?_⟩ <;> (first | assumption | omega | exact rfl | (exact mset_same) | (exact ⟨_, mset_same⟩) | (exact Exists.intro _ (by first | exact mset_same | assumption | (rw [mset_ne (by assumption)]; first | exact mset_same | assumption))) | (exact sm_of (by omega) (by omega)) | (exact sz1000 (by first | omega | (simp; done) | (simp; omega))) | (exact Or.inl ⟨by decide, by decide⟩) | decide | (simp; done))) | (refine ⟨?_, ?_, ?_, ?_⟩ <;> (first | assumption | omega | exact rfl | (exact mset_same) | (exact ⟨_, mset_same⟩) | (exact Exists.intro _ (by first | exact mset_same | assumption | (rw [mset_ne (by assumption)]; first | exact mset_same | assumption))) | (exact sm_of (by omega) (by omega)) | (exact sz1000 (by first | omega | (simp; done) | (simp; omega))) | (exact Or.inl ⟨by decide, by decide⟩) | decide | (simp; done)))))) | (with_reducible refine exW (by first | exact mset_same | assumption | (rw [mset_ne (by assumption)]; first | exact mset_same | assumption)) ?_)); decreasing_trivial))))
/-- a make as it began -/
def HtS (C : Addr) (M : Mem) (a : Addr) (t : PyData) (hs : Hs) (n u : Nat) : Prop := HtAt C M a t hs [] n u ∧ TrT 12 t ∧ nn t ≤ 60 ∧ HsOk t hs n
/-- the place of a handle -/
def ptD (_ : PyData) (_ : Hs) (q : List Nat) : PyData := pathD q
@[reducible] def tfByH (g : PyData → Hs → List Nat → PyData) (C cH : Addr) : TF := fun ws M R RX => ∃ (a : Addr) (t : PyData) (hs : Hs) (n u : Nat) (x : PyData), ws = [.r a, .d x] ∧ (HtS C M a t hs n u ∧ txt x = true) ∧ (isCount x = false ∨ (∃ i : Int, x = .int i ∧ (n : Nat) ≤ i) → RX ⟨.ref cH, [("handle", x)]⟩ M) ∧ (∀ q m, (q, m) ∈ hs → x = .int (m : Nat) → R (.d (g t hs q)) M) ∧ ((∀ m : Nat, x = .int (m : Nat) → m < n → ∃ q, (q, m) ∈ hs))
@[reducible] def tfHandleOf (C cN cP : Addr) : TF := fun ws M R RX => ∃ (a : Addr) (t : PyData) (hs : Hs) (n u : Nat) (x : PyData), ws = [.r a, .d x] ∧ (HtS C M a t hs n u ∧ txt x = true) ∧ (isPath x = false → RX ⟨.ref cN, []⟩ M) ∧ (∀ q, x = pathD q → pathOk q → sub t q = none → RX ⟨.ref cP, [("path", pathD q)]⟩ M) ∧ (∀ q e, x = pathD q → pathOk q → sub t q = some e → R (.d (.int (hN hs q : Nat))) M)
/-- places by handles -/
def kwB (hs : Hs) : List (L2.Key × W) := hs.map fun x => (.inl (x.2 : Nat), W.d (pathD x.1))
theorem kwB_put {hs : Hs} {q : List Nat} {m : Nat} (h : m ∉ hs.map (·.2)) : putKW (kwB hs) (.inl (m : Nat)) (W.d (pathD q)) = kwB (hs ++ [(q, m)]) := by
  rw [putKW_new]
  · unfold kwB
    rw [List.map_append]
    rfl
  · intro z
    obtain ⟨y, hy, e⟩ := List.mem_map.mp z
    obtain ⟨x, hx, rfl⟩ := List.mem_map.mp hy
    refine h (List.mem_map.mpr ⟨x, hx, ?_⟩)
    have e2 : ((x.2 : Nat) : Int) = (m : Nat) := by injection e
    omega
theorem kwB_val {hs : Hs} {q : List Nat} {m : Nat} (nd : (hs.map (·.2)).Nodup) (h : (q, m) ∈ hs) : valW (kwB hs) (.inl (m : Nat)) = some (W.d (pathD q)) := by
  refine valW_mem ?_ (List.mem_map.mpr ⟨(q, m), h, rfl⟩)
  unfold kwB
  rw [List.map_map]
  rw [show ((·.1) ∘ fun x : List Nat × Nat => ((.inl (x.2 : Nat), W.d (pathD x.1)) : L2.Key × W)) = (fun n : Nat => (Sum.inl (n : Int) : L2.Key)) ∘ (·.2) from rfl, ← List.map_map]
  exact nd.map _ fun a b z e => z (by injection e with e; omega)
theorem dcGoK_hs {i : Nat} {keep : Mem → Prop} {tk tv : TDE} {ρ : EnvD} {fin : List (L2.Key × W) → Mem → Prop} {M1 : Mem} (hk : keep M1) (ht : ∀ q m, ∀ Rk : W → Mem → Prop, Rk (W.d (.int (m : Nat))) M1 → (q, m) ∈ (hs : Hs) → tk (put ρ i (some (W.d (pathD q)))) M1 Rk) (hv : ∀ q, ∀ Rk : W → Mem → Prop, Rk (.d (pathD q)) M1 → tv (put ρ i (some (.d (pathD q)))) M1 Rk) (nd : (hs.map (·.2)).Nodup) (hl : hs.length ≤ 1000) (hf : fin (kwB hs) M1) :
    dcGoK (bName i) keep tk tv ρ fin (rows1 ((kwH hs).map fun p => W.d p.1)) [] M1 := by
  have go : ∀ (rest done : Hs), hs = done ++ rest → dcGoK (bName i) keep tk tv ρ fin (rows1 ((kwH rest).map fun p => W.d p.1)) (kwB done) M1 := by
    intro rest
    induction rest with
    | nil =>
      intro done e
      rw [List.append_nil] at e
      subst e
      exact ⟨hk, hf⟩
    | cons x r ih =>
      intro done e
      obtain ⟨q, m⟩ := x
      refine ⟨hk, ht q m _ (hv q _ ?_) (by rw [e]; exact List.mem_append_right _ (.head _))⟩
      have nd2 := nd
      rw [e, List.map_append, List.nodup_append] at nd2
      have hm : m ∉ done.map (·.2) := fun z => nd2.2.2 m z m (by rw [List.map_cons]; exact .head _) rfl
      show (kwB done).length < sizeLine ∧ dcGoK _ _ _ _ _ _ _ (putKW (kwB done) (.inl (m : Nat)) (W.d (pathD q))) M1
      rw [kwB_put hm]
      refine ⟨small1000 (by unfold kwB; rw [List.length_map]; have := congrArg List.length e; rw [List.length_append] at this; omega), ?_⟩
      exact ih (done ++ [(q, m)]) (by rw [e, List.append_assoc]; rfl)
  exact go hs [] rfl
section
variable {P : Program} {w : World} {K : PySem.W.Frag} {mg : Str → Option Value} {base : Heap}
abbrev sHtHo : Stmt := inClsN (top 83) 3
theorem scHtHo : FnScope ["self", "path"] ["self", "path"] (defScope sHtHo) := ⟨rfl, rfl, rfl, by decide +kernel, rfl, by decide +kernel, by decide +kernel⟩
theorem ok_htHandleOf {f C cN cP : Addr} {fd : FuncData} {k j : Nat} (F : Fun K "handle_of" "HandleTree.handle_of" sHtHo f fd) (MHandleTree : HtC K C) (Ucheck_place : UseX P w K mg base "check_place" ["tree", "thing"] j (spD K 2 (tfChkPl cN cP))) (hj : j ≤ k) : FnOk P w K mg base (L2.CX P w) (k + 1) f fd ["self", "path"] (spD K 2 (tfHandleOf C cN cP)) := by
  refine okDX F scHtHo rfl fun cdv A outer s H E hr => ?_
  refine ⟨_, fun RE => _, (pss_cons (ps_expr (pe_callS Ucheck_place.ok (hr.mono (by omega)) rfl Ucheck_place.m Ucheck_place.kp Ucheck_place.b (fun σ => passAt (takes_of (E := E) rfl rfl rfl rfl) σ) (pa_cons (pe_fld (pv 0) (by rfl)) (pa_cons (pv 1) pa_nil))))
    (pss_one (ps_ret (pe_uget (hu20 hr) (pe_fld (pv 0) (by rfl)) (pv 1) (fun _ _ => rfl))))), fun RE => (ss_cons (ss_drop (se_callX (sa_cons (se_fld se_nm) (sa_cons se_nm sa_nil))))
    (ss_ret (se_getU (se_fld se_nm) se_nm))), fun ws M R RX hl h => ?_⟩
  obtain ⟨a, t, hs, n, u, x, rfl, ⟨⟨⟨dx, p, e, l, b, r, c, hM, hP, hE⟩, ht, hn, ok⟩, hx⟩, h1, h2, h3⟩ := h
  have c1 := MHandleTree.cls
  have c6 := MHandleTree.n6
  have c7 := MHandleTree.n7
  simp only [start0, len_c, len_n, map_c, map_n, app_c, app_n, rep_0, rep_s, Nat.reduceAdd, Nat.reduceSub]
  decreasing_trivial_pre_omega
  refine ⟨t, x, 12, rfl, ⟨ht, hx⟩, h1, h2, fun q e e1 e2 e3 => ?_⟩
  subst e1
  have q1 := h3 q e rfl e2 e3
  obtain ⟨m, o1, o2, o3⟩ := ok.of (sub_plc ht e3)
  have k1 := ok_path' q
  have k2 : (pathD q).depth ≤ 8 := by
    have := pathD_depth q
    omega
  have v := val_kwH hs q
  unfold hN at q1
  rw [o1] at v q1
  unfold pathD at k1 k2 v ⊢
  decreasing_trivial_pre_omega
  exact ⟨_, hP, gO_i v q1⟩
abbrev sHtPo : Stmt := inClsN (top 83) 4
theorem scHtPo : FnScope ["self", "handle", "places", "path"] ["self", "handle"] (defScope sHtPo) := ⟨rfl, rfl, rfl, by decide +kernel, rfl, by decide +kernel, by decide +kernel⟩
theorem ok_htPathOf {f C cH : Addr} {fd : FuncData} {k j : Nat} (F : Fun K "path_of" "HandleTree.path_of" sHtPo f fd) (MHandleTree : HtC K C) (XNoHandle : ErF K mg "NoHandle" "NoHandle.__init__" "handle" sI_NoHandle cH) (Uis_count : Use P w K mg base "is_count" ["thing"] j (spD K 1 (tfB isCount))) (hj : j ≤ k) (hk : 2 ≤ k) : FnOk P w K mg base (L2.CX P w) (k + 1) f fd ["self", "handle"] (spD K 2 (tfByH ptD C cH)) := by
  obtain ⟨fiNoHandle, fdNoHandle, iNoHandle, tNoHandle, FNoHandle⟩ := XNoHandle.i
  have okNoHandle := okI_NoHandle (P := P) (w := w) (mg := mg) (base := base) (k := 0) FNoHandle XNoHandle.o XNoHandle.n
  have bNoHandle := FNoHandle.binds (ps := ["self", "handle"]) fun _ _ _ _ _ _ us hl => match us, hl with | [_, _], _ => rfl
  refine okDXLL F scHtPo rfl fun cdv A outer s H E hr => ?_
  refine ⟨_, fun RE => _, (pss_cons (ps_if (PW.pt (pw_or (pt_not (pt_val (PE.nox (pe_call Uis_count.ok (hr.mono (by omega)) rfl Uis_count.m Uis_count.kp Uis_count.b .nil pass0 (pa_cons (pv 1) pa_nil))))) (pw_or1 (pt_cmpR op_ge (pv 1) (pe_fld (pv 0) (by rfl)) (nomark _))))) (pss_one (ps_raise rfl (takes_of (E := E) rfl rfl rfl rfl) (pmk_oex XNoHandle.o iNoHandle tNoHandle okNoHandle (hr.mono (by omega)) bNoHandle .nil pass0 (by exact rfl) XNoHandle.g (pa_cons (pv 1) pa_nil)))) pss_nil)
    (pss_cons (ps_if (pt_cmp (pc_din (hu_of hr) (pv 1) (pe_fld (pv 0) (by rfl))) (by rfl)) (pss_one ps_never) pss_nil)
    (pss_cons (ps_lock (ps_setDcK (i := 2) (own := [("path", 3)]) (g := gName 3) (tt := tYes) (by rfl) scHtPo.nd rfl rfl (sw_trueD rfl rfl rfl (by decide +kernel)) (pi_keysU (pe_fld (pv 0) (by rfl))) (blkOk_by (N := ["self", "handle", "places", "path"]) (sc := defScope sHtPo) (own := [("path", 3)]) (by decide +kernel)) (fun _ _ _ _ _ => pg_name (i := 3) scHtPo.nd rfl (Or.inl rfl)) (fun _ _ _ _ _ => pts_nil) (fun _ _ _ _ _ => (pe_vget (hu20 hr) (pe_fld (pv 0) (by rfl)) (pv 3) (fun _ _ => rfl))) (fun _ _ _ _ _ => (pv 3))))
    (pss_one (ps_ret (pe_dget (hu_of hr) (pv 2) (pv 1) (fun _ _ => rfl))))))), fun RE => (ss_cons (ss_if (st_or (st_not (st_val (se_call (sa_cons se_nm sa_nil)))) (st_test (se_op so_ge se_nm (se_fld se_nm)))) (ss_raiseF (sa_cons se_nm sa_nil)) ss_nil)
    (ss_cons (ss_if (st_test (se_inK se_nm (se_fld se_nm))) ss_never ss_nil)
    (ss_cons (ss_lockA (ss_set (se_dcK (si_keysU (se_fld se_nm)) sg_name (se_getV (se_fld se_nm) se_nm) se_nm)))
    (ss_ret (se_getK se_nm se_nm))))), fun ws M R RX hl h => ?_⟩
  obtain ⟨a, t, hs, n, u, x, rfl, ⟨⟨⟨dx, p, e, l, b, r, c, hM, hP, hE⟩, ht, hn, ok⟩, hx⟩, h1, h2, h3⟩ := h
  have c1 := MHandleTree.cls
  have c7 := MHandleTree.n7
  have c8 := MHandleTree.n8
  have c9 := MHandleTree.n9
  simp only [start0, len_c, len_n, map_c, map_n, app_c, app_n, rep_0, rep_s, Nat.reduceAdd, Nat.reduceSub]
  decreasing_trivial_pre_omega
  cases cc : isCount x with
  | false =>
    have q := h1 (.inl cc)
    decreasing_trivial_pre_omega
    exact ⟨M, fun _ _ e => e, q⟩
  | true =>
    cases x with
    | int i =>
      refine IfB.t rfl ?_
      decreasing_trivial_pre_omega
      refine IfB.d (fun c3 => ?_) (fun c3 => ?_)
      · have q := h1 (.inr ⟨i, rfl, by omega⟩)
        decreasing_trivial_pre_omega
        exact ⟨M, fun _ _ e => e, q⟩
      decreasing_trivial_pre_omega
      refine ⟨_, hE, ?_⟩
      decreasing_trivial_pre_omega
      refine IfB.f rfl ?_
      decreasing_trivial_pre_omega
      refine ⟨p, _, hP, fun od xs => ?_⟩
      have nap : a ≠ p := fun z => by rw [z, hP] at hM; cases hM
      have hA1 : mset M p (.lkT od xs (kwH hs)) a = some (.ins C dx (hF l (.d t) b r c p e (n : Nat) (u : Nat))) := by rw [mset_ne nap]; exact hM
      have hP1 : mset M p (.lkT od xs (kwH hs)) p = some (.lkT od xs (kwH hs)) := mset_same
      have hB1 : ∀ x, x ≠ p → mset M p (.lkT od xs (kwH hs)) x = M x := fun x z => mset_ne z
      generalize mset M p (.lkT od xs (kwH hs)) = M1 at hA1 hP1 hB1 ⊢
      decreasing_trivial_pre_omega
      refine ⟨od, xs, _, hP1, ?_⟩
      have hsl := ok.len ht
      have pl := plc_len ht
      refine dcGoK_hs hP1 (fun q m Rk q1 hq => ?_) (fun q Rk q1 => ?_) ok.ne (by omega) ?_
      · have k1 := ok_path' q
        have k2 : (pathD q).depth ≤ 8 := by
          have := pathD_depth q
          omega
        have v := val_kwH hs q
        rw [hOf_mem ok.nd hq] at v
        unfold pathD at k1 k2 v ⊢
        decreasing_trivial_pre_omega
        exact ⟨_, hP1, gO_i (a := kwH hs) rfl (gO_i v q1)⟩
      · decreasing_trivial_pre_omega
        exact q1
      intro p2 hp2
      have np : p ≠ p2 := fun z => by rw [z, hp2] at hP1; cases hP1
      have hP2 : mset M1 p2 (.dK (kwB hs)) p = some (.lkT od xs (kwH hs)) := by rw [mset_ne np]; exact hP1
      refine ⟨hP2, ?_⟩
      have hQ3 : mset (mset M1 p2 (.dK (kwB hs))) p (.dT (kwH hs)) p2 = some (.dK (kwB hs)) := by rw [mset_ne np.symm, mset_same]
      obtain ⟨m, rfl⟩ : ∃ m : Nat, i = (m : Nat) := ⟨i.toNat, by
        have : isCount (.int i) = true := cc
        rw [isCount] at this
        have := of_decide_eq_true this
        omega⟩
      obtain ⟨q, hq⟩ := h3 m rfl (by omega)
      have q1 : R (.d (pathD q)) M := h2 q m hq rfl
      decreasing_trivial_pre_omega
      refine ⟨_, hQ3, gO_i (kwB_val ok.ne hq) ?_⟩
      refine ⟨M, fun z o hz => ?_, q1⟩
      by_cases e1 : z = p
      · rw [e1, mset_same]
        rw [e1, hP] at hz
        exact hz
      · have e2 : z ≠ p2 := fun e => by
          rw [← e, hB1 z e1, hz] at hp2
          cases hp2
        rw [mset_ne e1, mset_ne e2, hB1 z e1]
        exact hz
    | _ => cases cc
end
end Tl
set_option Elab.async false
set_option linter.all false
set_option maxRecDepth 100000
set_option maxHeartbeats 8000000
namespace Tl
open PySem L2 RZ
local macro_rules
  | `(tactic| decreasing_trivial) => `(tactic| ((with_reducible (conv => whnf)); (repeat ((first | (with_reducible refine exI (by first | exact mset_same | assumption | (rw [mset_ne (by assumption)]; first | exact mset_same | assumption)) ?_) | (with_reducible refine exI2 (by first | exact mset_same | assumption | (rw [mset_ne (by assumption)]; first | exact mset_same | assumption)) ?_) | (with_reducible refine gPut_n ?_) | (with_reducible refine gPut_0 ?_) | (with_reducible refine (gPut_s (by decide +kernel)) ?_) | (with_reducible refine (gO_i hk_tr) ?_) | (with_reducible refine (gO_i hk_he) ?_) | (with_reducible refine (gO_i hk_en) ?_) | (with_reducible refine (gO_i hk_is) ?_) | (with_reducible refine (gO_i hk_tu) ?_) | (with_reducible refine hp_is ?_) | (with_reducible refine gDs_c ?_) | (with_reducible refine gDs_n ?_) | (with_reducible refine gNs_c ?_) | (with_reducible refine gNs_n ?_) | (with_reducible refine gO_i tyAny_lt ?_) | (with_reducible refine gIs_c ?_) | (with_reducible refine gIs_n ?_) | (with_reducible refine gBs_c ?_) | (with_reducible refine gBs_n ?_) | (with_reducible refine gSs_c ?_) | (with_reducible refine gSs_n ?_) | (with_reducible refine gO_i tyIs_int ?_) | (with_reducible refine gO_i tyIs_bool ?_) | (with_reducible refine gO_i tyIs_str ?_) | (with_reducible refine gO_i tyIs_tuple ?_) | (with_reducible refine gO_i tyIs_list ?_) | (with_reducible refine gDs_i ?_) | (with_reducible refine gO_i (Eq.refl _) ?_) | (with_reducible refine gO_i (by assumption) ?_) | (with_reducible refine gO_i at_0 ?_) | (with_reducible refine gO_i at_m0 ?_) | (with_reducible refine gO_i at_1 ?_) | (with_reducible refine gO_i at_m1 ?_) | (with_reducible refine gO_i at_2 ?_) | (with_reducible refine gO_i at_m2 ?_) | (with_reducible refine gO_i at_3 ?_) | (with_reducible refine gO_i at_m3 ?_) | (with_reducible refine gO_i at_4 ?_) | (with_reducible refine gO_i at_m4 ?_) | (with_reducible refine gO_i at_5 ?_) | (with_reducible refine gO_i at_m5 ?_) | (with_reducible refine gO_i at_6 ?_) | (with_reducible refine gO_i at_m6 ?_) | (with_reducible refine gO_i at_7 ?_) | (with_reducible refine gO_i at_m7 ?_) | (with_reducible refine IfB.ngf ?_) | (with_reducible refine IfB.ngt ?_) | (with_reducible refine IfB.not ?_) | (with_reducible refine IfB.nil ?_) | (with_reducible refine IfB.nilT ?_) | (with_reducible refine IfB.f isE_c ?_) | (with_reducible refine IfB.t isE_n ?_) | (with_reducible refine IfB.t ?gha ?_; (case gha => rfl)) | (with_reducible refine IfB.f ?gha ?_; (case gha => rfl)) | (with_reducible refine IfB.t ?gha ?_; (case gha => assumption)) | (with_reducible refine IfB.f ?gha ?_; (case gha => assumption)) | (with_reducible refine IfB.yes (Eq.refl _) ?_) | (with_reducible refine IfB.yes ?gha ?_; (case gha => (first | omega | (simp only [len_c, len_n, List.length_map]; omega)))) | (with_reducible refine IfB.no ?gha ?_; (case gha => (first | omega | (simp only [len_c, len_n, List.length_map]; omega)))) | (with_reducible refine IfB.t ?gha ?_; (case gha => decide +kernel)) | (with_reducible refine IfB.f ?gha ?_; (case gha => decide +kernel))); (with_reducible (conv => whnf))))))
local macro_rules
  | `(tactic| decreasing_trivial_pre_omega) => `(tactic| (decreasing_trivial; (repeat ((first | ((with_reducible refine And.intro ?gha ?_); (case gha => (first | assumption | omega | exact rfl | (exact mset_same) | (exact ⟨_, mset_same⟩) | (exact Exists.intro _ (by first | exact mset_same | assumption | (rw [mset_ne (by assumption)]; first | exact mset_same | assumption))) | (exact sm_of (by omega) (by omega)) | (exact sz1000 (by first | omega | (simp; done) | (simp; omega))) | (exact Or.inl ⟨by decide, by decide⟩) | decide | (simp; done) | (refine ⟨?_, ?_⟩ <;> (first | assumption | omega | exact rfl | (exact mset_same) | (exact ⟨_, mset_same⟩) | (exact Exists.intro _ (by first | exact mset_same | assumption | (rw [mset_ne (by assumption)]; first | exact mset_same | assumption))) | (exact sm_of (by omega) (by omega)) | (exact sz1000 (by first | omega | (simp; done) | (simp; omega))) | (exact Or.inl ⟨by decide, by decide⟩) | decide | (simp; done))) | (refine ⟨?_, ?_, ?_⟩ <;> (first | assumption | omega | exact rfl | (exact mset_same) | (exact ⟨_, mset_same⟩) | (exact Exists.intro _ (by first | exact mset_same | assumption | (rw [mset_ne (by assumption)]; first | exact mset_same | assumption))) | (exact sm_of (by omega) (by omega)) | (exact sz1000 (by first | omega | (simp; done) | (simp; omega))) | (exact Or.inl ⟨by decide, by decide⟩) | decide | (simp; done))) | (refine ⟨?_, ?_, ?_, ?_⟩ <;> (first | assumption | omega | exact rfl | (exact mset_same) | (exact ⟨_, mset_same⟩) | (exact Exists.intro _ (by first | exact mset_same | assumption | (rw [mset_ne (by assumption)]; first | exact mset_same | assumption))) | (exact sm_of (by omega) (by omega)) | (exact sz1000 (by first | omega | (simp; done) | (simp; omega))) | (exact Or.inl ⟨by decide, by decide⟩) | decide | (simp; done)))))) | (with_reducible refine exW (by first | exact mset_same | assumption | (rw [mset_ne (by assumption)]; first | exact mset_same | assumption)) ?_)); decreasing_trivial))))
/-- what a make tells of a place of its own -/
@[reducible] def tfAtP (g : PyData → PyData) (C : Addr) : TF := fun ws M R _ => ∃ (a : Addr) (t : PyData) (hs : Hs) (n u : Nat) (q : List Nat) (e : PyData), ws = [.r a, .d (pathD q)] ∧ (HtS C M a t hs n u ∧ pathOk q ∧ sub t q = some e) ∧ R (.d (g e)) M
def tagP : PyData → PyData
  | .tuple (s :: _) => s
  | _ => .none
def manyP : PyData → PyData
  | .tuple [_, .tuple ks] => .int (ks.length : Nat)
  | _ => .none
def abvD (_ : PyData) (hs : Hs) (q : List Nat) : PyData := if q = [] then .none else .int (hN hs q.dropLast : Nat)
def blwD (t : PyData) (hs : Hs) (q : List Nat) : PyData := .tuple ((List.range (kidsN t q)).map fun i => .int (hN hs (q ++ [i]) : Nat))
def tagD (t : PyData) (_ : Hs) (q : List Nat) : PyData := tagP ((sub t q).getD .none)
theorem plc_ok60 {t : PyData} (ht : TrT 12 t) (hn : nn t ≤ 60) {q : List Nat} (h : q ∈ plc t) : pathOk q ∧ ∃ e, sub t q = some e := by
  obtain ⟨e, he⟩ := plc_sub ht q h
  obtain ⟨s, ks, rfl, h1, _⟩ := node_at ht he
  refine ⟨⟨h1, fun i hi => ?_⟩, _, he⟩
  obtain ⟨a, b, rfl⟩ := List.append_of_mem hi
  have h1 : ∃ u, sub t (a ++ [i]) = some u := sub_cut (b := b) ht (by rw [List.append_assoc]; exact he)
  obtain ⟨u, hu⟩ := sub_cut (a := a) (b := [i]) ht h1.choose_spec
  have h2 := (sub_kid ht hu i).mp h1
  obtain ⟨s1, ks1, rfl, _, h5, _⟩ := node_at ht hu
  rw [kidsN_of hu] at h2
  have := len_nn ks1
  omega
section
variable {P : Program} {w : World} {K : PySem.W.Frag} {mg : Str → Option Value} {base : Heap}
abbrev sMkTg : Stmt := inClsN (top 81) 11
theorem scMkTg : FnScope ["self", "path"] ["self", "path"] (defScope sMkTg) := ⟨rfl, rfl, rfl, by decide +kernel, rfl, by decide +kernel, by decide +kernel⟩
theorem ok_htTag {f C cT cN cP : Addr} {fd : FuncData} {k j : Nat} (F : Fun K "tag" "Make.tag" sMkTg f fd) (MMake : HtC K C) (UMake_value : UseM P w K mg base C "value" ["self"] j (spD K 1 (tfHt C fun t _ _ _ => t))) (Upart_of : UseX P w K mg base "part_of" ["tree", "path"] j (spD K 2 (tfPart cT cN cP))) (hj : j ≤ k) : FnOk P w K mg base CX0 (k + 1) f fd ["self", "path"] (spD K 2 (tfAtP tagP C)) := by
  refine okD F scMkTg rfl fun cdv A outer s H E hr => ?_
  refine ⟨_, _, (pss_one (ps_ret (pe_ix ix_tup (pe_callS Upart_of.ok (hr.mono (by omega)) rfl Upart_of.m Upart_of.kp Upart_of.b (fun σ => passAt takes0 σ) (pa_cons (pe_meth0 (E := fun _ _ _ => False) (pv 0) MMake.cls UMake_value.hm UMake_value.ok (hr.mono (by omega)) UMake_value.b .nil pass0) (pa_cons (pv 1) pa_nil))) pe_int (fun _ _ => rfl)))),
    (ss_ret (se_op so_ixT (se_callX (sa_cons (se_meth se_nm sa_nil) (sa_cons se_nm sa_nil))) se_int)), fun ws M R RX hl h => ?_⟩
  obtain ⟨a, t, hs, n, u, q, e, rfl, ⟨⟨hA, h1, h2, ok⟩, hq, he⟩, h3⟩ := h
  have hA0 := hA
  obtain ⟨dx, p, e', l, b, r, c, hM, hP, hE⟩ := hA0
  have tt := (tree_eq h1 h2).2.2.1
  have it := tree_iff.mpr ⟨h1, h2⟩
  have tq := path_txt q
  simp only [start0, len_c, len_n, map_c, map_n, app_c, app_n, rep_0, rep_s, Nat.reduceAdd, Nat.reduceSub]
  decreasing_trivial_pre_omega
  refine ⟨a, t, hs, [], n, u, rfl, hA, ?_⟩
  decreasing_trivial_pre_omega
  refine ⟨t, pathD q, rfl, ⟨tt, tq⟩, fun z => (by rw [it] at z; cases z), fun _ z => (by rw [isPath_ok hq] at z; cases z), fun _ q2 z _ z2 => (by rw [← pathD_inj z, he] at z2; cases z2), fun _ q2 e2 z1 z2 z3 => ?_⟩
  have ee : e2 = e := by rw [← pathD_inj z1, he] at z3; exact (Option.some.inj z3).symm
  subst ee
  obtain ⟨s0, ks, rfl, _⟩ := node_at h1 he
  decreasing_trivial_pre_omega
  exact h3
abbrev sMkMn : Stmt := inClsN (top 81) 12
theorem scMkMn : FnScope ["self", "path"] ["self", "path"] (defScope sMkMn) := ⟨rfl, rfl, rfl, by decide +kernel, rfl, by decide +kernel, by decide +kernel⟩
theorem ok_htMany {f C cT cN cP : Addr} {fd : FuncData} {k j : Nat} (F : Fun K "many" "Make.many" sMkMn f fd) (MMake : HtC K C) (UMake_value : UseM P w K mg base C "value" ["self"] j (spD K 1 (tfHt C fun t _ _ _ => t))) (Upart_of : UseX P w K mg base "part_of" ["tree", "path"] j (spD K 2 (tfPart cT cN cP))) (hj : j ≤ k) (T : Bl mg) : FnOk P w K mg base CX0 (k + 1) f fd ["self", "path"] (spD K 2 (tfAtP manyP C)) := by
  refine okD F scMkMn rfl fun cdv A outer s H E hr => ?_
  refine ⟨_, _, (pss_one (ps_ret (pe_callB call_len_seq (by rfl) T.len PySem.boot_len (pa_cons (pe_ix ix_tup (pe_callS Upart_of.ok (hr.mono (by omega)) rfl Upart_of.m Upart_of.kp Upart_of.b (fun σ => passAt takes0 σ) (pa_cons (pe_meth0 (E := fun _ _ _ => False) (pv 0) MMake.cls UMake_value.hm UMake_value.ok (hr.mono (by omega)) UMake_value.b .nil pass0) (pa_cons (pv 1) pa_nil))) pe_int (fun _ _ => rfl)) pa_nil)))),
    (ss_ret (se_cb sc_len (sa_cons (se_op so_ixT (se_callX (sa_cons (se_meth se_nm sa_nil) (sa_cons se_nm sa_nil))) se_int) sa_nil))), fun ws M R RX hl h => ?_⟩
  obtain ⟨a, t, hs, n, u, q, e, rfl, ⟨⟨hA, h1, h2, ok⟩, hq, he⟩, h3⟩ := h
  have hA0 := hA
  obtain ⟨dx, p, e', l, b, r, c, hM, hP, hE⟩ := hA0
  have tt := (tree_eq h1 h2).2.2.1
  have it := tree_iff.mpr ⟨h1, h2⟩
  have tq := path_txt q
  simp only [start0, len_c, len_n, map_c, map_n, app_c, app_n, rep_0, rep_s, Nat.reduceAdd, Nat.reduceSub]
  decreasing_trivial_pre_omega
  refine ⟨a, t, hs, [], n, u, rfl, hA, ?_⟩
  decreasing_trivial_pre_omega
  refine ⟨t, pathD q, rfl, ⟨tt, tq⟩, fun z => (by rw [it] at z; cases z), fun _ z => (by rw [isPath_ok hq] at z; cases z), fun _ q2 z _ z2 => (by rw [← pathD_inj z, he] at z2; cases z2), fun _ q2 e2 z1 z2 z3 => ?_⟩
  have ee : e2 = e := by rw [← pathD_inj z1, he] at z3; exact (Option.some.inj z3).symm
  subst ee
  obtain ⟨s0, ks, rfl, _⟩ := node_at h1 he
  decreasing_trivial_pre_omega
  exact h3
abbrev sHtTb : Stmt := inClsN (top 83) 7
theorem scHtTb : FnScope ["self", "handle"] ["self", "handle"] (defScope sHtTb) := ⟨rfl, rfl, rfl, by decide +kernel, rfl, by decide +kernel, by decide +kernel⟩
theorem ok_htTagBy {f C cH : Addr} {fd : FuncData} {k j : Nat} (F : Fun K "tag_by" "HandleTree.tag_by" sHtTb f fd) (MHandleTree : HtC K C) (UHandleTree_path_of : UseMX P w K mg base C "path_of" ["self", "handle"] j (spD K 2 (tfByH ptD C cH))) (UHandleTree_tag : UseM P w K mg base C "tag" ["self", "path"] j (spD K 2 (tfAtP tagP C))) (hj : j ≤ k) : FnOk P w K mg base (L2.CX P w) (k + 1) f fd ["self", "handle"] (spD K 2 (tfByH tagD C cH)) := by
  refine okDX F scHtTb rfl fun cdv A outer s H E hr => ?_
  refine ⟨_, fun RE => _, (pss_one (ps_ret (pe_meth (E := fun _ _ _ => False) (pv 0) MHandleTree.cls UHandleTree_tag.hm UHandleTree_tag.ok (hr.mono (by omega)) UHandleTree_tag.b .nil pass0 (pa_cons (pe_methE (pv 0) MHandleTree.cls UHandleTree_path_of.hm UHandleTree_path_of.ok (hr.mono (by omega)) UHandleTree_path_of.b (fun σ => passAt (takes_of (E := E) rfl rfl rfl rfl) σ) (pa_cons (pv 1) pa_nil)) pa_nil)))), fun RE => (ss_ret (se_meth se_nm (sa_cons (se_methX se_nm (sa_cons se_nm sa_nil)) sa_nil))), fun ws M R RX hl h => ?_⟩
  obtain ⟨a, t, hs, n, u, x, rfl, ⟨⟨hA, ht, hn, ok⟩, hx⟩, h1, h2, h3⟩ := h
  have hA0 := hA
  obtain ⟨dx, p, e', l, b, r, c, hM, hP, hE⟩ := hA0
  simp only [start0, len_c, len_n, map_c, map_n, app_c, app_n, rep_0, rep_s, Nat.reduceAdd, Nat.reduceSub]
  decreasing_trivial_pre_omega
  refine ⟨a, t, hs, n, u, x, rfl, ⟨⟨hA, ht, hn, ok⟩, hx⟩, h1, fun q m hq e => ?_, h3⟩
  obtain ⟨k1, e2, k2⟩ := plc_ok60 ht hn ((ok.mem q).mp (List.mem_map.mpr ⟨(q, m), hq, rfl⟩))
  have q1 := h2 q m hq e
  unfold tagD at q1
  rw [k2] at q1
  decreasing_trivial_pre_omega
  exact ⟨a, t, hs, n, u, q, e2, rfl, ⟨⟨hA, ht, hn, ok⟩, k1, k2⟩, q1⟩
abbrev sHtAb : Stmt := inClsN (top 83) 5
theorem scHtAb : FnScope ["self", "handle", "path"] ["self", "handle"] (defScope sHtAb) := ⟨rfl, rfl, rfl, by decide +kernel, rfl, by decide +kernel, by decide +kernel⟩
theorem ok_htAbove {f C cH : Addr} {fd : FuncData} {k j : Nat} (F : Fun K "above" "HandleTree.above" sHtAb f fd) (MHandleTree : HtC K C) (UHandleTree_path_of : UseMX P w K mg base C "path_of" ["self", "handle"] j (spD K 2 (tfByH ptD C cH))) (hj : j ≤ k) : FnOk P w K mg base (L2.CX P w) (k + 1) f fd ["self", "handle"] (spD K 2 (tfByH abvD C cH)) := by
  refine okDX F scHtAb rfl fun cdv A outer s H E hr => ?_
  refine ⟨_, fun RE => _, (pss_cons (ps_set (i := 2) scHtAb.nd rfl (.inl rfl) (pe_methE (pv 0) MHandleTree.cls UHandleTree_path_of.hm UHandleTree_path_of.ok (hr.mono (by omega)) UHandleTree_path_of.b (fun σ => passAt (takes_of (E := E) rfl rfl rfl rfl) σ) (pa_cons (pv 1) pa_nil)))
    (pss_cons (ps_if (pt_cmpR (op_eqD hr.units) (pv 2) (pe_tup pa_nil) (nomark _)) (pss_one (ps_ret pe_non)) pss_nil)
    (pss_one (ps_ret (pe_uget (hu20 hr) (pe_fld (pv 0) (by rfl)) (pe_slice sl_tupA (pv 2) po_none (po_some (pe_un un_neg pe_int))) (fun _ _ => rfl)))))), fun RE => (ss_cons (ss_set (se_methX se_nm (sa_cons se_nm sa_nil)))
    (ss_cons (ss_if (st_test (se_op so_eqD se_nm (se_tup sa_nil))) (ss_ret se_non) ss_nil)
    (ss_ret (se_getU (se_fld se_nm) (se_sl sl_T se_nm sp_no (sp_some (se_un su_neg se_int))))))), fun ws M R RX hl h => ?_⟩
  obtain ⟨a, t, hs, n, u, x, rfl, ⟨⟨hA, ht, hn, ok⟩, hx⟩, h1, h2, h3⟩ := h
  have hA0 := hA
  obtain ⟨dx, p, e', l, b, r, c, hM, hP, hE⟩ := hA0
  have c1 := MHandleTree.cls
  have c7 := MHandleTree.n7
  simp only [start0, len_c, len_n, map_c, map_n, app_c, app_n, rep_0, rep_s, Nat.reduceAdd, Nat.reduceSub]
  decreasing_trivial_pre_omega
  refine ⟨a, t, hs, n, u, x, rfl, ⟨⟨hA, ht, hn, ok⟩, hx⟩, h1, fun q m hq e => ?_, h3⟩
  have q1 := h2 q m hq e
  unfold abvD at q1
  rw [show ptD t hs q = pathD q from rfl]
  decreasing_trivial_pre_omega
  refine ⟨⟨eqOk_path q, by decide +kernel⟩, ?_⟩
  rw [show PyData.tuple [] = pathD [] from rfl, eqv_path]
  decreasing_trivial_pre_omega
  refine IfB.d (fun cq => ?_) (fun cq => ?_)
  · rw [if_pos cq] at q1
    decreasing_trivial_pre_omega
    exact q1
  · rw [if_neg cq] at q1
    rcases List.eq_nil_or_concat q with rfl | ⟨r, i, rfl⟩
    · exact absurd rfl cq
    rw [List.concat_eq_append] at *
    rw [List.dropLast_concat] at q1
    obtain ⟨k1, e2, k2⟩ := plc_ok60 ht hn ((ok.mem _).mp (List.mem_map.mpr ⟨(r ++ [i], m), hq, rfl⟩))
    obtain ⟨u2, hu⟩ := sub_cut (a := r) (b := [i]) ht k2
    obtain ⟨m2, o1, o2, o3⟩ := ok.of (sub_plc ht hu)
    have k3 := ok_path' r
    have k4 : (pathD r).depth ≤ 8 := by
      have := pathD_depth r
      omega
    have v := val_kwH hs r
    unfold hN at q1
    rw [o1] at v q1
    unfold pathD at k3 k4 v ⊢
    decreasing_trivial_pre_omega
    rw [cut_last, ← List.map_dropLast, List.dropLast_concat]
    exact ⟨⟨k3, k4⟩, _, hP, gO_i v q1⟩
abbrev sHtBe : Stmt := inClsN (top 83) 6
theorem scHtBe : FnScope ["self", "handle", "path", "at"] ["self", "handle"] (defScope sHtBe) := ⟨rfl, rfl, rfl, by decide +kernel, rfl, by decide +kernel, by decide +kernel⟩
theorem ok_htBelow {f C cH : Addr} {fd : FuncData} {k j : Nat} (F : Fun K "below" "HandleTree.below" sHtBe f fd) (MHandleTree : HtC K C) (UHandleTree_path_of : UseMX P w K mg base C "path_of" ["self", "handle"] j (spD K 2 (tfByH ptD C cH))) (UHandleTree_many : UseM P w K mg base C "many" ["self", "path"] j (spD K 2 (tfAtP manyP C))) (hj : j ≤ k) (T : Bl mg) : FnOk P w K mg base (L2.CX P w) (k + 1) f fd ["self", "handle"] (spD K 2 (tfByH blwD C cH)) := by
  refine okDX F scHtBe rfl fun cdv A outer s H E hr => ?_
  refine ⟨_, fun RE => _, (pss_cons (ps_set (i := 2) scHtBe.nd rfl (.inr rfl) (pe_methE (pv 0) MHandleTree.cls UHandleTree_path_of.hm UHandleTree_path_of.ok (hr.mono (by omega)) UHandleTree_path_of.b (fun σ => passAt (takes_of (E := E) rfl rfl rfl rfl) σ) (pa_cons (pv 1) pa_nil)))
    (pss_one (ps_ret (pe_callTy call_tuple_of (by rfl) T.tuple PyProof.Rows.boot_tuple (pa_cons (pe_lc (own := [("at", 3)]) (g := gName 3) (tt := tYes) (by rfl) scHtBe.nd (pi_range1 (by rfl) T.range (pa_cons (pe_meth (E := fun _ _ _ => False) (pv 0) MHandleTree.cls UHandleTree_many.hm UHandleTree_many.ok (hr.mono (by omega)) UHandleTree_many.b .nil pass0 (pa_cons (pv 2) pa_nil)) pa_nil)) (blkOk_by (N := ["self", "handle", "path", "at"]) (sc := defScope sHtBe) (own := [("at", 3)]) (by decide +kernel)) (fun _ _ _ _ _ => pg_name (i := 3) scHtBe.nd rfl (Or.inl rfl)) (fun _ _ _ _ _ => pts_nil) (fun _ _ _ _ _ => (pe_uget (hu20 hr) (pe_fld (pv 0) (by rfl)) (pe_op op_catA (pv 2) (pe_tup (pa_cons (pv 3) pa_nil))) (fun _ _ => rfl)))) pa_nil))))), fun RE => (ss_cons (ss_set (se_methX se_nm (sa_cons se_nm sa_nil)))
    (ss_ret (se_cb sc_tuple (sa_cons (se_lcF (si_r1 (sa_cons (se_meth se_nm (sa_cons se_nm sa_nil)) sa_nil)) sg_name st_yes (se_getU (se_fld se_nm) (se_op so_catT se_nm (se_tup (sa_cons se_nm sa_nil))))) sa_nil)))), fun ws M R RX hl h => ?_⟩
  obtain ⟨a, t, hs, n, u, x, rfl, ⟨⟨hA, ht, hn, ok⟩, hx⟩, h1, h2, h3⟩ := h
  have hA0 := hA
  obtain ⟨dx, p, e', l, b, r, c, hM, hP, hE⟩ := hA0
  have c1 := MHandleTree.cls
  have c7 := MHandleTree.n7
  simp only [start0, len_c, len_n, map_c, map_n, app_c, app_n, rep_0, rep_s, Nat.reduceAdd, Nat.reduceSub]
  decreasing_trivial_pre_omega
  refine ⟨a, t, hs, n, u, x, rfl, ⟨⟨hA, ht, hn, ok⟩, hx⟩, h1, fun q m hq e => ?_, h3⟩
  obtain ⟨k1, e2, k2⟩ := plc_ok60 ht hn ((ok.mem q).mp (List.mem_map.mpr ⟨(q, m), hq, rfl⟩))
  have q1 := h2 q m hq e
  decreasing_trivial_pre_omega
  rw [show ptD t hs q = pathD q from rfl]
  refine ⟨a, t, hs, n, u, q, e2, rfl, ⟨⟨hA, ht, hn, ok⟩, k1, k2⟩, ?_⟩
  unfold blwD at q1
  rw [show kidsN t q = (kidsD e2).length by rw [kidsN, partD, k2]; rfl] at q1
  obtain ⟨s0, ks, rfl, g1, g2, _⟩ := node_at ht k2
  rw [kidsD_node] at q1
  rw [show manyP (.tuple [.str s0, .tuple ks]) = .int (ks.length : Nat) from rfl]
  have hkl : ks.length ≤ 60 := by have := len_nn ks; omega
  decreasing_trivial_pre_omega
  rw [Int.toNat_natCast]
  unfold rng
  refine lc1F (xs := List.range ks.length) (f := fun i : Nat => W.d (.int (0 + (i : Nat)))) (k := fun ds => R (.d (.tuple ds)) M) (b := bName 3) (fun i => .int (hN hs (q ++ [i]) : Nat)) trivial (fun i hi Rk q2 => ?_) (sz1000 (by rw [List.length_range]; omega)) ?_
  · have hi2 := List.mem_range.mp hi
    obtain ⟨u2, hu⟩ := (sub_kid ht k2 i).mpr (by rw [kidsN_of k2]; exact hi2)
    obtain ⟨m2, o1, o2, o3⟩ := ok.of (sub_plc ht hu)
    have k3 := ok_path' (q ++ [i])
    have k4 : (pathD (q ++ [i])).depth ≤ 8 := by
      have := pathD_depth (q ++ [i])
      omega
    have v := val_kwH hs (q ++ [i])
    unfold hN at q2
    rw [o1] at v q2
    have pc := path_cat q i
    rw [Int.zero_add]
    unfold pathD
    decreasing_trivial_pre_omega
    rw [pc]
    exact ⟨⟨k3, k4⟩, _, hP, gO_i v q2⟩
  · decreasing_trivial_pre_omega
    exact q1
end
end Tl
set_option Elab.async false
set_option linter.all false
set_option maxRecDepth 100000
set_option maxHeartbeats 8000000
namespace Tl
open PySem L2 RZ
local macro_rules
  | `(tactic| decreasing_trivial) => `(tactic| ((with_reducible (conv => whnf)); (repeat ((first | (with_reducible refine exI (by first | exact mset_same | assumption | (rw [mset_ne (by assumption)]; first | exact mset_same | assumption)) ?_) | (with_reducible refine exI2 (by first | exact mset_same | assumption | (rw [mset_ne (by assumption)]; first | exact mset_same | assumption)) ?_) | (with_reducible refine gPut_n ?_) | (with_reducible refine gPut_0 ?_) | (with_reducible refine (gPut_s (by decide +kernel)) ?_) | (with_reducible refine (gO_i hk_tr) ?_) | (with_reducible refine (gO_i hk_he) ?_) | (with_reducible refine (gO_i hk_en) ?_) | (with_reducible refine (gO_i hk_is) ?_) | (with_reducible refine (gO_i hk_tu) ?_) | (with_reducible refine hp_is ?_) | (with_reducible refine gDs_c ?_) | (with_reducible refine gDs_n ?_) | (with_reducible refine gNs_c ?_) | (with_reducible refine gNs_n ?_) | (with_reducible refine gO_i tyAny_lt ?_) | (with_reducible refine gIs_c ?_) | (with_reducible refine gIs_n ?_) | (with_reducible refine gBs_c ?_) | (with_reducible refine gBs_n ?_) | (with_reducible refine gSs_c ?_) | (with_reducible refine gSs_n ?_) | (with_reducible refine gO_i tyIs_int ?_) | (with_reducible refine gO_i tyIs_bool ?_) | (with_reducible refine gO_i tyIs_str ?_) | (with_reducible refine gO_i tyIs_tuple ?_) | (with_reducible refine gO_i tyIs_list ?_) | (with_reducible refine gDs_i ?_) | (with_reducible refine gO_i (Eq.refl _) ?_) | (with_reducible refine gO_i (by assumption) ?_) | (with_reducible refine gO_i at_0 ?_) | (with_reducible refine gO_i at_m0 ?_) | (with_reducible refine gO_i at_1 ?_) | (with_reducible refine gO_i at_m1 ?_) | (with_reducible refine gO_i at_2 ?_) | (with_reducible refine gO_i at_m2 ?_) | (with_reducible refine gO_i at_3 ?_) | (with_reducible refine gO_i at_m3 ?_) | (with_reducible refine gO_i at_4 ?_) | (with_reducible refine gO_i at_m4 ?_) | (with_reducible refine gO_i at_5 ?_) | (with_reducible refine gO_i at_m5 ?_) | (with_reducible refine gO_i at_6 ?_) | (with_reducible refine gO_i at_m6 ?_) | (with_reducible refine gO_i at_7 ?_) | (with_reducible refine gO_i at_m7 ?_) | (with_reducible refine IfB.ngf ?_) | (with_reducible refine IfB.ngt ?_) | (with_reducible refine IfB.not ?_) | (with_reducible refine IfB.nil ?_) | (with_reducible refine IfB.nilT ?_) | (with_reducible refine IfB.f isE_c ?_) | (with_reducible refine IfB.t isE_n ?_) | (with_reducible refine IfB.t ?gha ?_; (case gha => rfl)) | (with_reducible refine IfB.f ?gha ?_; (case gha => rfl)) | (with_reducible refine IfB.t ?gha ?_; (case gha => assumption)) | (with_reducible refine IfB.f ?gha ?_; (case gha => assumption)) | (with_reducible refine IfB.yes (Eq.refl _) ?_) | (with_reducible refine IfB.yes ?gha ?_; (case gha => (first | omega | (simp only [len_c, len_n, List.length_map]; omega)))) | (with_reducible refine IfB.no ?gha ?_; (case gha => (first | omega | (simp only [len_c, len_n, List.length_map]; omega)))) | (with_reducible refine IfB.t ?gha ?_; (case gha => decide +kernel)) | (with_reducible refine IfB.f ?gha ?_; (case gha => decide +kernel))); (with_reducible (conv => whnf))))))
local macro_rules
  | `(tactic| decreasing_trivial_pre_omega) => `(tactic| (decreasing_trivial; (repeat ((first | ((with_reducible refine And.intro ?gha ?_); (case gha => (first | assumption | omega | exact rfl | (exact mset_same) | (exact ⟨_, mset_same⟩) | (exact Exists.intro _ (by first | exact mset_same | assumption | (rw [mset_ne (by assumption)]; first | exact mset_same | assumption))) | (exact sm_of (by omega) (by omega)) | (exact sz1000 (by first | omega | (simp; done) | (simp; omega))) | (exact Or.inl ⟨by decide, by decide⟩) | decide | (simp; done) | (refine ⟨?_, ?_⟩ <;> (first | assumption | omega | exact rfl | (exact mset_same) | (exact ⟨_, mset_same⟩) | (exact Exists.intro _ (by first | exact mset_same | assumption | (rw [mset_ne (by assumption)]; first | exact mset_same | assumption))) | (exact sm_of (by omega) (by omega)) | (exact sz1000 (by first | omega | (simp; done) | (simp; omega))) | (exact Or.inl ⟨by decide, by decide⟩) | decide | (simp; done))) | (refine ⟨?_, ?_, ?_⟩ <;> (first | assumption | omega | exact rfl | (exact mset_same) | (exact ⟨_, mset_same⟩) | (exact Exists.intro _ (by first | exact mset_same | assumption | (rw [mset_ne (by assumption)]; first | exact mset_same | assumption))) | (exact sm_of (by omega) (by omega)) | (exact sz1000 (by first | omega | (simp; done) | (simp; omega))) | (exact Or.inl ⟨by decide, by decide⟩) | decide | (simp; done))) | (refine ⟨?_, ?_, ?_, ?_⟩ <;> (first | assumption | omega | exact rfl | (exact mset_same) | (exact ⟨_, mset_same⟩) | (exact Exists.intro _ (by first | exact mset_same | assumption | (rw [mset_ne (by assumption)]; first | exact mset_same | assumption))) | (exact sm_of (by omega) (by omega)) | (exact sz1000 (by first | omega | (simp; done) | (simp; omega))) | (exact Or.inl ⟨by decide, by decide⟩) | decide | (simp; done)))))) | (with_reducible refine exW (by first | exact mset_same | assumption | (rw [mset_ne (by assumption)]; first | exact mset_same | assumption)) ?_)); decreasing_trivial))))
section
variable {P : Program} {w : World} {K : PySem.W.Frag} {mg : Str → Option Value} {base : Heap}
theorem bootVE : bootBuiltins "ValueError" = some (.type "ValueError") := by decide +kernel
/-- never a handle of it -/
def Never (n : Nat) (x : PyData) : Prop := isCount x = false ∨ ∃ i : Int, x = .int i ∧ (n : Nat) ≤ i
inductive TCase (t : PyData) (n : Nat) : Nat → PyData → PyData → Prop
  | path (x : PyData) : isPath x = false → TCase t n 0 x (.list [.str "NoPath", .none])
  | lost (q : List Nat) : pathOk q → sub t q = none → TCase t n 0 (pathD q) (.list [.str "NoPlace", .str (pathD q).shown])
  | never (i : Nat) (x : PyData) : 1 ≤ i → i ≤ 4 → Never n x → TCase t n i x (.list [.str "NoHandle", .str x.shown])
@[reducible] def tfTold (C : Addr) : TF := fun ws M R _ => ∃ (a : Addr) (t : PyData) (hs : Hs) (n u : Nat) (i : Nat) (x z : PyData), ws = [.r a, .d (.int (i : Nat)), .d x] ∧ (HtS C M a t hs n u ∧ txt x = true ∧ GdB x ∧ TCase t n i x z) ∧ R (.d z) M
theorem never_not {n : Nat} {x : PyData} (h : Never n x) {m : Nat} (e : x = .int (m : Nat)) (hm : m < n) : False := by
  rcases h with h | ⟨i, h, h2⟩
  · rw [e, isCount] at h
    have := of_decide_eq_false h
    omega
  · rw [e] at h
    injection h with h
    omega
abbrev sTold : Stmt := top 91
theorem scTold : FnScope ["_law_tree_here", "_law_way", "_law_thing", "_law_found", "_law_kinds", "_law_heads", "error"] ["_law_tree_here", "_law_way", "_law_thing"] (defScope sTold) := ⟨rfl, rfl, rfl, by decide +kernel, rfl, by decide +kernel, by decide +kernel⟩
theorem ok_told {f C : Addr} {fd : FuncData} {k j : Nat} (F : Fun K "_law_told" "_law_told" sTold f fd) (A : Cls K mg) (MHandleTree : HtC K C) (UHandleTree_path_of : UseMX P w K mg base C "path_of" ["self", "handle"] j (spD K 2 (tfByH ptD C A.c_NoHandle)))
    (UHandleTree_above : UseMX P w K mg base C "above" ["self", "handle"] j (spD K 2 (tfByH abvD C A.c_NoHandle))) (UHandleTree_below : UseMX P w K mg base C "below" ["self", "handle"] j (spD K 2 (tfByH blwD C A.c_NoHandle))) (UHandleTree_tag_by : UseMX P w K mg base C "tag_by" ["self", "handle"] j (spD K 2 (tfByH tagD C A.c_NoHandle)))
    (UHandleTree_handle_of : UseMX P w K mg base C "handle_of" ["self", "path"] j (spD K 2 (tfHandleOf C A.c_NoPath A.c_NoPlace))) (hj : j ≤ k) (T : Bl mg) (mVE : mg "ValueError" = none) (xfH : XfC K A.c_NoHandle) (xfP : XfC K A.c_NoPlace) : FnG P w K mg base (k + 1) f fd ["_law_tree_here", "_law_way", "_law_thing"] (spD K 3 (tfTold C)) := by
  refine okDG F scTold rfl fun cdv A' outer s H E hgu hr => ?_
  have hun : (A'.deeper (PyProof.Rows.envOfC "_law_told" (defScope sTold) s.heap.objs.size f cdv)).units + 200 < cLine := by
    have := hr.un
    omega
  refine ⟨_, _, (pss_cons (ps_set (i := 3) scTold.nd rfl (.inl rfl) pe_non)
    (pss_cons (ps_try_as (i := 6) (Wout := fun _ _ _ _ => False) rfl rfl scTold.nd rfl rfl ⟨rfl, by decide, .inl A.m_TreeError⟩ takes0
    (fun W pn xe tk _ => (pss_one (ps_if (pt_cmpR op_eq (pv 1) pe_int (nomark _)) (pss_one (ps_expr (pe_methE (pv 0) MHandleTree.cls UHandleTree_handle_of.hm UHandleTree_handle_of.ok (hr.mono (by omega)) UHandleTree_handle_of.b (fun σ => passAt tk σ) (pa_cons (pv 2) pa_nil)))) (pss_one (ps_if (pt_cmpR op_eq (pv 1) pe_int (nomark _)) (pss_one (ps_expr (pe_methE (pv 0) MHandleTree.cls UHandleTree_path_of.hm UHandleTree_path_of.ok (hr.mono (by omega)) UHandleTree_path_of.b (fun σ => passAt tk σ) (pa_cons (pv 2) pa_nil)))) (pss_one (ps_if (pt_cmpR op_eq (pv 1) pe_int (nomark _)) (pss_one (ps_expr (pe_methE (pv 0) MHandleTree.cls UHandleTree_above.hm UHandleTree_above.ok (hr.mono (by omega)) UHandleTree_above.b (fun σ => passAt tk σ) (pa_cons (pv 2) pa_nil)))) (pss_one (ps_if (pt_cmpR op_eq (pv 1) pe_int (nomark _)) (pss_one (ps_expr (pe_methE (pv 0) MHandleTree.cls UHandleTree_below.hm UHandleTree_below.ok (hr.mono (by omega)) UHandleTree_below.b (fun σ => passAt tk σ) (pa_cons (pv 2) pa_nil)))) (pss_one (ps_expr (pe_methE (pv 0) MHandleTree.cls UHandleTree_tag_by.hm UHandleTree_tag_by.ok (hr.mono (by omega)) UHandleTree_tag_by.b (fun σ => passAt tk σ) (pa_cons (pv 2) pa_nil)))))))))))))
    (fun a oe cls d pn hz hf => (pss_cons (ps_set (i := 3) scTold.nd rfl (.inl rfl) (pe_lst (pa_cons pe_str (pa_cons pe_non pa_nil))))
      (pss_cons (ps_set (i := 4) scTold.nd rfl (.inl rfl) (pe_lst (pa_cons (pe_callB (r := rIsS K a cls d) (call_isS hz hf) (by rfl) T.isi PyProof.Rows.boot_isinstance (pa_cons (pv 6) (pa_cons (pe_glob (v := .ref A.c_NoPath) (by rfl) A.m_NoPath rfl) pa_nil))) (pa_cons (pe_callB (r := rIsS K a cls d) (call_isS hz hf) (by rfl) T.isi PyProof.Rows.boot_isinstance (pa_cons (pv 6) (pa_cons (pe_glob (v := .ref A.c_NoHandle) (by rfl) A.m_NoHandle rfl) pa_nil))) (pa_cons (pe_callB (r := rIsS K a cls d) (call_isS hz hf) (by rfl) T.isi PyProof.Rows.boot_isinstance (pa_cons (pv 6) (pa_cons (pe_glob (v := .ref A.c_NoPlace) (by rfl) A.m_NoPlace rfl) pa_nil))) pa_nil)))))
      (pss_cons (ps_set (i := 5) scTold.nd rfl (.inl rfl) (pe_lst (pa_cons (pe_callB (r := rIsS K a cls d) (call_isS hz hf) (by rfl) T.isi PyProof.Rows.boot_isinstance (pa_cons (pv 6) (pa_cons (pe_glob (v := .ref A.c_NoThing) (by rfl) A.m_NoThing rfl) pa_nil))) (pa_cons (pe_callB (r := rIsS K a cls d) (call_isS hz hf) (by rfl) T.isi PyProof.Rows.boot_isinstance (pa_cons (pv 6) (pa_cons (pe_glob (v := .ref A.c_NoFit) (by rfl) A.m_NoFit rfl) pa_nil))) (pa_cons (pe_callB (r := rIsS K a cls d) (call_isS hz hf) (by rfl) T.isi PyProof.Rows.boot_isinstance (pa_cons (pv 6) (pa_cons (pe_glob (v := .ref A.c_Gone) (by rfl) A.m_Gone rfl) pa_nil))) pa_nil)))))
      (pss_cons (ps_if (PW.pt (pw_and (pt_cmpR (op_eqD hr.units) (pv 4) (pe_lst (pa_cons pe_bl (pa_cons pe_bl (pa_cons pe_bl pa_nil)))) (nomark _)) (pw_and1 (pt_cmpR (op_eqD hr.units) (pv 5) (pe_lst (pa_cons pe_bl (pa_cons pe_bl (pa_cons pe_bl pa_nil)))) (nomark _))))) (pss_one (ps_set (i := 3) scTold.nd rfl (.inl rfl) (pe_lst (pa_cons pe_str (pa_cons pe_non pa_nil))))) (pss_one (ps_if (PW.pt (pw_and (pt_cmpR (op_eqD hr.units) (pv 4) (pe_lst (pa_cons pe_bl (pa_cons pe_bl (pa_cons pe_bl pa_nil)))) (nomark _)) (pw_and1 (pt_cmpR (op_eqD hr.units) (pv 5) (pe_lst (pa_cons pe_bl (pa_cons pe_bl (pa_cons pe_bl pa_nil)))) (nomark _))))) (pss_one (ps_set (i := 3) scTold.nd rfl (.inl rfl) (pe_lst (pa_cons pe_str (pa_cons (pe_callB (call_reprD hgu hun) (by rfl) T.repr PyProof.Rows.boot_repr (pa_cons (pe_xfA hz hf (pv 6)) pa_nil)) pa_nil))))) (pss_one (ps_if (PW.pt (pw_and (pt_cmpR (op_eqD hr.units) (pv 4) (pe_lst (pa_cons pe_bl (pa_cons pe_bl (pa_cons pe_bl pa_nil)))) (nomark _)) (pw_and1 (pt_cmpR (op_eqD hr.units) (pv 5) (pe_lst (pa_cons pe_bl (pa_cons pe_bl (pa_cons pe_bl pa_nil)))) (nomark _))))) (pss_one (ps_set (i := 3) scTold.nd rfl (.inl rfl) (pe_lst (pa_cons pe_str (pa_cons (pe_callB (call_reprD hgu hun) (by rfl) T.repr PyProof.Rows.boot_repr (pa_cons (pe_xfA hz hf (pv 6)) pa_nil)) pa_nil))))) pss_nil)))))
      (pss_one (ps_if (pt_not (pt_val (pe_callB (r := rIsS K a cls d) (call_isS hz hf) (by rfl) T.isi PyProof.Rows.boot_isinstance (pa_cons (pv 6) (pa_cons (pe_bltn (v := .ty "ValueError") (by rfl) mVE bootVE rfl) pa_nil))))) (pss_one (ps_set (i := 3) scTold.nd rfl (.inl rfl) (pe_lst (pa_cons pe_str (pa_cons pe_non pa_nil))))) pss_nil))))))))
    (pss_one (ps_ret (pv 3))))),
    (ss_cons (ss_set se_non)
    (ss_cons (ss_tryB (fun Wx RE => (ss_if (st_test (se_op so_eqS se_nm se_int)) (ss_drop (se_methX se_nm (sa_cons se_nm sa_nil))) (ss_if (st_test (se_op so_eqS se_nm se_int)) (ss_drop (se_methX se_nm (sa_cons se_nm sa_nil))) (ss_if (st_test (se_op so_eqS se_nm se_int)) (ss_drop (se_methX se_nm (sa_cons se_nm sa_nil))) (ss_if (st_test (se_op so_eqS se_nm se_int)) (ss_drop (se_methX se_nm (sa_cons se_nm sa_nil))) (ss_drop (se_methX se_nm (sa_cons se_nm sa_nil)))))))) (fun a cls d => (ss_cons (ss_set (se_lsf (sa_cons se_str (sa_cons se_non sa_nil))))
      (ss_cons (ss_set (se_lsf (sa_cons (se_cb sc_isS (sa_cons se_nm (sa_cons se_o sa_nil))) (sa_cons (se_cb sc_isS (sa_cons se_nm (sa_cons se_o sa_nil))) (sa_cons (se_cb sc_isS (sa_cons se_nm (sa_cons se_o sa_nil))) sa_nil)))))
      (ss_cons (ss_set (se_lsf (sa_cons (se_cb sc_isS (sa_cons se_nm (sa_cons se_o sa_nil))) (sa_cons (se_cb sc_isS (sa_cons se_nm (sa_cons se_o sa_nil))) (sa_cons (se_cb sc_isS (sa_cons se_nm (sa_cons se_o sa_nil))) sa_nil)))))
      (ss_cons (ss_if (st_and (st_test (se_op so_eqD se_nm (se_lsf (sa_cons se_bl (sa_cons se_bl (sa_cons se_bl sa_nil)))))) (st_test (se_op so_eqD se_nm (se_lsf (sa_cons se_bl (sa_cons se_bl (sa_cons se_bl sa_nil))))))) (ss_set (se_lsf (sa_cons se_str (sa_cons se_non sa_nil)))) (ss_if (st_and (st_test (se_op so_eqD se_nm (se_lsf (sa_cons se_bl (sa_cons se_bl (sa_cons se_bl sa_nil)))))) (st_test (se_op so_eqD se_nm (se_lsf (sa_cons se_bl (sa_cons se_bl (sa_cons se_bl sa_nil))))))) (ss_set (se_lsf (sa_cons se_str (sa_cons (se_cb sc_repr (sa_cons se_xfA sa_nil)) sa_nil)))) (ss_if (st_and (st_test (se_op so_eqD se_nm (se_lsf (sa_cons se_bl (sa_cons se_bl (sa_cons se_bl sa_nil)))))) (st_test (se_op so_eqD se_nm (se_lsf (sa_cons se_bl (sa_cons se_bl (sa_cons se_bl sa_nil))))))) (ss_set (se_lsf (sa_cons se_str (sa_cons (se_cb sc_repr (sa_cons se_xfA sa_nil)) sa_nil)))) ss_nil)))
      (ss_if (st_not (st_val (se_cb sc_isS (sa_cons se_nm (sa_cons se_o sa_nil))))) (ss_set (se_lsf (sa_cons se_str (sa_cons se_non sa_nil)))) ss_nil)))))))
    (ss_ret se_nm))), fun ws M R RX hl h => ?_⟩
  obtain ⟨a, t, hs, n, u, i, x, z, rfl, ⟨hS, hx, hg, hc⟩, h3⟩ := h
  have hS0 := hS
  obtain ⟨⟨dx, p, e', l, b, r, c, hM, hP, hE⟩, ht, hn, ok⟩ := hS0
  have c1 := MHandleTree.cls
  have sh := hg.sh
  have er : ∀ m : Nat, x = .int (m : Nat) → m < n → Never n x → ∃ q, (q, m) ∈ hs := fun m e1 e2 e3 => (never_not e3 e1 e2).elim
  have eq : ∀ q (m : Nat), (q, m) ∈ hs → x = .int (m : Nat) → Never n x → False := fun q m e1 e2 e3 => never_not e3 e2 (ok.lt _ e1)
  simp only [start0, len_c, len_n, map_c, map_n, app_c, app_n, rep_0, rep_s, Nat.reduceAdd, Nat.reduceSub]
  decreasing_trivial_pre_omega
  cases hc with
  | path x hp =>
    have e1 := A.h_NoPath_TreeError
    have e2 := A.x_NoPath
    have f1 := A.k_NoPath_NoPath
    have f2 := A.k_NoPath_NoHandle
    have f3 := A.k_NoPath_NoPlace
    have f4 := A.k_NoPath_NoThing
    have f5 := A.k_NoPath_NoFit
    have f6 := A.k_NoPath_Gone
    have f7 := A.v_NoPath
    decreasing_trivial_pre_omega
    refine ⟨a, t, hs, n, u, x, rfl, ⟨hS, hx⟩, fun _ => ?_, fun q e1 e2 _ => (by rw [e1, isPath_ok e2] at hp; cases hp), fun q _ e1 e2 _ => (by rw [e1, isPath_ok e2] at hp; cases hp)⟩
    decreasing_trivial_pre_omega
    intro ae dd
    decreasing_trivial_pre_omega
    exact ⟨M, fun _ _ h => h, h3⟩
  | lost q q1 q2 =>
    have e1 := A.h_NoPlace_TreeError
    have e2 := A.x_NoPlace
    have f1 := A.k_NoPlace_NoPath
    have f2 := A.k_NoPlace_NoHandle
    have f3 := A.k_NoPlace_NoPlace
    have f4 := A.k_NoPlace_NoThing
    have f5 := A.k_NoPlace_NoFit
    have f6 := A.k_NoPlace_Gone
    have f7 := A.v_NoPlace
    decreasing_trivial_pre_omega
    refine ⟨a, t, hs, n, u, pathD q, rfl, ⟨hS, hx⟩, fun z => (by rw [isPath_ok q1] at z; cases z), fun p2 z1 z2 z3 => ?_, fun p2 e1 z1 z2 z3 => (by rw [← pathD_inj z1, q2] at z3; cases z3)⟩
    have ep := pathD_inj z1
    subst ep
    decreasing_trivial_pre_omega
    intro ae dd
    decreasing_trivial_pre_omega
    refine ⟨⟨rfl, rfl, rfl, xfP, A.e_NoPlace.n⟩, ?_⟩
    decreasing_trivial_pre_omega
    exact ⟨M, fun _ _ h => h, h3⟩
  | never i x i1 i2 hv =>
    have e1 := A.h_NoHandle_TreeError
    have e2 := A.x_NoHandle
    have f1 := A.k_NoHandle_NoPath
    have f2 := A.k_NoHandle_NoHandle
    have f3 := A.k_NoHandle_NoPlace
    have f4 := A.k_NoHandle_NoThing
    have f5 := A.k_NoHandle_NoFit
    have f6 := A.k_NoHandle_Gone
    have f7 := A.v_NoHandle
    match i, i1, i2 with
    | 1, _, _ =>
      decreasing_trivial_pre_omega
      refine ⟨a, t, hs, n, u, x, rfl, ⟨hS, hx⟩, fun _ => ?_, fun q m hq e => (eq q m hq e hv).elim, fun m e1 e2 => er m e1 e2 hv⟩
      decreasing_trivial_pre_omega
      intro ae dd
      decreasing_trivial_pre_omega
      refine ⟨⟨rfl, rfl, rfl, xfH, A.e_NoHandle.n⟩, ?_⟩
      decreasing_trivial_pre_omega
      exact ⟨M, fun _ _ h => h, h3⟩
    | 2, _, _ =>
      decreasing_trivial_pre_omega
      refine ⟨a, t, hs, n, u, x, rfl, ⟨hS, hx⟩, fun _ => ?_, fun q m hq e => (eq q m hq e hv).elim, fun m e1 e2 => er m e1 e2 hv⟩
      decreasing_trivial_pre_omega
      intro ae dd
      decreasing_trivial_pre_omega
      refine ⟨⟨rfl, rfl, rfl, xfH, A.e_NoHandle.n⟩, ?_⟩
      decreasing_trivial_pre_omega
      exact ⟨M, fun _ _ h => h, h3⟩
    | 3, _, _ =>
      decreasing_trivial_pre_omega
      refine ⟨a, t, hs, n, u, x, rfl, ⟨hS, hx⟩, fun _ => ?_, fun q m hq e => (eq q m hq e hv).elim, fun m e1 e2 => er m e1 e2 hv⟩
      decreasing_trivial_pre_omega
      intro ae dd
      decreasing_trivial_pre_omega
      refine ⟨⟨rfl, rfl, rfl, xfH, A.e_NoHandle.n⟩, ?_⟩
      decreasing_trivial_pre_omega
      exact ⟨M, fun _ _ h => h, h3⟩
    | 4, _, _ =>
      decreasing_trivial_pre_omega
      refine ⟨a, t, hs, n, u, x, rfl, ⟨hS, hx⟩, fun _ => ?_, fun q m hq e => (eq q m hq e hv).elim, fun m e1 e2 => er m e1 e2 hv⟩
      decreasing_trivial_pre_omega
      intro ae dd
      decreasing_trivial_pre_omega
      refine ⟨⟨rfl, rfl, rfl, xfH, A.e_NoHandle.n⟩, ?_⟩
      decreasing_trivial_pre_omega
      exact ⟨M, fun _ _ h => h, h3⟩
end
end Tl
set_option Elab.async false
set_option linter.all false
set_option maxRecDepth 100000
set_option maxHeartbeats 8000000
namespace Tl
open PySem L2 RZ
local macro_rules
  | `(tactic| decreasing_trivial) => `(tactic| ((with_reducible (conv => whnf)); (repeat ((first | (with_reducible refine gDs_c ?_) | (with_reducible refine gDs_n ?_) | (with_reducible refine gNs_c ?_) | (with_reducible refine gNs_n ?_) | (with_reducible refine gO_i tyAny_lt ?_) | (with_reducible refine gIs_c ?_) | (with_reducible refine gIs_n ?_) | (with_reducible refine gBs_c ?_) | (with_reducible refine gBs_n ?_) | (with_reducible refine gSs_c ?_) | (with_reducible refine gSs_n ?_) | (with_reducible refine gO_i tyIs_int ?_) | (with_reducible refine gO_i tyIs_bool ?_) | (with_reducible refine gO_i tyIs_str ?_) | (with_reducible refine gO_i tyIs_tuple ?_) | (with_reducible refine gO_i tyIs_list ?_) | (with_reducible refine gDs_i ?_) | (with_reducible refine gO_i (Eq.refl _) ?_) | (with_reducible refine gO_i (by assumption) ?_) | (with_reducible refine gO_i at_0 ?_) | (with_reducible refine gO_i at_m0 ?_) | (with_reducible refine gO_i at_1 ?_) | (with_reducible refine gO_i at_m1 ?_) | (with_reducible refine gO_i at_2 ?_) | (with_reducible refine gO_i at_m2 ?_) | (with_reducible refine gO_i at_3 ?_) | (with_reducible refine gO_i at_m3 ?_) | (with_reducible refine gO_i at_4 ?_) | (with_reducible refine gO_i at_m4 ?_) | (with_reducible refine gO_i at_5 ?_) | (with_reducible refine gO_i at_m5 ?_) | (with_reducible refine gO_i at_6 ?_) | (with_reducible refine gO_i at_m6 ?_) | (with_reducible refine gO_i at_7 ?_) | (with_reducible refine gO_i at_m7 ?_) | (with_reducible refine IfB.ngf ?_) | (with_reducible refine IfB.ngt ?_) | (with_reducible refine IfB.not ?_) | (with_reducible refine IfB.nil ?_) | (with_reducible refine IfB.nilT ?_) | (with_reducible refine IfB.f isE_c ?_) | (with_reducible refine IfB.t isE_n ?_) | (with_reducible refine IfB.t ?gha ?_; (case gha => rfl)) | (with_reducible refine IfB.f ?gha ?_; (case gha => rfl)) | (with_reducible refine IfB.t ?gha ?_; (case gha => assumption)) | (with_reducible refine IfB.f ?gha ?_; (case gha => assumption)) | (with_reducible refine IfB.yes (Eq.refl _) ?_) | (with_reducible refine IfB.yes ?gha ?_; (case gha => (first | omega | (simp only [len_c, len_n, List.length_map]; omega)))) | (with_reducible refine IfB.no ?gha ?_; (case gha => (first | omega | (simp only [len_c, len_n, List.length_map]; omega)))) | (with_reducible refine IfB.t ?gha ?_; (case gha => decide +kernel)) | (with_reducible refine IfB.f ?gha ?_; (case gha => decide +kernel))); (with_reducible (conv => whnf))))))
local macro_rules
  | `(tactic| decreasing_trivial_pre_omega) => `(tactic| (decreasing_trivial; (repeat ((first | ((with_reducible refine And.intro ?gha ?_); (case gha => (first | assumption | omega | exact rfl | (exact mset_same) | (exact ⟨_, mset_same⟩) | (exact Exists.intro _ (by first | exact mset_same | assumption | (rw [mset_ne (by assumption)]; first | exact mset_same | assumption))) | (exact sm_of (by omega) (by omega)) | (exact sz1000 (by first | omega | (simp; done) | (simp; omega))) | (exact Or.inl ⟨by decide, by decide⟩) | decide | (simp; done) | (refine ⟨?_, ?_⟩ <;> (first | assumption | omega | exact rfl | (exact mset_same) | (exact ⟨_, mset_same⟩) | (exact Exists.intro _ (by first | exact mset_same | assumption | (rw [mset_ne (by assumption)]; first | exact mset_same | assumption))) | (exact sm_of (by omega) (by omega)) | (exact sz1000 (by first | omega | (simp; done) | (simp; omega))) | (exact Or.inl ⟨by decide, by decide⟩) | decide | (simp; done))) | (refine ⟨?_, ?_, ?_⟩ <;> (first | assumption | omega | exact rfl | (exact mset_same) | (exact ⟨_, mset_same⟩) | (exact Exists.intro _ (by first | exact mset_same | assumption | (rw [mset_ne (by assumption)]; first | exact mset_same | assumption))) | (exact sm_of (by omega) (by omega)) | (exact sz1000 (by first | omega | (simp; done) | (simp; omega))) | (exact Or.inl ⟨by decide, by decide⟩) | decide | (simp; done))) | (refine ⟨?_, ?_, ?_, ?_⟩ <;> (first | assumption | omega | exact rfl | (exact mset_same) | (exact ⟨_, mset_same⟩) | (exact Exists.intro _ (by first | exact mset_same | assumption | (rw [mset_ne (by assumption)]; first | exact mset_same | assumption))) | (exact sm_of (by omega) (by omega)) | (exact sz1000 (by first | omega | (simp; done) | (simp; omega))) | (exact Or.inl ⟨by decide, by decide⟩) | decide | (simp; done)))))) | (with_reducible refine exW (by first | exact mset_same | assumption | (rw [mset_ne (by assumption)]; first | exact mset_same | assumption)) ?_)); decreasing_trivial))))
theorem ok_ofS (s : String) : PyData.strOk (Str.ofString s) = true := by
  rw [Str.ofString_eq_toList, PyData.strOk, ← Array.all_toList, List.all_eq_true]
  intro c hc
  obtain ⟨ch, _, rfl⟩ := List.mem_map.mp hc
  refine decide_eq_true ?_
  have := ch.valid
  rcases this with h | h
  · exact Nat.lt_of_lt_of_le h (by decide)
  · exact h.2
theorem ok_join : ∀ ts : List Str, (∀ t ∈ ts, PyData.strOk t = true) → PyData.strOk (Str.join ", " ts) = true
  | [], _ => by decide +kernel
  | [x], h => h x (.head _)
  | x :: y :: r, h => by
    show PyData.strOk (x ++ ", " ++ Str.join ", " (y :: r)) = true
    exact (strOk_app (strOk_app (h x (.head _)) (by decide +kernel)).1 (ok_join (y :: r) fun t ht => h t (.tail _ ht))).1
theorem ok_shown_path (q : List Nat) : PyData.strOk (pathD q).shown = true := by
  have e : ∀ l : List Nat, ∀ t ∈ PyData.shownAll (l.map fun n : Nat => PyData.int (n : Int)), PyData.strOk t = true := by
    intro l
    induction l with
    | nil => intro t ht; cases ht
    | cons n l ih =>
      intro t ht
      rw [List.map_cons, PyData.shownAll] at ht
      rcases List.mem_cons.mp ht with rfl | ht
      · exact ok_ofS _
      · exact ih t ht
  show PyData.strOk (tupleText (PyData.shownAll (q.map fun n : Nat => PyData.int (n : Int)))) = true
  unfold tupleText
  refine (strOk_app (strOk_app (by decide +kernel) (ok_join _ (e q))).1 ?_).1
  split <;> decide +kernel
theorem ok_shown_int (i : Int) : PyData.strOk (PyData.int i).shown = true := ok_ofS _
def odd10 : List PyData := [.none, .list [], .str "0", .int 0, .tuple [.int 60], .tuple [.int (-1)], .tuple [.bool true], .tuple [.str "a"], .tuple (List.replicate (Int.toNat 12) [PyData.int 0]).flatten, .list [.int 0]]
theorem odd10_ok : ∀ d ∈ odd10, isPath d = false ∧ GdB d := by
  refine all1 ?_ (all1 ?_ (all1 ?_ (all1 ?_ (all1 ?_ (all1 ?_ (all1 ?_ (all1 ?_ (all1 ?_ (all1 ?_ all0)))))))))
  all_goals exact ⟨by decide +kernel, .inl (by decide +kernel)⟩
structure NvT (n : Nat) (x : PyData) : Prop where
  g : GdB x
  n : Never n x
  s : PyData.strOk x.shown = true
theorem eqOk_two {a : Str} {d : PyData} (h : PyData.strOk a = true) (hd : d = .none ∨ ∃ s, d = .str s ∧ PyData.strOk s = true) : eqOk (.list [.str a, d]) = true := by
  unfold eqOk SeqAt.shaped
  rcases hd with rfl | ⟨s, rfl, hs⟩
  · simp [PyData.hasDict, PyData.hasDictAll, PyData.canLay0, PyData.canLayAll0, PyData.depth, PyData.depthAll, h]
  · simp [PyData.hasDict, PyData.hasDictAll, PyData.canLay0, PyData.canLayAll0, PyData.depth, PyData.depthAll, h, hs]
@[reducible] def tfRefSo (C : Addr) : TF := fun ws M R _ => ∃ (st a : Addr) (t : PyData) (hs : Hs) (u : Nat), ws = [.r st, .r a, .d (.list (pls [] (plc t)))] ∧ (M st = some (.src true) ∧ HtS C M a t hs (plc t).length u ∧ (plc t).length ≤ 40) ∧ R (.d (.bool true)) M
section
variable {P : Program} {w : World} {K : PySem.W.Frag} {mg : Str → Option Value} {base : Heap}
abbrev sRso : Stmt := top 92
theorem scRso : FnScope ["_law_state_here", "_law_make", "_law_places_here", "_law_far", "_law_odd", "_law_many", "_law_never", "_law_thing", "_law_way"] ["_law_state_here", "_law_make", "_law_places_here"] (defScope sRso) := ⟨rfl, rfl, rfl, by decide +kernel, rfl, by decide +kernel, by decide +kernel⟩
theorem ok_refSo {f C : Addr} {fd : FuncData} {k j : Nat} (F : Fun K "_law_refused_so" "_law_refused_so" sRso f fd) (U_law_next : Use P w K mg base "_law_next" ["_law_state_here", "_law_below"] j (spD K 2 (tfNext true))) (U_law_told : UseG P w K mg base "_law_told" ["_law_tree_here", "_law_way", "_law_thing"] j (spD K 3 (tfTold C))) (hj : j ≤ k) (T : Bl mg) : FnG P w K mg base (k + 1) f fd ["_law_state_here", "_law_make", "_law_places_here"] (spD K 3 (tfRefSo C)) := by
  refine okDG F scRso rfl fun cdv A' outer s H E hgu hr => ?_
  have hun : (A'.deeper (PyProof.Rows.envOfC "_law_refused_so" (defScope sRso) s.heap.objs.size f cdv)).units + 200 < cLine := by
    have := hr.un
    omega
  refine ⟨_, _, (pss_cons (ps_set (i := 3) scRso.nd rfl (.inl rfl) (pe_op op_catA (pe_ix ix_list (pv 2) (pe_call U_law_next.ok (hr.mono (by omega)) rfl U_law_next.m U_law_next.kp U_law_next.b .nil pass0 (pa_cons (pv 0) (pa_cons (pe_callB call_len_seq (by rfl) T.len PySem.boot_len (pa_cons (pv 2) pa_nil)) pa_nil))) (fun _ _ => rfl)) (pe_tup (pa_cons (pe_call U_law_next.ok (hr.mono (by omega)) rfl U_law_next.m U_law_next.kp U_law_next.b .nil pass0 (pa_cons (pv 0) (pa_cons pe_int pa_nil))) pa_nil))))
    (pss_cons (ps_set (i := 4) scRso.nd rfl (.inl rfl) (pe_ix ix_list (pe_lst (pa_cons pe_non (pa_cons (pe_lst pa_nil) (pa_cons pe_str (pa_cons pe_int (pa_cons (pe_tup (pa_cons pe_int pa_nil)) (pa_cons (pe_tup (pa_cons (pe_un un_neg pe_int) pa_nil)) (pa_cons (pe_tup (pa_cons pe_bl pa_nil)) (pa_cons (pe_tup (pa_cons pe_str pa_nil)) (pa_cons (pe_op op_repA (pe_tup (pa_cons pe_int pa_nil)) pe_int) (pa_cons (pe_lst (pa_cons pe_int pa_nil)) pa_nil))))))))))) (pe_call U_law_next.ok (hr.mono (by omega)) rfl U_law_next.m U_law_next.kp U_law_next.b .nil pass0 (pa_cons (pv 0) (pa_cons pe_int pa_nil))) (fun _ _ => rfl)))
    (pss_cons (ps_if (pt_cmpR (op_neD hr.units) (pe_callG (E := fun _ _ _ => False) U_law_told.ok (hr.mono (by omega)) hgu rfl U_law_told.m U_law_told.kp U_law_told.b (pa_cons (pv 1) (pa_cons pe_int (pa_cons (pv 4) pa_nil)))) (pe_lst (pa_cons pe_str (pa_cons pe_non pa_nil))) (nomark _)) (pss_one (ps_ret pe_bl)) pss_nil)
    (pss_cons (ps_if (PW.pt (pw_and (pt_cmpR op_lt (pe_callB call_len_seq (by rfl) T.len PySem.boot_len (pa_cons (pv 3) pa_nil)) pe_int (nomark _)) (pw_and (pt_cmpR (op_notInD (room65 hr)) (pv 3) (pv 2) (by rfl)) (pw_and1 (pt_cmpR (op_neD hr.units) (pe_callG (E := fun _ _ _ => False) U_law_told.ok (hr.mono (by omega)) hgu rfl U_law_told.m U_law_told.kp U_law_told.b (pa_cons (pv 1) (pa_cons pe_int (pa_cons (pv 3) pa_nil)))) (pe_lst (pa_cons pe_str (pa_cons (pe_callB (call_reprD hgu hun) (by rfl) T.repr PyProof.Rows.boot_repr (pa_cons (pv 3) pa_nil)) pa_nil))) (nomark _)))))) (pss_one (ps_ret pe_bl)) pss_nil)
    (pss_cons (ps_set (i := 5) scRso.nd rfl (.inl rfl) (pe_callB call_len_seq (by rfl) T.len PySem.boot_len (pa_cons (pv 2) pa_nil)))
    (pss_cons (ps_set (i := 6) scRso.nd rfl (.inl rfl) (pe_lst (pa_cons (pv 5) (pa_cons (pe_op op_add (pv 5) (pe_call U_law_next.ok (hr.mono (by omega)) rfl U_law_next.m U_law_next.kp U_law_next.b .nil pass0 (pa_cons (pv 0) (pa_cons pe_int pa_nil)))) (pa_cons (pe_op op_pow pe_int pe_int) (pa_cons (pe_un un_neg pe_int) (pa_cons pe_bl (pa_cons pe_bl (pa_cons pe_non (pa_cons pe_str (pa_cons (pe_tup pa_nil) (pa_cons (pe_lst (pa_cons pe_int pa_nil)) (pa_cons (pe_tup (pa_cons pe_int pa_nil)) pa_nil)))))))))))))
    (pss_cons (ps_set (i := 7) scRso.nd rfl (.inr rfl) (pe_ix ix_list (pv 6) (pe_call U_law_next.ok (hr.mono (by omega)) rfl U_law_next.m U_law_next.kp U_law_next.b .nil pass0 (pa_cons (pv 0) (pa_cons pe_int pa_nil))) (fun _ _ => rfl)))
    (pss_one (ps_ret (pe_cmpR (op_eqN hr.units) (pe_lc (own := [("_law_way", 8)]) (g := gName 8) (by rfl) scRso.nd (pi_range2 (by rfl) T.range (pa_cons pe_int (pa_cons pe_int pa_nil))) (blkOk_by (N := ["_law_state_here", "_law_make", "_law_places_here", "_law_far", "_law_odd", "_law_many", "_law_never", "_law_thing", "_law_way"]) (sc := defScope sRso) (own := [("_law_way", 8)]) (by decide +kernel)) (fun _ _ _ _ _ => pg_name (i := 8) scRso.nd rfl (Or.inl rfl)) (fun _ _ _ _ _ => (pts_one (pt_cmpR (op_neD hr.units) (pe_callG (E := fun _ _ _ => False) U_law_told.ok (hr.mono (by omega)) hgu rfl U_law_told.m U_law_told.kp U_law_told.b (pa_cons (pv 1) (pa_cons (pv 8) (pa_cons (pv 7) pa_nil)))) (pe_lst (pa_cons pe_str (pa_cons (pe_callB (call_reprD hgu hun) (by rfl) T.repr PyProof.Rows.boot_repr (pa_cons (pv 7) pa_nil)) pa_nil))) (nomark _)))) (fun _ _ _ _ _ => (pv 8))) (pe_lst pa_nil) (nomark _))))))))))),
    (ss_cons (ss_set (se_op so_catT (se_op so_ixL se_nm (se_call (sa_cons se_nm (sa_cons (se_cb sc_len (sa_cons se_nm sa_nil)) sa_nil)))) (se_tup (sa_cons (se_call (sa_cons se_nm (sa_cons se_int sa_nil))) sa_nil))))
    (ss_cons (ss_set (se_op so_ixL (se_lsf (sa_cons se_non (sa_cons (se_lsf sa_nil) (sa_cons se_str (sa_cons se_int (sa_cons (se_tup (sa_cons se_int sa_nil)) (sa_cons (se_tup (sa_cons (se_un su_neg se_int) sa_nil)) (sa_cons (se_tup (sa_cons se_bl sa_nil)) (sa_cons (se_tup (sa_cons se_str sa_nil)) (sa_cons (se_op so_repT (se_tup (sa_cons se_int sa_nil)) se_int) (sa_cons (se_lsf (sa_cons se_int sa_nil)) sa_nil))))))))))) (se_call (sa_cons se_nm (sa_cons se_int sa_nil)))))
    (ss_cut (ss_if (st_test (se_op so_neD (se_call (sa_cons se_nm (sa_cons se_int (sa_cons se_nm sa_nil)))) (se_lsf (sa_cons se_str (sa_cons se_non sa_nil))))) (ss_ret se_bl) ss_nil)
    (ss_cut (ss_if (st_and (st_test (se_op so_lt (se_cb sc_len (sa_cons se_nm sa_nil)) se_int)) (st_and (st_test (se_op so_notInD se_nm se_nm)) (st_test (se_op so_neD (se_call (sa_cons se_nm (sa_cons se_int (sa_cons se_nm sa_nil)))) (se_lsf (sa_cons se_str (sa_cons (se_cb sc_repr (sa_cons se_nm sa_nil)) sa_nil))))))) (ss_ret se_bl) ss_nil)
    (ss_cons (ss_set (se_cb sc_len (sa_cons se_nm sa_nil)))
    (ss_cons (ss_set (se_lsf (sa_cons se_nm (sa_cons (se_op so_add se_nm (se_call (sa_cons se_nm (sa_cons se_int sa_nil)))) (sa_cons (se_op so_pow se_int se_int) (sa_cons (se_un su_neg se_int) (sa_cons se_bl (sa_cons se_bl (sa_cons se_non (sa_cons se_str (sa_cons (se_tup sa_nil) (sa_cons (se_lsf (sa_cons se_int sa_nil)) (sa_cons (se_tup (sa_cons se_int sa_nil)) sa_nil)))))))))))))
    (ss_cons (ss_set (se_op so_ixL se_nm (se_call (sa_cons se_nm (sa_cons se_int sa_nil)))))
    (ss_ret (se_op so_eqN (se_lcF (si_r2 (sa_cons se_int (sa_cons se_int sa_nil))) sg_name (st_test (se_op so_neD (se_call (sa_cons se_nm (sa_cons se_nm (sa_cons se_nm sa_nil)))) (se_lsf (sa_cons se_str (sa_cons (se_cb sc_repr (sa_cons se_nm sa_nil)) sa_nil))))) se_nm) (se_lsf sa_nil)))))))))), fun ws M R RX hl h => ?_⟩
  obtain ⟨st, a, t, hs, u, rfl, ⟨hM, hS, hp⟩, h2⟩ := h
  simp only [start0, len_c, len_n, map_c, map_n, app_c, app_n, rep_0, rep_s, Nat.reduceAdd, Nat.reduceSub]
  decreasing_trivial_pre_omega
  have hS0 := hS
  obtain ⟨hA, ht, hn, ok⟩ := hS0
  have pl := plc_len ht
  have np : 1 ≤ nn t := nn_pos t
  refine ⟨⟨hM, by rw [List.length_map, pls_len]; omega, by rw [List.length_map, pls_len]; omega⟩, fun r r0 r1 => ?_⟩
  rw [List.length_map, pls_len] at r1
  obtain ⟨i, rfl⟩ : ∃ i : Nat, r = (i : Nat) := ⟨r.toNat, by omega⟩
  have hi : i < (plc t).length := by omega
  have gi : atI (pls [] (plc t)) (i : Int) = some (pathD (plc t)[i]) := atI_nat (by rw [show pls [] (plc t) = (plc t).map pathD from rfl, List.getElem?_map, List.getElem?_eq_getElem hi]; rfl)
  obtain ⟨kq, eq, hq⟩ := plc_ok60 ht hn (List.getElem_mem hi)
  generalize (plc t)[i] = q at gi kq hq
  decreasing_trivial_pre_omega
  refine gO_i (a := W.d (pathD q)) (by rw [atI_map, gi]; rfl) ?_
  unfold pathD
  decreasing_trivial_pre_omega
  intro r2 r20 r21
  obtain ⟨v, rfl⟩ : ∃ v : Nat, r2 = (v : Nat) := ⟨r2.toNat, by omega⟩
  have pc := path_cat q v
  have sz9 : ((q.map fun n : Nat => PyData.int (n : Int)).length + 1) ≤ 1000 := by
    rw [List.length_map]
    have := kq.1
    omega
  decreasing_trivial_pre_omega
  intro r3 r30 r31
  refine gO_atD (ds := odd10) (fun d => isPath d = false ∧ GdB d) r30 r31 odd10_ok fun bad hb => ?_
  obtain ⟨b1, b2⟩ := hb
  have e1 : eqOk (.list [.str "NoPath", .none]) = true := by decide +kernel
  decreasing_trivial_pre_omega
  refine seq_cut (fun ρ' M' => ρ' = [some (.r st), some (.r a), some (.d (.list (pls [] (plc t)))), some (.d (.tuple (List.map (fun n : Nat => PyData.int (n : Int)) q ++ [.int (v : Int)]))), some (.d bad), none, none, none, none] ∧ M' = M) (fun N hN => ?_) (fun ρ' M' c => ?_)
  · decreasing_trivial_pre_omega
    refine ⟨a, t, hs, _, u, 0, bad, _, rfl, ⟨hS, b2.txt, b2, .path bad b1⟩, ?_⟩
    decreasing_trivial_pre_omega
    exact hN _ _ ⟨rfl, rfl⟩
  obtain ⟨rfl, rfl⟩ := c
  refine seq_cut (fun ρ' M2 => ρ' = [some (.r st), some (.r a), some (.d (.list (pls [] (plc t)))), some (.d (.tuple (List.map (fun n : Nat => PyData.int (n : Int)) q ++ [.int (v : Int)]))), some (.d bad), none, none, none, none] ∧ M2 = M') (fun N hN => ?_) (fun ρ' M2 c => ?_)
  · decreasing_trivial_pre_omega
    refine IfB.d (fun c1 => ?_) (fun c1 => ?_)
    · have ko : pathOk (q ++ [v]) := ⟨by rw [List.length_append, List.length_singleton]; rw [List.length_append, List.length_singleton, List.length_map] at c1; omega, fun i hi => by
        rcases List.mem_append.mp hi with hi | hi
        · exact kq.2 i hi
        · rw [List.mem_singleton.mp hi]; omega⟩
      have e2 := eqOk_path (q ++ [v])
      have e3 : eqOk (.list (pls [] (plc t))) = true := eqOk_paths (plc t)
      have gp : GdB (pathD (q ++ [v])) := GdB.of (pathOk_gk ko) (by decide) (by decide)
      have sp := gp.sh
      rw [← pc] at e2 sp
      decreasing_trivial_pre_omega
      refine IfB.of (fun c2 => ?_) (fun c2 => ?_)
      · decreasing_trivial_pre_omega
        exact hN _ _ ⟨rfl, rfl⟩
      · have hno : sub t (q ++ [v]) = none := by
          cases c5 : sub t (q ++ [v]) with
          | none => rfl
          | some e5 =>
            have := List.any_eq_false.mp c2 (pathD (q ++ [v])) (List.mem_map.mpr ⟨_, sub_plc ht c5, rfl⟩)
            rw [pc, eqv_path, decide_eq_true rfl] at this
            exact absurd rfl this
        have e4 : eqOk (.list [.str "NoPlace", .str (pathD (q ++ [v])).shown]) = true := eqOk_two (by decide +kernel) (.inr ⟨_, rfl, ok_shown_path _⟩)
        decreasing_trivial_pre_omega
        refine ⟨a, t, hs, _, u, 0, pathD (q ++ [v]), _, by rw [← pc]; rfl, ⟨hS, path_txt _, gp, .lost _ ko hno⟩, ?_⟩
        rw [← pc] at e4 ⊢
        decreasing_trivial_pre_omega
        refine IfB.t (eqv_self _ (by simp [PyData.hasDict, PyData.hasDictAll])) ?_
        decreasing_trivial_pre_omega
        exact hN _ _ ⟨rfl, rfl⟩
    · decreasing_trivial_pre_omega
      exact hN _ _ ⟨rfl, rfl⟩
  obtain ⟨rfl, rfl⟩ := c
  decreasing_trivial_pre_omega
  intro r4 r40 r41
  obtain ⟨m9, rfl⟩ : ∃ m9 : Nat, r4 = (m9 : Nat) := ⟨r4.toNat, by omega⟩
  have ll : (List.map W.d (pls [] (plc t))).length = (plc t).length := by rw [List.length_map, pls_len]
  rw [ll]
  decreasing_trivial_pre_omega
  intro r5 r50 r51
  have nI : ∀ i : Int, ((plc t).length : Int) ≤ i → i ≤ 10 ^ 40 → NvT (plc t).length (.int i) := fun i h1 h2 => ⟨.inl ⟨by
    rw [gd]
    refine decide_eq_true ?_
    have : (10 : Int) ^ 40 < 10 ^ 41 := by decide
    omega, by show (1930 : Nat) ≤ 8000000; decide, by show (0 : Nat) ≤ 40; decide⟩, .inr ⟨i, rfl, h1⟩, ok_shown_int i⟩
  have nC : ∀ x : PyData, (Gk 8000000 40 x) → isCount x = false → PyData.strOk x.shown = true → NvT (plc t).length x := fun x h1 h2 h3 => ⟨.inl h1, .inl h2, h3⟩
  have big : (100 : Int) ≤ 10 ^ 40 := by decide
  refine gO_atD (NvT (plc t).length) r50 r51 (all1 (nI _ (by omega) (by omega)) (all1 (nI _ (by omega) (by omega)) (all1 (nI _ (by show _ ≤ (10 : Int) ^ 40; omega) (by show (10 : Int) ^ 40 ≤ 10 ^ 40; omega)) (all1 (nC _ (by decide +kernel) rfl (by decide +kernel)) (all1 (nC _ (by decide +kernel) rfl (by decide +kernel)) (all1 (nC _ (by decide +kernel) rfl (by decide +kernel)) (all1 (nC _ (by decide +kernel) rfl (by decide +kernel)) (all1 (nC _ (by decide +kernel) rfl (by decide +kernel)) (all1 (nC _ (by decide +kernel) rfl (by decide +kernel)) (all1 (nC _ (by decide +kernel) rfl (by decide +kernel)) (all1 (nC _ (by decide +kernel) rfl (by decide +kernel)) all0))))))))))) fun nv hv => ?_
  obtain ⟨g1, g2, g3⟩ := hv
  have e6 : eqOk (.list [.str "NoHandle", .str nv.shown]) = true := eqOk_two (by decide +kernel) (.inr ⟨_, rfl, g3⟩)
  have s6 := g1.sh
  clear big nI nC
  decreasing_trivial_pre_omega
  refine lc1f (xs := List.range 4) (f := fun i : Nat => W.d (.int (1 + (i : Nat)))) (fun _ => false) (fun i => W.d .none) trivial (fun i hi Rk Rn q1 q2 => ?_) (by decide) ?_
  · have hi2 := List.mem_range.mp hi
    decreasing_trivial_pre_omega
    refine ⟨a, t, hs, _, u, i + 1, nv, _, by rw [show (1 + (i : Int)) = ((i + 1 : Nat) : Int) by omega], ⟨hS, g1.txt, g1, .never _ _ (by omega) (by omega) g2⟩, ?_⟩
    decreasing_trivial_pre_omega
    refine IfB.t (eqv_self _ (by simp [PyData.hasDict, PyData.hasDictAll])) ?_
    decreasing_trivial_pre_omega
    exact q2 rfl
  rw [show (List.filter (fun _ : Nat => false) (List.range 4)) = [] from rfl, List.map_nil]
  decreasing_trivial_pre_omega
  exact ⟨_, fun _ _ h => h, h2⟩
end
end Tl
set_option Elab.async false
set_option linter.all false
set_option maxRecDepth 100000
set_option maxHeartbeats 8000000
namespace Tl
open PySem L2 RZ
local macro_rules
  | `(tactic| decreasing_trivial) => `(tactic| ((with_reducible (conv => whnf)); (repeat ((first | (with_reducible refine exI (by first | exact mset_same | assumption | (rw [mset_ne (by assumption)]; first | exact mset_same | assumption)) ?_) | (with_reducible refine exI2 (by first | exact mset_same | assumption | (rw [mset_ne (by assumption)]; first | exact mset_same | assumption)) ?_) | (with_reducible refine gPut_n ?_) | (with_reducible refine gPut_0 ?_) | (with_reducible refine (gPut_s (by decide +kernel)) ?_) | (with_reducible refine (gO_i hk_tr) ?_) | (with_reducible refine (gO_i hk_he) ?_) | (with_reducible refine (gO_i hk_en) ?_) | (with_reducible refine (gO_i hk_is) ?_) | (with_reducible refine (gO_i hk_tu) ?_) | (with_reducible refine hp_is ?_) | (with_reducible refine gDs_c ?_) | (with_reducible refine gDs_n ?_) | (with_reducible refine gNs_c ?_) | (with_reducible refine gNs_n ?_) | (with_reducible refine gO_i tyAny_lt ?_) | (with_reducible refine gIs_c ?_) | (with_reducible refine gIs_n ?_) | (with_reducible refine gBs_c ?_) | (with_reducible refine gBs_n ?_) | (with_reducible refine gSs_c ?_) | (with_reducible refine gSs_n ?_) | (with_reducible refine gO_i tyIs_int ?_) | (with_reducible refine gO_i tyIs_bool ?_) | (with_reducible refine gO_i tyIs_str ?_) | (with_reducible refine gO_i tyIs_tuple ?_) | (with_reducible refine gO_i tyIs_list ?_) | (with_reducible refine gDs_i ?_) | (with_reducible refine gO_i (Eq.refl _) ?_) | (with_reducible refine gO_i (by assumption) ?_) | (with_reducible refine gO_i at_0 ?_) | (with_reducible refine gO_i at_m0 ?_) | (with_reducible refine gO_i at_1 ?_) | (with_reducible refine gO_i at_m1 ?_) | (with_reducible refine gO_i at_2 ?_) | (with_reducible refine gO_i at_m2 ?_) | (with_reducible refine gO_i at_3 ?_) | (with_reducible refine gO_i at_m3 ?_) | (with_reducible refine gO_i at_4 ?_) | (with_reducible refine gO_i at_m4 ?_) | (with_reducible refine gO_i at_5 ?_) | (with_reducible refine gO_i at_m5 ?_) | (with_reducible refine gO_i at_6 ?_) | (with_reducible refine gO_i at_m6 ?_) | (with_reducible refine gO_i at_7 ?_) | (with_reducible refine gO_i at_m7 ?_) | (with_reducible refine IfB.ngf ?_) | (with_reducible refine IfB.ngt ?_) | (with_reducible refine IfB.not ?_) | (with_reducible refine IfB.nil ?_) | (with_reducible refine IfB.nilT ?_) | (with_reducible refine IfB.f isE_c ?_) | (with_reducible refine IfB.t isE_n ?_) | (with_reducible refine IfB.t ?gha ?_; (case gha => rfl)) | (with_reducible refine IfB.f ?gha ?_; (case gha => rfl)) | (with_reducible refine IfB.t ?gha ?_; (case gha => assumption)) | (with_reducible refine IfB.f ?gha ?_; (case gha => assumption)) | (with_reducible refine IfB.yes (Eq.refl _) ?_) | (with_reducible refine IfB.yes ?gha ?_; (case gha => (first | omega | (simp only [len_c, len_n, List.length_map]; omega)))) | (with_reducible refine IfB.no ?gha ?_; (case gha => (first | omega | (simp only [len_c, len_n, List.length_map]; omega)))) | (with_reducible refine IfB.t ?gha ?_; (case gha => decide +kernel)) | (with_reducible refine IfB.f ?gha ?_; (case gha => decide +kernel))); (with_reducible (conv => whnf))))))
local macro_rules
  | `(tactic| decreasing_trivial_pre_omega) => `(tactic| (decreasing_trivial; (repeat ((first | ((with_reducible refine And.intro ?gha ?_); (case gha => (first | assumption | omega | exact rfl | (exact mset_same) | (exact ⟨_, mset_same⟩) | (exact Exists.intro _ (by first | exact mset_same | assumption | (rw [mset_ne (by assumption)]; first | exact mset_same | assumption))) | (exact sm_of (by omega) (by omega)) | (exact sz1000 (by first | omega | (simp; done) | (simp; omega))) | (exact Or.inl ⟨by decide, by decide⟩) | decide | (simp; done) | (refine ⟨?_, ?_⟩ <;> (first | assumption | omega | exact rfl | (exact mset_same) | (exact ⟨_, mset_same⟩) | (exact Exists.intro _ (by first | exact mset_same | assumption | (rw [mset_ne (by assumption)]; first | exact mset_same | assumption))) | (exact sm_of (by omega) (by omega)) | (exact sz1000 (by first | omega | (simp; done) | (simp; omega))) | (exact Or.inl ⟨by decide, by decide⟩) | decide | (simp; done))) | (refine ⟨?_, ?_, ?_⟩ <;> (first | assumption | omega | exact rfl | (exact mset_same) | (exact ⟨_, mset_same⟩) | (exact Exists.intro _ (by first | exact mset_same | assumption | (rw [mset_ne (by assumption)]; first | exact mset_same | assumption))) | (exact sm_of (by omega) (by omega)) | (exact sz1000 (by first | omega | (simp; done) | (simp; omega))) | (exact Or.inl ⟨by decide, by decide⟩) | decide | (simp; done))) | (refine ⟨?_, ?_, ?_, ?_⟩ <;> (first | assumption | omega | exact rfl | (exact mset_same) | (exact ⟨_, mset_same⟩) | (exact Exists.intro _ (by first | exact mset_same | assumption | (rw [mset_ne (by assumption)]; first | exact mset_same | assumption))) | (exact sm_of (by omega) (by omega)) | (exact sz1000 (by first | omega | (simp; done) | (simp; omega))) | (exact Or.inl ⟨by decide, by decide⟩) | decide | (simp; done)))))) | (with_reducible refine exW (by first | exact mset_same | assumption | (rw [mset_ne (by assumption)]; first | exact mset_same | assumption)) ?_)); decreasing_trivial))))
theorem hN_zip {N : Nat} {t : PyData} (ht : TrT N t) {i : Nat} (h : i < (plc t).length) : hN (plc t).zipIdx (plc t)[i] = i := by
  have nd := (zip_ok ht).nd
  have m : ((plc t)[i], i) ∈ (plc t).zipIdx := by
    rw [List.mem_zipIdx_iff_getElem?]
    exact List.getElem?_eq_getElem h
  unfold hN
  rw [hOf_mem nd m]
  rfl
theorem handles_rng {N : Nat} {t : PyData} (ht : TrT N t) : ((plc t).map fun q => PyData.int (hN (plc t).zipIdx q : Nat)) = (List.range (plc t).length).map fun i : Nat => PyData.int (i : Nat) := by
  refine List.ext_getElem? fun i => ?_
  rw [List.getElem?_map, List.getElem?_map]
  by_cases h : i < (plc t).length
  · rw [List.getElem?_eq_getElem h, List.getElem?_range h]
    show some (PyData.int _) = some (PyData.int _)
    rw [hN_zip ht h]
  · rw [List.getElem?_eq_none (by omega), List.getElem?_eq_none (by rw [List.length_range]; omega)]
    rfl
theorem idx_plc {N : Nat} {t : PyData} (ht : TrT N t) {r : List Nat} (hr : r ∈ plc t) : ∃ j : Nat, ((pls [] (plc t))[j]? = some (pathD r) ∧ PyData.eqv (pathD r) (pathD r) = true ∧ ∀ (m : Nat) (z' : PyData), m < j → (pls [] (plc t))[m]? = some z' → PyData.eqv z' (pathD r) = false) ∧ hN (plc t).zipIdx r = j := by
  obtain ⟨j, hj⟩ := List.getElem?_of_mem hr
  have nd := (zip_ok ht).nd
  rw [List.zipIdx_map_fst] at nd
  obtain ⟨h1, h2⟩ := List.getElem?_eq_some_iff.mp hj
  refine ⟨j, ⟨by rw [show pls [] (plc t) = (plc t).map pathD from rfl, List.getElem?_map, hj]; rfl, by rw [eqv_path]; exact decide_eq_true rfl, fun m z' hm hz => ?_⟩, by rw [← h2]; exact hN_zip ht h1⟩
  rw [show pls [] (plc t) = (plc t).map pathD from rfl, List.getElem?_map] at hz
  obtain ⟨x, hx, rfl⟩ := Option.map_eq_some_iff.mp hz
  rw [eqv_path]
  refine decide_eq_false fun e => ?_
  obtain ⟨g1, g2⟩ := List.getElem?_eq_some_iff.mp hx
  have := (List.getElem_inj (i := m) (j := j) (h₀ := g1) (h₁ := h1) nd).mp (by rw [g2, h2]; exact e)
  omega
theorem gk_nums {l : List Nat} (h : ∀ n ∈ l, n ≤ 1000) (hl : l.length ≤ 100) : Gk 200000 30 (.tuple (l.map fun n : Nat => PyData.int (n : Int))) :=
  (Gks.tup (m' := 200000) (Gks.ofL (m := 1930) (k := 29) (n := 100) (fun d hd => by
    obtain ⟨n, hn, rfl⟩ := List.mem_map.mp hd
    have := h n hn
    exact gk_i (by omega) (by omega)) (by rw [List.length_map]; exact hl) (show (1930 + 2) * 100 ≤ 193200 by decide)) (by decide)).mono (Nat.le_refl _) (by decide)
theorem hN_le {N : Nat} {t : PyData} (ht : TrT N t) {r : List Nat} (hr : r ∈ plc t) : hN (plc t).zipIdx r < (plc t).length := by
  obtain ⟨j, hj, rfl⟩ := List.getElem_of_mem hr
  rw [hN_zip ht hj]
  exact hj
theorem abv_gk {t : PyData} (ht : TrT 12 t) {q : List Nat} (h : q ∈ plc t) (hl : (plc t).length ≤ 60) : Gk 200000 30 (abvD t (plc t).zipIdx q) := by
  unfold abvD
  by_cases c : q = []
  · rw [if_pos c]
    exact gk_none (by decide)
  · rw [if_neg c]
    rcases List.eq_nil_or_concat q with rfl | ⟨r, i, rfl⟩
    · exact absurd rfl c
    rw [List.concat_eq_append] at *
    rw [List.dropLast_concat]
    obtain ⟨e, he⟩ := plc_sub ht _ h
    obtain ⟨u, hu⟩ := sub_cut (a := r) (b := [i]) ht he
    have := hN_le ht (sub_plc ht hu)
    exact (gk_i (k := 30) (by omega) (by omega)).mono (by decide) (Nat.le_refl _)
theorem blw_gk {t : PyData} (ht : TrT 12 t) {q : List Nat} {s : Str} {ks : List PyData} (h : sub t q = some (.tuple [.str s, .tuple ks])) (hl : (plc t).length ≤ 60) (hk : ks.length ≤ 60 := by omega) : Gk 200000 30 (blwD t (plc t).zipIdx q) := by
  unfold blwD
  rw [kidsN_of h]
  have := gk_nums (l := (List.range ks.length).map fun k => hN (plc t).zipIdx (q ++ [k])) (fun n hn => by
    obtain ⟨k, hk, rfl⟩ := List.mem_map.mp hn
    obtain ⟨u, hu⟩ := (sub_kid ht h k).mpr (by rw [kidsN_of h]; exact List.mem_range.mp hk)
    have := hN_le ht (sub_plc ht hu)
    omega) (by rw [List.length_map, List.length_range]; omega)
  rw [List.map_map] at this
  exact this
theorem alk_ok {ds : List PyData} (h : ∀ d ∈ ds, Gk 200000 30 d) (hl : ds.length ≤ 3) : (PyData.list ds).depth < 40 ∧ (PyData.list ds).hasDict = false ∧ txt (PyData.list ds) = true := by
  have g := (Gks.ofL (m := 200000) (k := 30) (n := 3) h hl (show (200000 + 2) * 3 ≤ 600006 by decide)).lst (m' := 700000) (by decide)
  refine ⟨?_, gd_nd _ g.1, gd_txt _ g.1⟩
  have := g.2.2
  omega
theorem rgD_n (n : Nat) : rgD 0 (n : Int) = (List.range n).map fun i : Nat => PyData.int (i : Nat) := by
  unfold rgD
  rw [show ((n : Int) - 0).toNat = n by omega]
  refine List.map_congr_left fun i _ => ?_
  rw [Int.zero_add]
section
variable {P : Program} {w : World} {K : PySem.W.Frag} {mg : Str → Option Value} {base : Heap}
structure Calls (P : Program) (w : World) (K : PySem.W.Frag) (mg : Str → Option Value) (base : Heap) (A : Cls K mg) where
  j : Nat
  hj : j ≤ 100
  ht : HtC K A.c_HandleTree
  state : Use P w K mg base "_law_state" ["_law_script"] j (spState K)
  next : Use P w K mg base "_law_next" ["_law_state_here", "_law_below"] j (spD K 2 (tfNext true))
  tree : Use P w K mg base "_law_tree" ["_law_state_here", "_law_most"] j (spD K 2 (tfTreeL true))
  places : Use P w K mg base "_law_places" ["_law_tree_here", "_law_path"] j (spD K 2 (tfPls 12))
  reach : Use P w K mg base "_law_reach" ["_law_tree_here", "_law_path"] j (spD K 2 tfPartAt)
  alike : Use P w K mg base "_law_alike" ["_law_found", "_law_due"] j (spD K 2 (tfAlike 40))
  ref : UseG P w K mg base "_law_refused_so" ["_law_state_here", "_law_make", "_law_places_here"] j (spD K 3 (tfRefSo A.c_HandleTree))
  mak : UseC P w K mg base A.c_HandleTree "HandleTree" ["self", "tree"] j (spD K 2 (tfHtMake A.c_HandleTree A.c_NoTree))
  val : UseM P w K mg base A.c_HandleTree "value" ["self"] j (spD K 1 (tfHt A.c_HandleTree fun t _ _ _ => t))
  hands : UseM P w K mg base A.c_HandleTree "handles" ["self"] j (spD K 1 (tfHandles A.c_HandleTree))
  given : UseM P w K mg base A.c_HandleTree "given" ["self"] j (spD K 1 (tfHt A.c_HandleTree fun _ _ n _ => .int (n : Nat)))
  acts : UseM P w K mg base A.c_HandleTree "acts" ["self"] j (spD K 1 (tfHt A.c_HandleTree fun _ _ _ u => .int (u : Nat)))
  gone : UseM P w K mg base A.c_HandleTree "gone" ["self"] j (spD K 1 (tfHtGone A.c_HandleTree))
  hof : UseMX P w K mg base A.c_HandleTree "handle_of" ["self", "path"] j (spD K 2 (tfHandleOf A.c_HandleTree A.c_NoPath A.c_NoPlace))
  pof : UseMX P w K mg base A.c_HandleTree "path_of" ["self", "handle"] j (spD K 2 (tfByH ptD A.c_HandleTree A.c_NoHandle))
  abv : UseMX P w K mg base A.c_HandleTree "above" ["self", "handle"] j (spD K 2 (tfByH abvD A.c_HandleTree A.c_NoHandle))
  blw : UseMX P w K mg base A.c_HandleTree "below" ["self", "handle"] j (spD K 2 (tfByH blwD A.c_HandleTree A.c_NoHandle))
  tby : UseMX P w K mg base A.c_HandleTree "tag_by" ["self", "handle"] j (spD K 2 (tfByH tagD A.c_HandleTree A.c_NoHandle))
abbrev sLaw : Stmt := top 93
theorem scLaw : FnScope ["_law_script", "_law_state_here", "_law_tree_here", "_law_make", "_law_places_here", "_law_caught", "_law_number", "_law_path", "_law_here", "_law_elder", "_law_kids", "_law_at", "error"] ["_law_script"] (defScope sLaw) := ⟨rfl, rfl, rfl, by decide +kernel, rfl, by decide +kernel, by decide +kernel⟩
theorem ok_law {f : Addr} {fd : FuncData} {s : Shared} {H : Hp} {a : Addr} {ns : List Int} (F : Fun K "law" "law" sLaw f fd) (T : Bl mg) {A : Cls K mg} (U : Calls P w K mg base A) (hS : SqL K H a (ns.map V.int)) (e0 : Env0 P w K mg base callerA [] s H) :
    codeAny (model P w) callerA (.call (.ref f) ⟨[.ref a], []⟩) (CR CX0 [] P w H s (fun v _ => v = V.bl true) fun _ _ _ => False) s := by
  obtain ⟨j, hj, MHandleTree, U_law_state, U_law_next, U_law_tree, U_law_places, U_law_reach, U_law_alike, U_law_refused_so, UHandleTree, UHandleTree_value, UHandleTree_handles, UHandleTree_given, UHandleTree_acts, UHandleTree_gone, UHandleTree_handle_of, UHandleTree_path_of, UHandleTree_above, UHandleTree_below, UHandleTree_tag_by⟩ := U
  refine law_at (k := 200) F scLaw hS e0 ⟨rfl, by decide, by decide⟩ (F.binds (ps := ["_law_script"]) fun _ _ _ _ _ _ us hl => match us, hl with | [_], _ => rfl) fun cdv hgu hr => ?_
  have hun : (callerA.deeper (PyProof.Rows.envOfC "law" (defScope sLaw) s.heap.objs.size f cdv)).units + 200 < cLine := by
    have := hr.un
    omega
  refine ⟨_, _, _, (pss_cons (ps_set (i := 1) scLaw.nd rfl (.inl rfl) (pe_call U_law_state.ok (hr.mono (by omega)) rfl U_law_state.m U_law_state.kp U_law_state.b .nil pass0 (pa_cons (pv 0) pa_nil)))
    (pss_cons (ps_set (i := 2) scLaw.nd rfl (.inl rfl) (pe_call U_law_tree.ok (hr.mono (by omega)) rfl U_law_tree.m U_law_tree.kp U_law_tree.b .nil pass0 (pa_cons (pv 1) (pa_cons pe_int pa_nil))))
    (pss_cons (ps_set (i := 3) scLaw.nd rfl (.inl rfl) (pe_makeE UHandleTree.made UHandleTree.ok (hr.mono (by omega)) (by rfl) UHandleTree.m UHandleTree.b (fun σ => passAt takes0 σ) (pa_cons (pv 2) pa_nil)))
    (pss_cons (ps_set (i := 4) scLaw.nd rfl (.inr rfl) (pe_call U_law_places.ok (hr.mono (by omega)) rfl U_law_places.m U_law_places.kp U_law_places.b .nil pass0 (pa_cons (pv 2) (pa_cons (pe_tup pa_nil) pa_nil))))
    (pss_cons (ps_if (pt_not (pt_val (pe_call U_law_alike.ok (hr.mono (by omega)) rfl U_law_alike.m U_law_alike.kp U_law_alike.b .nil pass0 (pa_cons (pe_lst (pa_cons (pe_meth0 (E := fun _ _ _ => False) (pv 3) MHandleTree.cls UHandleTree_value.hm UHandleTree_value.ok (hr.mono (by omega)) UHandleTree_value.b .nil pass0) (pa_cons (pe_meth0 (E := fun _ _ _ => False) (pv 3) MHandleTree.cls UHandleTree_handles.hm UHandleTree_handles.ok (hr.mono (by omega)) UHandleTree_handles.b .nil pass0) (pa_cons (pe_meth0 (E := fun _ _ _ => False) (pv 3) MHandleTree.cls UHandleTree_given.hm UHandleTree_given.ok (hr.mono (by omega)) UHandleTree_given.b .nil pass0) pa_nil)))) (pa_cons (pe_lst (pa_cons (pv 2) (pa_cons (pe_tupRg rfl (by rfl) T.tuple (prg_1 (by rfl) T.range (pe_callB call_len_seq (by rfl) T.len PySem.boot_len (pa_cons (pv 4) pa_nil)))) (pa_cons (pe_callB call_len_seq (by rfl) T.len PySem.boot_len (pa_cons (pv 4) pa_nil)) pa_nil)))) pa_nil))))) (pss_one (ps_ret pe_bl)) pss_nil)
    (pss_cons (ps_if (pt_not (pt_val (pe_call U_law_alike.ok (hr.mono (by omega)) rfl U_law_alike.m U_law_alike.kp U_law_alike.b .nil pass0 (pa_cons (pe_lst (pa_cons (pe_meth0 (E := fun _ _ _ => False) (pv 3) MHandleTree.cls UHandleTree_acts.hm UHandleTree_acts.ok (hr.mono (by omega)) UHandleTree_acts.b .nil pass0) (pa_cons (pe_meth0 (E := fun _ _ _ => False) (pv 3) MHandleTree.cls UHandleTree_gone.hm UHandleTree_gone.ok (hr.mono (by omega)) UHandleTree_gone.b .nil pass0) pa_nil))) (pa_cons (pe_lst (pa_cons pe_int (pa_cons (pe_tup pa_nil) pa_nil))) pa_nil))))) (pss_one (ps_ret pe_bl)) pss_nil)
    (pss_cons (ps_for PassesOwn.never rfl (pi_enum (by rfl) T.enum (pa_cons (pv 4) pa_nil)) (pg_tup rfl (pgs_cons (pg_name (i := 6) scLaw.nd rfl (.inl rfl)) (pgs_cons (pg_name (i := 7) scLaw.nd rfl (.inr rfl)) pgs_nil))) (pss_cons (ps_set (i := 8) scLaw.nd rfl (.inl rfl) (pe_call U_law_reach.ok (hr.mono (by omega)) rfl U_law_reach.m U_law_reach.kp U_law_reach.b .nil pass0 (pa_cons (pv 2) (pa_cons (pv 7) pa_nil))))
      (pss_cons (ps_set (i := 9) scLaw.nd rfl (.inl rfl) pe_non)
      (pss_cons (ps_if (pt_cmpR (op_neD hr.units) (pv 7) (pe_tup pa_nil) (nomark _)) (pss_one (ps_set (i := 9) scLaw.nd rfl (.inl rfl) (pe_bm PySem.F.plainAttrs_list PySem.F.slot_list_index PySem.F.type_list_index (mt_indexD (hu65 hr)) (pv 4) (pa_cons (pe_slice sl_tupA (pv 7) po_none (po_some (pe_un un_neg pe_int))) pa_nil)))) pss_nil)
      (pss_cons (ps_set (i := 10) scLaw.nd rfl (.inl rfl) (pe_callTy call_tuple_of (by rfl) T.tuple PyProof.Rows.boot_tuple (pa_cons (pe_lc (own := [("_law_at", 11)]) (g := gName 11) (tt := tYes) (by rfl) scLaw.nd (pi_range1 (by rfl) T.range (pa_cons (pe_callB call_len_seq (by rfl) T.len PySem.boot_len (pa_cons (pe_ix ix_tup (pv 8) pe_int (fun _ _ => rfl)) pa_nil)) pa_nil)) (blkOk_by (N := ["_law_script", "_law_state_here", "_law_tree_here", "_law_make", "_law_places_here", "_law_caught", "_law_number", "_law_path", "_law_here", "_law_elder", "_law_kids", "_law_at", "error"]) (sc := defScope sLaw) (own := [("_law_at", 11)]) (by decide +kernel)) (fun _ _ _ _ _ => pg_name (i := 11) scLaw.nd rfl (Or.inl rfl)) (fun _ _ _ _ _ => pts_nil) (fun _ _ _ _ _ => (pe_bm PySem.F.plainAttrs_list PySem.F.slot_list_index PySem.F.type_list_index (mt_indexD (hu65 hr)) (pv 4) (pa_cons (pe_op op_catA (pv 7) (pe_tup (pa_cons (pv 11) pa_nil))) pa_nil)))) pa_nil)))
      (pss_cons (ps_if (pt_not (pt_val (pe_call U_law_alike.ok (hr.mono (by omega)) rfl U_law_alike.m U_law_alike.kp U_law_alike.b .nil pass0 (pa_cons (pe_lst (pa_cons (pe_methE (pv 3) MHandleTree.cls UHandleTree_handle_of.hm UHandleTree_handle_of.ok (hr.mono (by omega)) UHandleTree_handle_of.b (fun σ => passAt takes0 σ) (pa_cons (pv 7) pa_nil)) (pa_cons (pe_methE (pv 3) MHandleTree.cls UHandleTree_path_of.hm UHandleTree_path_of.ok (hr.mono (by omega)) UHandleTree_path_of.b (fun σ => passAt takes0 σ) (pa_cons (pv 6) pa_nil)) pa_nil))) (pa_cons (pe_lst (pa_cons (pv 6) (pa_cons (pv 7) pa_nil))) pa_nil))))) (pss_one (ps_ret pe_bl)) pss_nil)
      (pss_cons (ps_if (pt_not (pt_val (pe_call U_law_alike.ok (hr.mono (by omega)) rfl U_law_alike.m U_law_alike.kp U_law_alike.b .nil pass0 (pa_cons (pe_lst (pa_cons (pe_methE (pv 3) MHandleTree.cls UHandleTree_above.hm UHandleTree_above.ok (hr.mono (by omega)) UHandleTree_above.b (fun σ => passAt takes0 σ) (pa_cons (pv 6) pa_nil)) (pa_cons (pe_methE (pv 3) MHandleTree.cls UHandleTree_below.hm UHandleTree_below.ok (hr.mono (by omega)) UHandleTree_below.b (fun σ => passAt takes0 σ) (pa_cons (pv 6) pa_nil)) (pa_cons (pe_methE (pv 3) MHandleTree.cls UHandleTree_tag_by.hm UHandleTree_tag_by.ok (hr.mono (by omega)) UHandleTree_tag_by.b (fun σ => passAt takes0 σ) (pa_cons (pv 6) pa_nil)) pa_nil)))) (pa_cons (pe_lst (pa_cons (pv 9) (pa_cons (pv 10) (pa_cons (pe_ix ix_tup (pv 8) pe_int (fun _ _ => rfl)) pa_nil)))) pa_nil))))) (pss_one (ps_ret pe_bl)) pss_nil)
      (pss_one (ps_if (pt_not (pt_val (pe_callG (E := fun _ _ _ => False) U_law_refused_so.ok (hr.mono (by omega)) hgu rfl U_law_refused_so.m U_law_refused_so.kp U_law_refused_so.b (pa_cons (pv 1) (pa_cons (pv 3) (pa_cons (pv 4) pa_nil)))))) (pss_one (ps_ret pe_bl)) pss_nil)))))))))
    (pss_cons (ps_set (i := 5) scLaw.nd rfl (.inl rfl) pe_non)
    (pss_cons (ps_try_keep (i := 12) (Wout := fun _ _ _ _ => False) rfl rfl rfl scLaw.nd rfl rfl ⟨rfl, by decide, .inl A.m_NoTree⟩ takes0
    (fun W pn xe tk _ => (pss_one (ps_expr (pe_makeE UHandleTree.made UHandleTree.ok (hr.mono (by omega)) (by rfl) UHandleTree.m UHandleTree.b (fun σ => passAt tk σ) (pa_cons (pe_ix ix_list (pe_lst (pa_cons pe_non (pa_cons (pe_lst (pa_cons pe_str (pa_cons (pe_tup pa_nil) pa_nil))) (pa_cons (pe_tup (pa_cons pe_str (pa_cons (pe_tup pa_nil) pa_nil))) (pa_cons (pe_tup (pa_cons pe_str (pa_cons (pe_lst pa_nil) pa_nil))) (pa_cons (pe_tup (pa_cons pe_str (pa_cons (pe_tup (pa_cons pe_non pa_nil)) pa_nil))) (pa_cons pe_str pa_nil))))))) (PE.nox (pe_call U_law_next.ok (hr.mono (by omega)) rfl U_law_next.m U_law_next.kp U_law_next.b .nil pass0 (pa_cons (pv 1) (pa_cons pe_int pa_nil)))) (fun _ _ => rfl)) pa_nil)))))
    (fun a oe cls d pn hz hf => (pss_one (ps_set (i := 5) scLaw.nd rfl (.inl rfl) (pv 12)))))
    (pss_one (ps_ret (pe_and (pe_cmpR op_notN (pv 5) pe_non (nomark _)) (pe_one (pe_call U_law_alike.ok (hr.mono (by omega)) rfl U_law_alike.m U_law_alike.kp U_law_alike.b .nil pass0 (pa_cons (pe_meth0 (E := fun _ _ _ => False) (pv 3) MHandleTree.cls UHandleTree_handles.hm UHandleTree_handles.ok (hr.mono (by omega)) UHandleTree_handles.b .nil pass0) (pa_cons (pe_tupRg rfl (by rfl) T.tuple (prg_1 (by rfl) T.range (pe_callB call_len_seq (by rfl) T.len PySem.boot_len (pa_cons (pv 4) pa_nil)))) pa_nil)))))))))))))))),
    (ss_cons (ss_set (se_call (sa_cons se_nm (sa_cons se_int sa_nil))))
    (ss_cons (ss_set (se_makeX (sa_cons se_nm sa_nil)))
    (ss_cons (ss_set (se_call (sa_cons se_nm (sa_cons (se_tup sa_nil) sa_nil))))
    (ss_cut (ss_if (st_not (st_val (se_call (sa_cons (se_lsf (sa_cons (se_meth se_nm sa_nil) (sa_cons (se_meth se_nm sa_nil) (sa_cons (se_meth se_nm sa_nil) sa_nil)))) (sa_cons (se_lsf (sa_cons se_nm (sa_cons (se_tupRg1 (se_cb sc_len (sa_cons se_nm sa_nil))) (sa_cons (se_cb sc_len (sa_cons se_nm sa_nil)) sa_nil)))) sa_nil))))) (ss_ret se_bl) ss_nil)
    (ss_cut (ss_if (st_not (st_val (se_call (sa_cons (se_lsf (sa_cons (se_meth se_nm sa_nil) (sa_cons (se_meth se_nm sa_nil) sa_nil))) (sa_cons (se_lsf (sa_cons se_int (sa_cons (se_tup sa_nil) sa_nil))) sa_nil))))) (ss_ret se_bl) ss_nil)
    (ss_cons (ss_for (si_enL (sa_cons se_nm sa_nil)) sg_pair (ss_cons (ss_set (se_call (sa_cons se_nm (sa_cons se_nm sa_nil))))
      (ss_cons (ss_set se_non)
      (ss_cut (ss_if (st_test (se_op so_neD se_nm (se_tup sa_nil))) (ss_set (se_idxD se_nm (sa_cons (se_sl sl_T se_nm sp_no (sp_some (se_un su_neg se_int))) sa_nil))) ss_nil)
      (ss_cons (ss_set (se_cb sc_tuple (sa_cons (se_lcF (si_r1 (sa_cons (se_cb sc_len (sa_cons (se_op so_ixT se_nm se_int) sa_nil)) sa_nil)) sg_name st_yes (se_idxD se_nm (sa_cons (se_op so_catT se_nm (se_tup (sa_cons se_nm sa_nil))) sa_nil))) sa_nil)))
      (ss_cut (ss_if (st_not (st_val (se_call (sa_cons (se_lsf (sa_cons (se_methX se_nm (sa_cons se_nm sa_nil)) (sa_cons (se_methX se_nm (sa_cons se_nm sa_nil)) sa_nil))) (sa_cons (se_lsf (sa_cons se_nm (sa_cons se_nm sa_nil))) sa_nil))))) (ss_ret se_bl) ss_nil)
      (ss_cut (ss_if (st_not (st_val (se_call (sa_cons (se_lsf (sa_cons (se_methX se_nm (sa_cons se_nm sa_nil)) (sa_cons (se_methX se_nm (sa_cons se_nm sa_nil)) (sa_cons (se_methX se_nm (sa_cons se_nm sa_nil)) sa_nil)))) (sa_cons (se_lsf (sa_cons se_nm (sa_cons se_nm (sa_cons (se_op so_ixT se_nm se_int) sa_nil)))) sa_nil))))) (ss_ret se_bl) ss_nil)
      (ss_if (st_not (st_val (se_call (sa_cons se_nm (sa_cons se_nm (sa_cons se_nm sa_nil)))))) (ss_ret se_bl) ss_nil))))))))
    (ss_cons (ss_set se_non)
    (ss_cons (ss_tryA (fun Wx RE => (ss_drop (se_makeX (sa_cons (se_op so_ixL (se_lsf (sa_cons se_non (sa_cons (se_lsf (sa_cons se_str (sa_cons (se_tup sa_nil) sa_nil))) (sa_cons (se_tup (sa_cons se_str (sa_cons (se_tup sa_nil) sa_nil))) (sa_cons (se_tup (sa_cons se_str (sa_cons (se_lsf sa_nil) sa_nil))) (sa_cons (se_tup (sa_cons se_str (sa_cons (se_tup (sa_cons se_non sa_nil)) sa_nil))) (sa_cons se_str sa_nil))))))) (se_call (sa_cons se_nm (sa_cons se_int sa_nil)))) sa_nil)))))
    (ss_ret (se_and (se_op so_notN se_nm se_non) (se_call (sa_cons (se_meth se_nm sa_nil) (sa_cons (se_tupRg1 (se_cb sc_len (sa_cons se_nm sa_nil))) sa_nil))))))))))))), fun st M hM => ?_⟩
  simp only [start0, len_c, len_n, map_c, map_n, app_c, app_n, rep_0, rep_s, Nat.reduceAdd, Nat.reduceSub]
  decreasing_trivial_pre_omega
  intro t0 g1 g2 g3
  have t1 : TrT 12 t0 := g1.t.mono (by decide)
  have t2 : nn t0 ≤ 60 := by omega
  have tt := (tree_eq t1 t2).2.2.1
  have it := tree_iff.mpr ⟨t1, t2⟩
  decreasing_trivial_pre_omega
  intro mk dx hmk
  refine ⟨mk, dx, t0, rfl, ⟨mset_same, tt⟩, fun _ M2 h2 k2 => ?_, fun z => (by rw [it] at z; cases z)⟩
  have nms : mk ≠ st := fun e => by rw [e, hM] at hmk; cases hmk
  have hM2 : M2 st = some (.src true) := by rw [k2 st nms.symm (by rw [mset_ne nms.symm, hM]; exact fun z => by cases z), mset_ne nms.symm]; exact hM
  refine ⟨rfl, ?_⟩
  decreasing_trivial_pre_omega
  refine ⟨t0, [], rfl, ⟨t1, by omega, by decide⟩, ?_⟩
  have pl := plc_len t1
  have ok := zip_ok t1
  have hS : HtS A.c_HandleTree M2 mk t0 (plc t0).zipIdx (plc t0).length 0 := ⟨h2, t1, t2, ok⟩
  have h20 := h2
  obtain ⟨dx', p, e', l, b, r, c, hI, hP, hE⟩ := h20
  have ll : (List.map W.d (pls [] (plc t0))).length = (plc t0).length := by rw [List.length_map, pls_len]
  clear k2 it
  decreasing_trivial_pre_omega
  refine seq_cut (fun ρ' M' => ρ' = [some (.o (.ref a)), some (.r st), some (.d t0), some (.r mk), some (.d (.list (pls [] (plc t0)))), none, none, none, none, none, none, none, none] ∧ M' = M2) (fun N hN => ?_) (fun ρ' M' c => ?_)
  · decreasing_trivial_pre_omega
    refine ⟨mk, t0, _, [], _, 0, rfl, h2, ?_⟩
    decreasing_trivial_pre_omega
    refine ⟨mk, t0, _, [], _, 0, rfl, hS, ?_⟩
    decreasing_trivial_pre_omega
    refine ⟨mk, t0, _, [], _, 0, rfl, h2, ?_⟩
    decreasing_trivial_pre_omega
    rw [ll, rgD_n, handles_rng t1]
    refine ⟨rfl, alk_ok (all1 ((tree_gk t1 t2).mono (by decide) (by decide)) (all1 (gk_nums (fun n hn => by have := List.mem_range.mp hn; omega) (by rw [List.length_range]; omega)) (all1 ((gk_i (k := 30) (by omega) (by omega)).mono (by decide) (Nat.le_refl _)) all0))) (by simp), ?_⟩
    decreasing_trivial_pre_omega
    exact hN _ _ ⟨rfl, rfl⟩
  obtain ⟨rfl, rfl⟩ := c
  refine seq_cut (fun ρ' M2 => ρ' = [some (.o (.ref a)), some (.r st), some (.d t0), some (.r mk), some (.d (.list (pls [] (plc t0)))), none, none, none, none, none, none, none, none] ∧ M2 = M') (fun N hN => ?_) (fun ρ' M2 c => ?_)
  · decreasing_trivial_pre_omega
    refine ⟨mk, t0, _, [], _, 0, rfl, h2, ?_⟩
    decreasing_trivial_pre_omega
    refine ⟨mk, t0, _, _, 0, rfl, h2, ?_⟩
    decreasing_trivial_pre_omega
    exact hN _ _ ⟨rfl, rfl⟩
  obtain ⟨rfl, rfl⟩ := c
  decreasing_trivial_pre_omega
  have e1 : (pls [] (plc t0)).map W.d = (plc t0).map fun q => W.d (pathD q) := by rw [show pls [] (plc t0) = (plc t0).map pathD from rfl, List.map_map]; rfl
  rw [e1]
  refine forE (fun i ρ M' => M' = M2 ∧ ∃ y6 y7 y8 y9 y10 y11 : Option W, ρ = [some (.o (.ref a)), some (.r st), some (.d t0), some (.r mk), some (.d (.list (pls [] (plc t0)))), none, y6, y7, y8, y9, y10, y11, none]) ⟨rfl, none, none, none, none, none, none, rfl⟩ (fun _ _ _ _ _ => trivial) (fun i x ρ M' N hi pv hN => ?_) (fun ρ M' pv => ?_)
  · obtain ⟨rfl, y6, y7, y8, y9, y10, y11, rfl⟩ := pv
    rw [List.getElem?_map] at hi
    obtain ⟨q, hq1, rfl⟩ := Option.map_eq_some_iff.mp hi
    have hi2 := (List.getElem?_eq_some_iff.mp hq1).1
    have hqi := (List.getElem?_eq_some_iff.mp hq1).2
    have hqm := List.mem_of_getElem? hq1
    obtain ⟨kq, e, hqs⟩ := plc_ok60 t1 t2 hqm
    decreasing_trivial_pre_omega
    refine ⟨t0, q, 12, rfl, t1, ?_⟩
    rw [hqs, show ∀ e, optP (some e) = e from fun _ => rfl]
    obtain ⟨s0, ks, rfl, g1', g2', g3'⟩ := node_at t1 hqs
    have hkl : ks.length ≤ 60 := by have := len_nn ks; omega
    have eL := eqOk_of (eqOk_paths (plc t0))
    decreasing_trivial_pre_omega
    refine seq_cut (fun ρ' M2 => ρ' = [some (.o (.ref a)), some (.r st), some (.d t0), some (.r mk), some (.d (.list (pls [] (plc t0)))), none, some (.d (.int (i : Nat))), some (.d (pathD q)), some (.d (.tuple [.str s0, .tuple ks])), some (.d (abvD t0 (plc t0).zipIdx q)), y10, y11, none] ∧ M2 = M') (fun N2 hN2 => ?_) (fun ρ' M2 c => ?_)
    · decreasing_trivial_pre_omega
      refine ⟨⟨eqOk_path q, by decide +kernel⟩, ?_⟩
      rw [show PyData.tuple [] = pathD [] from rfl, eqv_path]
      decreasing_trivial_pre_omega
      refine IfB.d (fun cq => ?_) (fun cq => ?_)
      · decreasing_trivial_pre_omega
        exact hN2 _ _ ⟨by unfold abvD; rw [if_pos cq], rfl⟩
      · rcases List.eq_nil_or_concat q with rfl | ⟨r, i', rfl⟩
        · exact absurd rfl cq
        rw [List.concat_eq_append] at *
        obtain ⟨u2, hu⟩ := sub_cut (a := r) (b := [i']) t1 hqs
        obtain ⟨j2, ij, hj2⟩ := idx_plc t1 (sub_plc t1 hu)
        have eR := eqOk_of (eqOk_path r)
        unfold pathD
        decreasing_trivial_pre_omega
        rw [cut_last, ← List.map_dropLast, List.dropLast_concat]
        refine ⟨⟨⟨eL.2, eR.2⟩, eL.1, eR.1⟩, j2, _, ij, ?_⟩
        decreasing_trivial_pre_omega
        exact hN2 _ _ ⟨by unfold abvD; rw [if_neg cq, List.dropLast_concat, hj2]; rfl, rfl⟩
    obtain ⟨rfl, em⟩ := c
    rw [em]
    clear em
    decreasing_trivial_pre_omega
    try rw [Int.toNat_natCast]
    try unfold rng
    have hNq : Tl.hN (plc t0).zipIdx q = i := by
      have := hN_zip t1 hi2
      rw [hqi] at this
      exact this
    have hbl : PyData.tuple ((List.range ks.length).map fun k : Nat => PyData.int (Tl.hN (plc t0).zipIdx (q ++ [k]) : Nat)) = blwD t0 (plc t0).zipIdx q := by
      unfold blwD
      rw [kidsN_of hqs]
    refine lc1F (k := fun _ => True) (xs := List.range ks.length) (f := fun i : Nat => W.d (.int (0 + (i : Nat)))) (b := bName 11) (fun k : Nat => .int (Tl.hN (plc t0).zipIdx (q ++ [k]) : Nat)) trivial (fun k hk Rk q2 => ?_) (sz1000 (by rw [List.length_range]; omega)) ?_
    · have hk2 := List.mem_range.mp hk
      obtain ⟨u2, hu⟩ := (sub_kid t1 hqs k).mpr (by rw [kidsN_of hqs]; exact hk2)
      obtain ⟨j2, ij, hj2⟩ := idx_plc t1 (sub_plc t1 hu)
      have eR := eqOk_of (eqOk_path (q ++ [k]))
      have pc := path_cat q k
      rw [hj2] at q2
      rw [Int.zero_add]
      unfold pathD
      decreasing_trivial_pre_omega
      rw [pc]
      refine ⟨⟨⟨eL.2, eR.2⟩, eL.1, eR.1⟩, j2, _, ij, ?_⟩
      decreasing_trivial_pre_omega
      exact q2
    have gq : Gk 200000 30 (pathD q) := (gk_path (by have := kq.1; omega) (fun x hx => by have := kq.2 x hx; omega)).mono (by decide) (by decide)
    have gi : Gk 200000 30 (.int (i : Nat)) := (gk_i (k := 30) (by omega) (by omega)).mono (by decide) (Nat.le_refl _)
    have ga : Gk 200000 30 (abvD t0 (plc t0).zipIdx q) := abv_gk t1 hqm (by omega)
    have gb : Gk 200000 30 (blwD t0 (plc t0).zipIdx q) := blw_gk t1 hqs (by omega)
    have gs : Gk 200000 30 (.str s0) := by
      obtain ⟨_, z1, z2⟩ := tag_small g3'.2
      exact gk_str (by omega) z2 (by omega)
    have never : ¬ (isCount (.int (i : Nat)) = false ∨ (∃ i' : Int, PyData.int (i : Nat) = .int i' ∧ ((plc t0).length : Nat) ≤ i')) := by
      rintro (z | ⟨i', z, z2⟩)
      · rw [isCount, decide_eq_false_iff_not] at z
        omega
      · injection z with z
        omega
    have only : ∀ q3 m, (q3, m) ∈ (plc t0).zipIdx → PyData.int (i : Nat) = .int (m : Nat) → q3 = q := by
      intro q3 m h z
      injection z with z
      have : m = i := by omega
      subst this
      rw [List.mem_zipIdx_iff_getElem?] at h
      exact Option.some.inj (h.symm.trans hq1)
    have have1 : ∀ m : Nat, PyData.int (i : Nat) = .int (m : Nat) → m < (plc t0).length → ∃ q, (q, m) ∈ (plc t0).zipIdx := fun m _ hm => ⟨(plc t0)[m], by rw [List.mem_zipIdx_iff_getElem?]; exact List.getElem?_eq_getElem hm⟩
    decreasing_trivial_pre_omega
    rw [hbl]
    refine seq_cut (fun ρ' M2 => ρ' = [some (.o (.ref a)), some (.r st), some (.d t0), some (.r mk), some (.d (.list (pls [] (plc t0)))), none, some (.d (.int (i : Nat))), some (.d (pathD q)), some (.d (.tuple [.str s0, .tuple ks])), some (.d (abvD t0 (plc t0).zipIdx q)), some (.d (blwD t0 (plc t0).zipIdx q)), y11, none] ∧ M2 = M') (fun N2 hN2 => ?_) (fun ρ' M2 c => ?_)
    · decreasing_trivial_pre_omega
      refine ⟨mk, t0, _, _, 0, pathD q, rfl, ⟨hS, path_txt q⟩, fun z => (by rw [isPath_ok kq] at z; cases z), fun q2 z _ z2 => (by rw [← pathD_inj z, hqs] at z2; cases z2), fun q2 e2 z1 _ z3 => ?_⟩
      rw [← pathD_inj z1, hNq]
      decreasing_trivial_pre_omega
      refine ⟨mk, t0, _, _, 0, .int (i : Nat), rfl, ⟨hS, rfl⟩, fun z => absurd z never, fun q3 m h z => ?_, have1⟩
      rw [only q3 m h z, show ptD t0 (plc t0).zipIdx q = pathD q from rfl]
      decreasing_trivial_pre_omega
      refine ⟨alk_ok (all1 gi (all1 gq all0)) (by simp), ?_⟩
      decreasing_trivial_pre_omega
      exact hN2 _ _ ⟨rfl, rfl⟩
    obtain ⟨rfl, em⟩ := c
    rw [em]
    clear em
    refine seq_cut (fun ρ' M2 => ρ' = [some (.o (.ref a)), some (.r st), some (.d t0), some (.r mk), some (.d (.list (pls [] (plc t0)))), none, some (.d (.int (i : Nat))), some (.d (pathD q)), some (.d (.tuple [.str s0, .tuple ks])), some (.d (abvD t0 (plc t0).zipIdx q)), some (.d (blwD t0 (plc t0).zipIdx q)), y11, none] ∧ M2 = M') (fun N2 hN2 => ?_) (fun ρ' M2 c => ?_)
    · decreasing_trivial_pre_omega
      refine ⟨mk, t0, _, _, 0, .int (i : Nat), rfl, ⟨hS, rfl⟩, fun z => absurd z never, fun q3 m h z => ?_, have1⟩
      rw [only q3 m h z]
      decreasing_trivial_pre_omega
      refine ⟨mk, t0, _, _, 0, .int (i : Nat), rfl, ⟨hS, rfl⟩, fun z => absurd z never, fun q3 m h z => ?_, have1⟩
      rw [only q3 m h z]
      decreasing_trivial_pre_omega
      refine ⟨mk, t0, _, _, 0, .int (i : Nat), rfl, ⟨hS, rfl⟩, fun z => absurd z never, fun q3 m h z => ?_, have1⟩
      rw [only q3 m h z, show tagD t0 (plc t0).zipIdx q = .str s0 by unfold tagD; rw [hqs]; rfl]
      decreasing_trivial_pre_omega
      refine ⟨alk_ok (all1 ga (all1 gb (all1 gs all0))) (by simp), ?_⟩
      decreasing_trivial_pre_omega
      exact hN2 _ _ ⟨rfl, rfl⟩
    obtain ⟨rfl, em⟩ := c
    rw [em]
    clear em
    decreasing_trivial_pre_omega
    refine ⟨st, mk, t0, _, 0, rfl, ⟨hM2, hS, by omega⟩, ?_⟩
    decreasing_trivial_pre_omega
    exact hN _ _ ⟨rfl, _, _, _, _, _, _, rfl⟩
  · obtain ⟨rfl, y6, y7, y8, y9, y10, y11, rfl⟩ := pv
    decreasing_trivial_pre_omega
    intro i6 hr0 hr6
    have hb : ∃ d : PyData, (atI ([PyData.none, .list [.str "a", .tuple []], .tuple [.str "A", .tuple []], .tuple [.str "a", .list []], .tuple [.str "a", .tuple [.none]], .str "a"].map W.d) i6 = some (W.d d)) ∧ isTreeD d = false ∧ txt d = true := by
      have : i6 = 0 ∨ i6 = 1 ∨ i6 = 2 ∨ i6 = 3 ∨ i6 = 4 ∨ i6 = 5 := by omega
      rcases this with rfl | rfl | rfl | rfl | rfl | rfl
      all_goals exact ⟨_, rfl, by decide +kernel, by decide +kernel⟩
    obtain ⟨bad, hb1, hb2, hb3⟩ := hb
    refine gO_i hb1 ?_
    decreasing_trivial_pre_omega
    intro mk2 dx2 hmk2
    refine ⟨mk2, dx2, bad, rfl, ⟨mset_same, hb3⟩, fun z => (by rw [hb2] at z; cases z), fun _ => ?_⟩
    refine gO_i A.h_NoTree_NoTree (IfB.t rfl ?_)
    refine ⟨(by decide : 12 < 13), ?_⟩
    intro a4 dd h4
    have ne : ∀ x, M' x ≠ none → mset (mset M' mk2 (MO.ins A.c_HandleTree dx2 [])) a4 (MO.exc A.c_NoTree dd) x = M' x := fun x hx => by
      have n1 : x ≠ mk2 := fun e => hx (by rw [e]; exact hmk2)
      have n2 : x ≠ a4 := fun e => hx (by have h5 := h4; rw [← e, mset_ne n1] at h5; exact h5)
      rw [mset_ne n2, mset_ne n1]
    have hI' := (ne mk (by rw [hI]; exact fun z => by cases z)).trans hI
    have hP' := (ne p (by rw [hP]; exact fun z => by cases z)).trans hP
    have hE' := (ne e' (by rw [hE]; exact fun z => by cases z)).trans hE
    generalize mset (mset M' mk2 (MO.ins A.c_HandleTree dx2 [])) a4 (MO.exc A.c_NoTree dd) = M9 at hI' hP' hE' ⊢
    have h9 : HtNew A.c_HandleTree M9 mk t0 := ⟨dx', p, e', l, b, r, c, hI', hP', hE'⟩
    have hS9 : HtS A.c_HandleTree M9 mk t0 (plc t0).zipIdx (plc t0).length 0 := ⟨h9, t1, t2, ok⟩
    clear hI hP hE
    decreasing_trivial_pre_omega
    refine ⟨mk, t0, _, [], _, 0, rfl, hS9, ?_⟩
    decreasing_trivial_pre_omega
    rw [ll, rgD_n, handles_rng t1]
    have g := gk_nums (l := List.range (plc t0).length) (fun n hn => by have := List.mem_range.mp hn; omega) (by rw [List.length_range]; omega)
    refine ⟨rfl, ⟨by have := g.2.2; omega, gd_nd _ g.1, gd_txt _ g.1⟩, ?_⟩
    decreasing_trivial_pre_omega
end
end Tl
set_option Elab.async false
set_option linter.all false
namespace Tl
open PySem L2 RZ
/-- class HandleTree with all its methods, some of them Make's own -/
structure HtW (K : PySem.W.Frag) (C : Addr) where
  hc : HtC K C
  fI : Addr
  dI : FuncData
  FI : Fun K "__init__" "Make.__init__" sMkIn fI dI
  mkr : L2.Mk K C fI
  fG : Addr
  dG : FuncData
  FG : Fun K "give_handles" "HandleTree.give_handles" sHtGi fG dG
  mG : L2.Meth K C "give_handles" fG
  fP : Addr
  dP : FuncData
  FP : Fun K "plant" "HandleTree.plant" sHtPl fP dP
  mP : L2.Meth K C "plant" fP
  fV : Addr
  dV : FuncData
  FV : Fun K "value" "Make.value" sMkVa fV dV
  mV : L2.Meth K C "value" fV
  fN : Addr
  dN : FuncData
  FN : Fun K "given" "HandleTree.given" sHtGv fN dN
  mN : L2.Meth K C "given" fN
  fA : Addr
  dA : FuncData
  FA : Fun K "acts" "HandleTree.acts" sHtAc fA dA
  mA : L2.Meth K C "acts" fA
  fO : Addr
  dO : FuncData
  FO : Fun K "gone" "HandleTree.gone" sHtGo fO dO
  mO : L2.Meth K C "gone" fO
  fH : Addr
  dH : FuncData
  FH : Fun K "handles" "HandleTree.handles" sHtHs fH dH
  mH : L2.Meth K C "handles" fH
  fQ : Addr
  dQ : FuncData
  FQ : Fun K "handle_of" "HandleTree.handle_of" sHtHo fQ dQ
  mQ : L2.Meth K C "handle_of" fQ
  fR : Addr
  dR : FuncData
  FR : Fun K "path_of" "HandleTree.path_of" sHtPo fR dR
  mR : L2.Meth K C "path_of" fR
  fT : Addr
  dT : FuncData
  FT : Fun K "tag" "Make.tag" sMkTg fT dT
  mT : L2.Meth K C "tag" fT
  fY : Addr
  dY : FuncData
  FY : Fun K "many" "Make.many" sMkMn fY dY
  mY : L2.Meth K C "many" fY
  fB : Addr
  dB : FuncData
  FB : Fun K "tag_by" "HandleTree.tag_by" sHtTb fB dB
  mB : L2.Meth K C "tag_by" fB
  fU : Addr
  dU : FuncData
  FU : Fun K "above" "HandleTree.above" sHtAb fU dU
  mU : L2.Meth K C "above" fU
  fW : Addr
  dW : FuncData
  FW : Fun K "below" "HandleTree.below" sHtBe fW dW
  mW : L2.Meth K C "below" fW
def UseC.up {P : Program} {w : World} {K : PySem.W.Frag} {mg : Str → Option Value} {base : Heap} {C : Addr} {x : Str} {ps : List Str} {j k : Nat} {sp : Sp} (U : UseC P w K mg base C x ps j sp) (h : j ≤ k) : UseC P w K mg base C x ps k sp := ⟨U.f, U.fd, U.ok.mono h, U.made, U.m, U.b⟩
def UseM.up {P : Program} {w : World} {K : PySem.W.Frag} {mg : Str → Option Value} {base : Heap} {C : Addr} {x : Str} {ps : List Str} {j k : Nat} {sp : Sp} (U : UseM P w K mg base C x ps j sp) (h : j ≤ k) : UseM P w K mg base C x ps k sp := ⟨U.f, U.fd, U.ok.mono h, U.hm, U.b⟩
def UseMX.up {P : Program} {w : World} {K : PySem.W.Frag} {mg : Str → Option Value} {base : Heap} {C : Addr} {x : Str} {ps : List Str} {j k : Nat} {sp : Sp} (U : UseMX P w K mg base C x ps j sp) (h : j ≤ k) : UseMX P w K mg base C x ps k sp := ⟨U.f, U.fd, U.ok.mono h, U.hm, U.b⟩
end Tl
set_option Elab.async false
set_option linter.all false
set_option maxRecDepth 100000
set_option maxHeartbeats 16000000
namespace Tl
open PySem L2 RZ
section
variable {P : Program} {w : World} {K : PySem.W.Frag} {mg : Str → Option Value}
structure Defs (K : PySem.W.Frag) (mg : Str → Option Value) where
  d_is_count : At K mg "is_count" sIsCount
  d_is_number : At K mg "is_number" sIsNumber
  d_is_tag : At K mg "is_tag" sIsTag
  d_is_tag_and_kids : At K mg "is_tag_and_kids" sTagKids
  d_room_behind : At K mg "room_behind" sRoom
  d_is_tree : At K mg "is_tree" sIsTree
  d_check_tree : At K mg "check_tree" sChkTree
  d__law_next : At K mg "_law_next" sNext
  d__law_state : At K mg "_law_state" sState
  d__law_tree : At K mg "_law_tree" sTreeL
  d__law_alike : At K mg "_law_alike" sAlike
  d_count_places : At K mg "count_places" sCntPlaces
  d_count_levels : At K mg "count_levels" sCntLevels
  d_part_at : At K mg "part_at" sPartAt
  d__law_reach : At K mg "_law_reach" sReach
  d_paths_from : At K mg "paths_from" sPathsF
  d__law_places : At K mg "_law_places" sPlaces
  d_is_path : At K mg "is_path" sIsPath
  d_check_path : At K mg "check_path" sChkPath
  d_check_place : At K mg "check_place" sChkPl
  d_is_within : At K mg "is_within" sWithin
  d_part_of : At K mg "part_of" sPtOf
  d__law_told : At K mg "_law_told" sTold
  d__law_refused_so : At K mg "_law_refused_so" sRso
  d_law : At K mg "law" sLaw
def calls (D : Defs K mg) (T : Bl mg) (A : Cls K mg) (R : HtW K A.c_HandleTree) (C : Cs mg) (mz : mg "zip" = none) (mSrt : mg "sorted" = none) (mVE : mg "ValueError" = none) (base : Heap) : Calls P w K mg base A :=
  let uCount := use (P := P) (w := w) (base := base) D.d_is_count (D.d_is_count.F.binds (ps := ["thing"]) fun _ _ _ _ _ _ us hl => match us, hl with | [_], _ => rfl) (ok_count (k := 0) D.d_is_count.F T)
  let uNumber := use (P := P) (w := w) (base := base) D.d_is_number (D.d_is_number.F.binds (ps := ["thing", "most"]) fun _ _ _ _ _ _ us hl => match us, hl with | [_, _], _ => rfl) (ok_number (k := 1) D.d_is_number.F uCount (by decide) T)
  let uTag := use (P := P) (w := w) (base := base) D.d_is_tag (D.d_is_tag.F.binds (ps := ["thing"]) fun _ _ _ _ _ _ us hl => match us, hl with | [_], _ => rfl) (ok_tag (k := 0) D.d_is_tag.F T C)
  let uPath := use (P := P) (w := w) (base := base) D.d_is_path (D.d_is_path.F.binds (ps := ["thing"]) fun _ _ _ _ _ _ us hl => match us, hl with | [_], _ => rfl) (ok_path (k := 2) D.d_is_path.F uNumber (by decide) T C)
  let uTagKids := use (P := P) (w := w) (base := base) D.d_is_tag_and_kids (D.d_is_tag_and_kids.F.binds (ps := ["thing"]) fun _ _ _ _ _ _ us hl => match us, hl with | [_], _ => rfl) (ok_tagKids (k := 1) D.d_is_tag_and_kids.F uTag (by decide) T)
  let uRoom := use (P := P) (w := w) (base := base) D.d_room_behind (D.d_room_behind.F.binds (ps := ["thing", "levels", "room"]) fun _ _ _ _ _ _ us hl => match us, hl with | [_, _, _], _ => rfl) (ok_room D.d_room_behind.F D.d_room_behind.m uTagKids (by decide) T 13)
  let uTree := use (P := P) (w := w) (base := base) D.d_is_tree (D.d_is_tree.F.binds (ps := ["thing"]) fun _ _ _ _ _ _ us hl => match us, hl with | [_], _ => rfl) (ok_tree (k := 15) D.d_is_tree.F uRoom (by decide) C)
  let uChkT := useX (P := P) (w := w) (base := base) D.d_check_tree (D.d_check_tree.F.binds (ps := ["thing"]) fun _ _ _ _ _ _ us hl => match us, hl with | [_], _ => rfl) (ok_chkTree (k := 16) D.d_check_tree.F A.e_NoTree uTree (by decide))
  let uPartAt := use (P := P) (w := w) (base := base) D.d_part_at (D.d_part_at.F.binds (ps := ["tree", "path"]) fun _ _ _ _ _ _ us hl => match us, hl with | [_, _], _ => rfl) (ok_partAt (k := 0) D.d_part_at.F T)
  let uPathsF := use (P := P) (w := w) (base := base) D.d_paths_from (D.d_paths_from.F.binds (ps := ["tree", "path"]) fun _ _ _ _ _ _ us hl => match us, hl with | [_, _], _ => rfl) (ok_pathsFD D.d_paths_from.F D.d_paths_from.m T 12)
  let uChkP := useX (P := P) (w := w) (base := base) D.d_check_path (D.d_check_path.F.binds (ps := ["thing"]) fun _ _ _ _ _ _ us hl => match us, hl with | [_], _ => rfl) (ok_chkPath (j := 3) (k := 3) D.d_check_path.F A.e_NoPath uPath (by decide))
  let uChkPl := useX (P := P) (w := w) (base := base) D.d_check_place (D.d_check_place.F.binds (ps := ["tree", "thing"]) fun _ _ _ _ _ _ us hl => match us, hl with | [_, _], _ => rfl) (ok_chkPl (j := 4) (k := 4) D.d_check_place.F A.e_NoPlace uChkP (uPartAt.up (by decide)) (by decide) (by decide))
  let uPartOf := useX (P := P) (w := w) (base := base) D.d_part_of (D.d_part_of.F.binds (ps := ["tree", "path"]) fun _ _ _ _ _ _ us hl => match us, hl with | [_, _], _ => rfl) (ok_partOf (j := 17) (k := 17) D.d_part_of.F uChkT (uChkPl.up (by decide)) (uPartAt.up (by decide)) (by decide))
  let uGive := (⟨R.fG, R.dG, ok_htGive (j := 12) (k := 12) R.FG R.hc uPathsF (by decide), R.mG, R.FG.binds (ps := ["self"]) fun _ _ _ _ _ _ us hl => match us, hl with | [_], _ => rfl⟩ : UseM P w K mg base A.c_HandleTree "give_handles" ["self"] 13 (spD K 1 (tfGive A.c_HandleTree)))
  let uPlant := (⟨R.fP, R.dP, ok_htPlant (j := 13) (k := 13) R.FP R.hc uGive (by decide), R.mP, R.FP.binds (ps := ["self", "tree"]) fun _ _ _ _ _ _ us hl => match us, hl with | [_, _], _ => rfl⟩ : UseM P w K mg base A.c_HandleTree "plant" ["self", "tree"] 14 (spD K 2 (tfHtPlant A.c_HandleTree)))
  let uMk := (⟨R.fI, R.dI, ok_htInit (j := 17) (k := 17) R.FI R.hc uChkT (uPlant.up (by decide)) (by decide), R.mkr, A.m_HandleTree, R.FI.binds (ps := ["self", "tree"]) fun _ _ _ _ _ _ us hl => match us, hl with | [_, _], _ => rfl⟩ : UseC P w K mg base A.c_HandleTree "HandleTree" ["self", "tree"] 18 (spD K 2 (tfHtMake A.c_HandleTree A.c_NoTree)))
  let uVal := (⟨R.fV, R.dV, ok_htValue (k := 0) R.FV R.hc, R.mV, R.FV.binds (ps := ["self"]) fun _ _ _ _ _ _ us hl => match us, hl with | [_], _ => rfl⟩ : UseM P w K mg base A.c_HandleTree "value" ["self"] 1 (spD K 1 (tfHt A.c_HandleTree fun t _ _ _ => t)))
  let uGiven := (⟨R.fN, R.dN, ok_htGiven (k := 0) R.FN R.hc, R.mN, R.FN.binds (ps := ["self"]) fun _ _ _ _ _ _ us hl => match us, hl with | [_], _ => rfl⟩ : UseM P w K mg base A.c_HandleTree "given" ["self"] 1 (spD K 1 (tfHt A.c_HandleTree fun _ _ n _ => .int (n : Nat))))
  let uActs := (⟨R.fA, R.dA, ok_htActs (k := 0) R.FA R.hc, R.mA, R.FA.binds (ps := ["self"]) fun _ _ _ _ _ _ us hl => match us, hl with | [_], _ => rfl⟩ : UseM P w K mg base A.c_HandleTree "acts" ["self"] 1 (spD K 1 (tfHt A.c_HandleTree fun _ _ _ u => .int (u : Nat))))
  let uGone := (⟨R.fO, R.dO, ok_htGone (k := 0) R.FO R.hc T mSrt, R.mO, R.FO.binds (ps := ["self"]) fun _ _ _ _ _ _ us hl => match us, hl with | [_], _ => rfl⟩ : UseM P w K mg base A.c_HandleTree "gone" ["self"] 1 (spD K 1 (tfHtGone A.c_HandleTree)))
  let uHands := (⟨R.fH, R.dH, ok_htHandles (k := 0) R.FH R.hc T mSrt, R.mH, R.FH.binds (ps := ["self"]) fun _ _ _ _ _ _ us hl => match us, hl with | [_], _ => rfl⟩ : UseM P w K mg base A.c_HandleTree "handles" ["self"] 1 (spD K 1 (tfHandles A.c_HandleTree)))
  let uHof := (⟨R.fQ, R.dQ, ok_htHandleOf (j := 5) (k := 5) R.FQ R.hc uChkPl (by decide), R.mQ, R.FQ.binds (ps := ["self", "path"]) fun _ _ _ _ _ _ us hl => match us, hl with | [_, _], _ => rfl⟩ : UseMX P w K mg base A.c_HandleTree "handle_of" ["self", "path"] 6 (spD K 2 (tfHandleOf A.c_HandleTree A.c_NoPath A.c_NoPlace)))
  let uPof := (⟨R.fR, R.dR, ok_htPathOf (j := 1) (k := 2) R.FR R.hc A.e_NoHandle uCount (by decide) (by decide), R.mR, R.FR.binds (ps := ["self", "handle"]) fun _ _ _ _ _ _ us hl => match us, hl with | [_, _], _ => rfl⟩ : UseMX P w K mg base A.c_HandleTree "path_of" ["self", "handle"] 3 (spD K 2 (tfByH ptD A.c_HandleTree A.c_NoHandle)))
  let uTg := (⟨R.fT, R.dT, ok_htTag (j := 18) (k := 18) R.FT R.hc (uVal.up (by decide)) uPartOf (by decide), R.mT, R.FT.binds (ps := ["self", "path"]) fun _ _ _ _ _ _ us hl => match us, hl with | [_, _], _ => rfl⟩ : UseM P w K mg base A.c_HandleTree "tag" ["self", "path"] 19 (spD K 2 (tfAtP tagP A.c_HandleTree)))
  let uMn := (⟨R.fY, R.dY, ok_htMany (j := 18) (k := 18) R.FY R.hc (uVal.up (by decide)) uPartOf (by decide) T, R.mY, R.FY.binds (ps := ["self", "path"]) fun _ _ _ _ _ _ us hl => match us, hl with | [_, _], _ => rfl⟩ : UseM P w K mg base A.c_HandleTree "many" ["self", "path"] 19 (spD K 2 (tfAtP manyP A.c_HandleTree)))
  let uTby := (⟨R.fB, R.dB, ok_htTagBy (j := 19) (k := 19) R.FB R.hc (uPof.up (by decide)) uTg (by decide), R.mB, R.FB.binds (ps := ["self", "handle"]) fun _ _ _ _ _ _ us hl => match us, hl with | [_, _], _ => rfl⟩ : UseMX P w K mg base A.c_HandleTree "tag_by" ["self", "handle"] 20 (spD K 2 (tfByH tagD A.c_HandleTree A.c_NoHandle)))
  let uAbv := (⟨R.fU, R.dU, ok_htAbove (j := 3) (k := 3) R.FU R.hc uPof (by decide), R.mU, R.FU.binds (ps := ["self", "handle"]) fun _ _ _ _ _ _ us hl => match us, hl with | [_, _], _ => rfl⟩ : UseMX P w K mg base A.c_HandleTree "above" ["self", "handle"] 4 (spD K 2 (tfByH abvD A.c_HandleTree A.c_NoHandle)))
  let uBlw := (⟨R.fW, R.dW, ok_htBelow (j := 19) (k := 19) R.FW R.hc (uPof.up (by decide)) uMn (by decide) T, R.mW, R.FW.binds (ps := ["self", "handle"]) fun _ _ _ _ _ _ us hl => match us, hl with | [_, _], _ => rfl⟩ : UseMX P w K mg base A.c_HandleTree "below" ["self", "handle"] 20 (spD K 2 (tfByH blwD A.c_HandleTree A.c_NoHandle)))
  let uState := use (P := P) (w := w) (base := base) D.d__law_state (D.d__law_state.F.binds (ps := ["_law_script"]) fun _ _ _ _ _ _ us hl => match us, hl with | [_], _ => rfl) (ok_state (k := 0) D.d__law_state.F T)
  let uNext := use (P := P) (w := w) (base := base) D.d__law_next (D.d__law_next.F.binds (ps := ["_law_state_here", "_law_below"]) fun _ _ _ _ _ _ us hl => match us, hl with | [_, _], _ => rfl) (ok_next (k := 0) D.d__law_next.F T)
  let uTreeL := use (P := P) (w := w) (base := base) D.d__law_tree (D.d__law_tree.F.binds (ps := ["_law_state_here", "_law_most"]) fun _ _ _ _ _ _ us hl => match us, hl with | [_, _], _ => rfl) (ok_treeL (j := 1) (k := 1) D.d__law_tree.F uNext (by decide) T)
  let uPlaces := use (P := P) (w := w) (base := base) D.d__law_places (D.d__law_places.F.binds (ps := ["_law_tree_here", "_law_path"]) fun _ _ _ _ _ _ us hl => match us, hl with | [_, _], _ => rfl) (ok_places D.d__law_places.F D.d__law_places.m T 12)
  let uReach := use (P := P) (w := w) (base := base) D.d__law_reach (D.d__law_reach.F.binds (ps := ["_law_tree_here", "_law_path"]) fun _ _ _ _ _ _ us hl => match us, hl with | [_, _], _ => rfl) (ok_reach (k := 0) D.d__law_reach.F T)
  let uAlike := use (P := P) (w := w) (base := base) D.d__law_alike (D.d__law_alike.F.binds (ps := ["_law_found", "_law_due"]) fun _ _ _ _ _ _ us hl => match us, hl with | [_, _], _ => rfl) (ok_alike D.d__law_alike.F D.d__law_alike.m T mz 40)
  let uTold := useG (P := P) (w := w) (base := base) D.d__law_told (D.d__law_told.F.binds (ps := ["_law_tree_here", "_law_way", "_law_thing"]) fun _ _ _ _ _ _ us hl => match us, hl with | [_, _, _], _ => rfl) (ok_told (j := 20) (k := 20) D.d__law_told.F A R.hc (uPof.up (by decide)) (uAbv.up (by decide)) uBlw uTby (uHof.up (by decide)) (by decide) T mVE ⟨A.x_NoHandle.hg, A.x_NoHandle.hk, A.x_NoHandle.hs, A.x_NoHandle.hd⟩ ⟨A.x_NoPlace.hg, A.x_NoPlace.hk, A.x_NoPlace.hs, A.x_NoPlace.hd⟩)
  let uRef := useG (P := P) (w := w) (base := base) D.d__law_refused_so (D.d__law_refused_so.F.binds (ps := ["_law_state_here", "_law_make", "_law_places_here"]) fun _ _ _ _ _ _ us hl => match us, hl with | [_, _, _], _ => rfl) (ok_refSo (j := 21) (k := 21) D.d__law_refused_so.F (uNext.up (by decide)) uTold (by decide) T)
  ⟨100, by decide, R.hc, uState.up (by decide), uNext.up (by decide), uTreeL.up (by decide), uPlaces.up (by decide), uReach.up (by decide), uAlike.up (by decide), uRef.up (by decide), uMk.up (by decide), uVal.up (by decide), uHands.up (by decide), uGiven.up (by decide), uActs.up (by decide), uGone.up (by decide), uHof.up (by decide), uPof.up (by decide), uAbv.up (by decide), uBlw.up (by decide), uTby.up (by decide)⟩
end
theorem all_mk {P : Program} {w : World} {K : PySem.W.Frag} {h : Heap} {mg : Str → Option Value} {fa : Addr} (X : K.In h) (G : h.Ns mainGlobals mg) (hfa : mg "law" = some (.ref fa)) {t1 t2 t3 : Tok}
    {f1 : Addr} {od1 an1 : Option Addr} {sl1 : Array (Option Value)} {oc1 kV1 dc1 pm1 cd1 ct1 : Value}
    {f2 : Addr} {od2 an2 : Option Addr} {sl2 : Array (Option Value)} {oc2 kV2 dc2 pm2 cd2 ct2 : Value}
    {f3 : Addr} {od3 an3 : Option Addr} {sl3 : Array (Option Value)} {oc3 kV3 dc3 pm3 cd3 ct3 : Value}
    {f4 : Addr} {od4 an4 : Option Addr} {sl4 : Array (Option Value)} {oc4 kV4 dc4 pm4 cd4 ct4 : Value}
    {f5 : Addr} {od5 an5 : Option Addr} {sl5 : Array (Option Value)} {oc5 kV5 dc5 pm5 cd5 ct5 : Value}
    {f6 : Addr} {od6 an6 : Option Addr} {sl6 : Array (Option Value)} {oc6 kV6 dc6 pm6 cd6 ct6 : Value}
    {f7 : Addr} {od7 an7 : Option Addr} {sl7 : Array (Option Value)} {oc7 kV7 dc7 pm7 cd7 ct7 : Value}
    {f8 : Addr} {od8 an8 : Option Addr} {sl8 : Array (Option Value)} {oc8 kV8 dc8 pm8 cd8 ct8 : Value}
    {f9 : Addr} {od9 an9 : Option Addr} {sl9 : Array (Option Value)} {oc9 kV9 dc9 pm9 cd9 ct9 : Value}
    {f10 : Addr} {od10 an10 : Option Addr} {sl10 : Array (Option Value)} {oc10 kV10 dc10 pm10 cd10 ct10 : Value}
    {f11 : Addr} {od11 an11 : Option Addr} {sl11 : Array (Option Value)} {oc11 kV11 dc11 pm11 cd11 ct11 : Value}
    {f12 : Addr} {od12 an12 : Option Addr} {sl12 : Array (Option Value)} {oc12 kV12 dc12 pm12 cd12 ct12 : Value}
    {f13 : Addr} {od13 an13 : Option Addr} {sl13 : Array (Option Value)} {oc13 kV13 dc13 pm13 cd13 ct13 : Value}
    {f14 : Addr} {od14 an14 : Option Addr} {sl14 : Array (Option Value)} {oc14 kV14 dc14 pm14 cd14 ct14 : Value}
    {f15 : Addr} {od15 an15 : Option Addr} {sl15 : Array (Option Value)} {oc15 kV15 dc15 pm15 cd15 ct15 : Value}
    {f16 : Addr} {od16 an16 : Option Addr} {sl16 : Array (Option Value)} {oc16 kV16 dc16 pm16 cd16 ct16 : Value}
    {f17 : Addr} {od17 an17 : Option Addr} {sl17 : Array (Option Value)} {oc17 kV17 dc17 pm17 cd17 ct17 : Value}
    {f18 : Addr} {od18 an18 : Option Addr} {sl18 : Array (Option Value)} {oc18 kV18 dc18 pm18 cd18 ct18 : Value}
    {f19 : Addr} {od19 an19 : Option Addr} {sl19 : Array (Option Value)} {oc19 kV19 dc19 pm19 cd19 ct19 : Value}
    {f20 : Addr} {od20 an20 : Option Addr} {sl20 : Array (Option Value)} {oc20 kV20 dc20 pm20 cd20 ct20 : Value}
    {f21 : Addr} {od21 an21 : Option Addr} {sl21 : Array (Option Value)} {oc21 kV21 dc21 pm21 cd21 ct21 : Value}
    {f22 : Addr} {od22 an22 : Option Addr} {sl22 : Array (Option Value)} {oc22 kV22 dc22 pm22 cd22 ct22 : Value}
    {f23 : Addr} {od23 an23 : Option Addr} {sl23 : Array (Option Value)} {oc23 kV23 dc23 pm23 cd23 ct23 : Value}
    {f24 : Addr} {od24 an24 : Option Addr} {sl24 : Array (Option Value)} {oc24 kV24 dc24 pm24 cd24 ct24 : Value}
    {f25 : Addr} {od25 an25 : Option Addr} {sl25 : Array (Option Value)} {oc25 kV25 dc25 pm25 cd25 ct25 : Value}
    {c_TreeError c_NoThing c_NoFit c_Cut c_NoTree c_NoPath c_NoDeed c_NoHandle c_NoPlace c_Root c_Within c_TooMany c_TooDeep c_Gone c_Stopped c_Busy c_Make c_HandleTree : Addr}
    {nm_NoPlace q_NoPlace : Str} {N_NoPlace : Addr} {bs_NoPlace bm_NoPlace : List Value} {sn_NoPlace : List Str} {sub_NoPlace : List Value} {ab_NoPlace : Bool} {col_NoPlace : Option Bool} {dd_NoPlace : Option Addr} {g0_NoPlace g1_NoPlace g2_NoPlace g3_NoPlace g5_NoPlace : Option Value}
    {fI_NoPlace : Addr} {odI_NoPlace anI_NoPlace : Option Addr} {slI_NoPlace : Array (Option Value)} {ocI_NoPlace kVI_NoPlace dcI_NoPlace pmI_NoPlace cdI_NoPlace ctI_NoPlace : Value}
    {nm_NoHandle q_NoHandle : Str} {N_NoHandle : Addr} {bs_NoHandle bm_NoHandle : List Value} {sn_NoHandle : List Str} {sub_NoHandle : List Value} {ab_NoHandle : Bool} {col_NoHandle : Option Bool} {dd_NoHandle : Option Addr} {g0_NoHandle g1_NoHandle g2_NoHandle g3_NoHandle g5_NoHandle : Option Value}
    {fI_NoHandle : Addr} {odI_NoHandle anI_NoHandle : Option Addr} {slI_NoHandle : Array (Option Value)} {ocI_NoHandle kVI_NoHandle dcI_NoHandle pmI_NoHandle cdI_NoHandle ctI_NoHandle : Value}
    {fM_HandleTree_give_handles : Addr} {odM_HandleTree_give_handles anM_HandleTree_give_handles : Option Addr} {slM_HandleTree_give_handles : Array (Option Value)} {ocM_HandleTree_give_handles kVM_HandleTree_give_handles dcM_HandleTree_give_handles pmM_HandleTree_give_handles cdM_HandleTree_give_handles ctM_HandleTree_give_handles : Value}
    {fM_HandleTree_plant : Addr} {odM_HandleTree_plant anM_HandleTree_plant : Option Addr} {slM_HandleTree_plant : Array (Option Value)} {ocM_HandleTree_plant kVM_HandleTree_plant dcM_HandleTree_plant pmM_HandleTree_plant cdM_HandleTree_plant ctM_HandleTree_plant : Value}
    {fM_HandleTree_init : Addr} {odM_HandleTree_init anM_HandleTree_init : Option Addr} {slM_HandleTree_init : Array (Option Value)} {ocM_HandleTree_init kVM_HandleTree_init dcM_HandleTree_init pmM_HandleTree_init cdM_HandleTree_init ctM_HandleTree_init : Value}
    {fM_HandleTree_value : Addr} {odM_HandleTree_value anM_HandleTree_value : Option Addr} {slM_HandleTree_value : Array (Option Value)} {ocM_HandleTree_value kVM_HandleTree_value dcM_HandleTree_value pmM_HandleTree_value cdM_HandleTree_value ctM_HandleTree_value : Value}
    {fM_HandleTree_given : Addr} {odM_HandleTree_given anM_HandleTree_given : Option Addr} {slM_HandleTree_given : Array (Option Value)} {ocM_HandleTree_given kVM_HandleTree_given dcM_HandleTree_given pmM_HandleTree_given cdM_HandleTree_given ctM_HandleTree_given : Value}
    {fM_HandleTree_acts : Addr} {odM_HandleTree_acts anM_HandleTree_acts : Option Addr} {slM_HandleTree_acts : Array (Option Value)} {ocM_HandleTree_acts kVM_HandleTree_acts dcM_HandleTree_acts pmM_HandleTree_acts cdM_HandleTree_acts ctM_HandleTree_acts : Value}
    {fM_HandleTree_gone : Addr} {odM_HandleTree_gone anM_HandleTree_gone : Option Addr} {slM_HandleTree_gone : Array (Option Value)} {ocM_HandleTree_gone kVM_HandleTree_gone dcM_HandleTree_gone pmM_HandleTree_gone cdM_HandleTree_gone ctM_HandleTree_gone : Value}
    {fM_HandleTree_handles : Addr} {odM_HandleTree_handles anM_HandleTree_handles : Option Addr} {slM_HandleTree_handles : Array (Option Value)} {ocM_HandleTree_handles kVM_HandleTree_handles dcM_HandleTree_handles pmM_HandleTree_handles cdM_HandleTree_handles ctM_HandleTree_handles : Value}
    {fM_HandleTree_handle_of : Addr} {odM_HandleTree_handle_of anM_HandleTree_handle_of : Option Addr} {slM_HandleTree_handle_of : Array (Option Value)} {ocM_HandleTree_handle_of kVM_HandleTree_handle_of dcM_HandleTree_handle_of pmM_HandleTree_handle_of cdM_HandleTree_handle_of ctM_HandleTree_handle_of : Value}
    {fM_HandleTree_path_of : Addr} {odM_HandleTree_path_of anM_HandleTree_path_of : Option Addr} {slM_HandleTree_path_of : Array (Option Value)} {ocM_HandleTree_path_of kVM_HandleTree_path_of dcM_HandleTree_path_of pmM_HandleTree_path_of cdM_HandleTree_path_of ctM_HandleTree_path_of : Value}
    {fM_HandleTree_tag : Addr} {odM_HandleTree_tag anM_HandleTree_tag : Option Addr} {slM_HandleTree_tag : Array (Option Value)} {ocM_HandleTree_tag kVM_HandleTree_tag dcM_HandleTree_tag pmM_HandleTree_tag cdM_HandleTree_tag ctM_HandleTree_tag : Value}
    {fM_HandleTree_many : Addr} {odM_HandleTree_many anM_HandleTree_many : Option Addr} {slM_HandleTree_many : Array (Option Value)} {ocM_HandleTree_many kVM_HandleTree_many dcM_HandleTree_many pmM_HandleTree_many cdM_HandleTree_many ctM_HandleTree_many : Value}
    {fM_HandleTree_tag_by : Addr} {odM_HandleTree_tag_by anM_HandleTree_tag_by : Option Addr} {slM_HandleTree_tag_by : Array (Option Value)} {ocM_HandleTree_tag_by kVM_HandleTree_tag_by dcM_HandleTree_tag_by pmM_HandleTree_tag_by cdM_HandleTree_tag_by ctM_HandleTree_tag_by : Value}
    {fM_HandleTree_above : Addr} {odM_HandleTree_above anM_HandleTree_above : Option Addr} {slM_HandleTree_above : Array (Option Value)} {ocM_HandleTree_above kVM_HandleTree_above dcM_HandleTree_above pmM_HandleTree_above cdM_HandleTree_above ctM_HandleTree_above : Value}
    {fM_HandleTree_below : Addr} {odM_HandleTree_below anM_HandleTree_below : Option Addr} {slM_HandleTree_below : Array (Option Value)} {ocM_HandleTree_below kVM_HandleTree_below dcM_HandleTree_below pmM_HandleTree_below cdM_HandleTree_below ctM_HandleTree_below : Value}
    (a1 : PySem.W.nsIn K mainGlobals "is_count" = some (some (.ref f1)))
    (l1 : K.lookup f1 = some ⟨oc1, od1, .func (PySem.W.fnOf "is_count" "is_count" (defArgs sIsCount) (defBody sIsCount) (defScope sIsCount) .none kV1 dc1 pm1 an1 cd1 ct1), sl1⟩)
    (c1 : PySem.W.codeIn K cd1 "is_count" = true)
    (k1 : PySem.W.keepIn K (.ref f1) = true)
    (a2 : PySem.W.nsIn K mainGlobals "is_number" = some (some (.ref f2)))
    (l2 : K.lookup f2 = some ⟨oc2, od2, .func (PySem.W.fnOf "is_number" "is_number" (defArgs sIsNumber) (defBody sIsNumber) (defScope sIsNumber) .none kV2 dc2 pm2 an2 cd2 ct2), sl2⟩)
    (c2 : PySem.W.codeIn K cd2 "is_number" = true)
    (k2 : PySem.W.keepIn K (.ref f2) = true)
    (a3 : PySem.W.nsIn K mainGlobals "is_tag" = some (some (.ref f3)))
    (l3 : K.lookup f3 = some ⟨oc3, od3, .func (PySem.W.fnOf "is_tag" "is_tag" (defArgs sIsTag) (defBody sIsTag) (defScope sIsTag) .none kV3 dc3 pm3 an3 cd3 ct3), sl3⟩)
    (c3 : PySem.W.codeIn K cd3 "is_tag" = true)
    (k3 : PySem.W.keepIn K (.ref f3) = true)
    (a4 : PySem.W.nsIn K mainGlobals "is_tag_and_kids" = some (some (.ref f4)))
    (l4 : K.lookup f4 = some ⟨oc4, od4, .func (PySem.W.fnOf "is_tag_and_kids" "is_tag_and_kids" (defArgs sTagKids) (defBody sTagKids) (defScope sTagKids) .none kV4 dc4 pm4 an4 cd4 ct4), sl4⟩)
    (c4 : PySem.W.codeIn K cd4 "is_tag_and_kids" = true)
    (k4 : PySem.W.keepIn K (.ref f4) = true)
    (a5 : PySem.W.nsIn K mainGlobals "room_behind" = some (some (.ref f5)))
    (l5 : K.lookup f5 = some ⟨oc5, od5, .func (PySem.W.fnOf "room_behind" "room_behind" (defArgs sRoom) (defBody sRoom) (defScope sRoom) .none kV5 dc5 pm5 an5 cd5 ct5), sl5⟩)
    (c5 : PySem.W.codeIn K cd5 "room_behind" = true)
    (k5 : PySem.W.keepIn K (.ref f5) = true)
    (a6 : PySem.W.nsIn K mainGlobals "is_tree" = some (some (.ref f6)))
    (l6 : K.lookup f6 = some ⟨oc6, od6, .func (PySem.W.fnOf "is_tree" "is_tree" (defArgs sIsTree) (defBody sIsTree) (defScope sIsTree) .none kV6 dc6 pm6 an6 cd6 ct6), sl6⟩)
    (c6 : PySem.W.codeIn K cd6 "is_tree" = true)
    (k6 : PySem.W.keepIn K (.ref f6) = true)
    (a7 : PySem.W.nsIn K mainGlobals "check_tree" = some (some (.ref f7)))
    (l7 : K.lookup f7 = some ⟨oc7, od7, .func (PySem.W.fnOf "check_tree" "check_tree" (defArgs sChkTree) (defBody sChkTree) (defScope sChkTree) .none kV7 dc7 pm7 an7 cd7 ct7), sl7⟩)
    (c7 : PySem.W.codeIn K cd7 "check_tree" = true)
    (k7 : PySem.W.keepIn K (.ref f7) = true)
    (a8 : PySem.W.nsIn K mainGlobals "_law_next" = some (some (.ref f8)))
    (l8 : K.lookup f8 = some ⟨oc8, od8, .func (PySem.W.fnOf "_law_next" "_law_next" (defArgs sNext) (defBody sNext) (defScope sNext) .none kV8 dc8 pm8 an8 cd8 ct8), sl8⟩)
    (c8 : PySem.W.codeIn K cd8 "_law_next" = true)
    (k8 : PySem.W.keepIn K (.ref f8) = true)
    (a9 : PySem.W.nsIn K mainGlobals "_law_state" = some (some (.ref f9)))
    (l9 : K.lookup f9 = some ⟨oc9, od9, .func (PySem.W.fnOf "_law_state" "_law_state" (defArgs sState) (defBody sState) (defScope sState) .none kV9 dc9 pm9 an9 cd9 ct9), sl9⟩)
    (c9 : PySem.W.codeIn K cd9 "_law_state" = true)
    (k9 : PySem.W.keepIn K (.ref f9) = true)
    (a10 : PySem.W.nsIn K mainGlobals "_law_tree" = some (some (.ref f10)))
    (l10 : K.lookup f10 = some ⟨oc10, od10, .func (PySem.W.fnOf "_law_tree" "_law_tree" (defArgs sTreeL) (defBody sTreeL) (defScope sTreeL) .none kV10 dc10 pm10 an10 cd10 ct10), sl10⟩)
    (c10 : PySem.W.codeIn K cd10 "_law_tree" = true)
    (k10 : PySem.W.keepIn K (.ref f10) = true)
    (a11 : PySem.W.nsIn K mainGlobals "_law_alike" = some (some (.ref f11)))
    (l11 : K.lookup f11 = some ⟨oc11, od11, .func (PySem.W.fnOf "_law_alike" "_law_alike" (defArgs sAlike) (defBody sAlike) (defScope sAlike) .none kV11 dc11 pm11 an11 cd11 ct11), sl11⟩)
    (c11 : PySem.W.codeIn K cd11 "_law_alike" = true)
    (k11 : PySem.W.keepIn K (.ref f11) = true)
    (a12 : PySem.W.nsIn K mainGlobals "count_places" = some (some (.ref f12)))
    (l12 : K.lookup f12 = some ⟨oc12, od12, .func (PySem.W.fnOf "count_places" "count_places" (defArgs sCntPlaces) (defBody sCntPlaces) (defScope sCntPlaces) .none kV12 dc12 pm12 an12 cd12 ct12), sl12⟩)
    (c12 : PySem.W.codeIn K cd12 "count_places" = true)
    (k12 : PySem.W.keepIn K (.ref f12) = true)
    (a13 : PySem.W.nsIn K mainGlobals "count_levels" = some (some (.ref f13)))
    (l13 : K.lookup f13 = some ⟨oc13, od13, .func (PySem.W.fnOf "count_levels" "count_levels" (defArgs sCntLevels) (defBody sCntLevels) (defScope sCntLevels) .none kV13 dc13 pm13 an13 cd13 ct13), sl13⟩)
    (c13 : PySem.W.codeIn K cd13 "count_levels" = true)
    (k13 : PySem.W.keepIn K (.ref f13) = true)
    (a14 : PySem.W.nsIn K mainGlobals "part_at" = some (some (.ref f14)))
    (l14 : K.lookup f14 = some ⟨oc14, od14, .func (PySem.W.fnOf "part_at" "part_at" (defArgs sPartAt) (defBody sPartAt) (defScope sPartAt) .none kV14 dc14 pm14 an14 cd14 ct14), sl14⟩)
    (c14 : PySem.W.codeIn K cd14 "part_at" = true)
    (k14 : PySem.W.keepIn K (.ref f14) = true)
    (a15 : PySem.W.nsIn K mainGlobals "_law_reach" = some (some (.ref f15)))
    (l15 : K.lookup f15 = some ⟨oc15, od15, .func (PySem.W.fnOf "_law_reach" "_law_reach" (defArgs sReach) (defBody sReach) (defScope sReach) .none kV15 dc15 pm15 an15 cd15 ct15), sl15⟩)
    (c15 : PySem.W.codeIn K cd15 "_law_reach" = true)
    (k15 : PySem.W.keepIn K (.ref f15) = true)
    (a16 : PySem.W.nsIn K mainGlobals "paths_from" = some (some (.ref f16)))
    (l16 : K.lookup f16 = some ⟨oc16, od16, .func (PySem.W.fnOf "paths_from" "paths_from" (defArgs sPathsF) (defBody sPathsF) (defScope sPathsF) .none kV16 dc16 pm16 an16 cd16 ct16), sl16⟩)
    (c16 : PySem.W.codeIn K cd16 "paths_from" = true)
    (k16 : PySem.W.keepIn K (.ref f16) = true)
    (a17 : PySem.W.nsIn K mainGlobals "_law_places" = some (some (.ref f17)))
    (l17 : K.lookup f17 = some ⟨oc17, od17, .func (PySem.W.fnOf "_law_places" "_law_places" (defArgs sPlaces) (defBody sPlaces) (defScope sPlaces) .none kV17 dc17 pm17 an17 cd17 ct17), sl17⟩)
    (c17 : PySem.W.codeIn K cd17 "_law_places" = true)
    (k17 : PySem.W.keepIn K (.ref f17) = true)
    (a18 : PySem.W.nsIn K mainGlobals "is_path" = some (some (.ref f18)))
    (l18 : K.lookup f18 = some ⟨oc18, od18, .func (PySem.W.fnOf "is_path" "is_path" (defArgs sIsPath) (defBody sIsPath) (defScope sIsPath) .none kV18 dc18 pm18 an18 cd18 ct18), sl18⟩)
    (c18 : PySem.W.codeIn K cd18 "is_path" = true)
    (k18 : PySem.W.keepIn K (.ref f18) = true)
    (a19 : PySem.W.nsIn K mainGlobals "check_path" = some (some (.ref f19)))
    (l19 : K.lookup f19 = some ⟨oc19, od19, .func (PySem.W.fnOf "check_path" "check_path" (defArgs sChkPath) (defBody sChkPath) (defScope sChkPath) .none kV19 dc19 pm19 an19 cd19 ct19), sl19⟩)
    (c19 : PySem.W.codeIn K cd19 "check_path" = true)
    (k19 : PySem.W.keepIn K (.ref f19) = true)
    (a20 : PySem.W.nsIn K mainGlobals "check_place" = some (some (.ref f20)))
    (l20 : K.lookup f20 = some ⟨oc20, od20, .func (PySem.W.fnOf "check_place" "check_place" (defArgs sChkPl) (defBody sChkPl) (defScope sChkPl) .none kV20 dc20 pm20 an20 cd20 ct20), sl20⟩)
    (c20 : PySem.W.codeIn K cd20 "check_place" = true)
    (k20 : PySem.W.keepIn K (.ref f20) = true)
    (a21 : PySem.W.nsIn K mainGlobals "is_within" = some (some (.ref f21)))
    (l21 : K.lookup f21 = some ⟨oc21, od21, .func (PySem.W.fnOf "is_within" "is_within" (defArgs sWithin) (defBody sWithin) (defScope sWithin) .none kV21 dc21 pm21 an21 cd21 ct21), sl21⟩)
    (c21 : PySem.W.codeIn K cd21 "is_within" = true)
    (k21 : PySem.W.keepIn K (.ref f21) = true)
    (a22 : PySem.W.nsIn K mainGlobals "part_of" = some (some (.ref f22)))
    (l22 : K.lookup f22 = some ⟨oc22, od22, .func (PySem.W.fnOf "part_of" "part_of" (defArgs sPtOf) (defBody sPtOf) (defScope sPtOf) .none kV22 dc22 pm22 an22 cd22 ct22), sl22⟩)
    (c22 : PySem.W.codeIn K cd22 "part_of" = true)
    (k22 : PySem.W.keepIn K (.ref f22) = true)
    (a23 : PySem.W.nsIn K mainGlobals "_law_told" = some (some (.ref f23)))
    (l23 : K.lookup f23 = some ⟨oc23, od23, .func (PySem.W.fnOf "_law_told" "_law_told" (defArgs sTold) (defBody sTold) (defScope sTold) .none kV23 dc23 pm23 an23 cd23 ct23), sl23⟩)
    (c23 : PySem.W.codeIn K cd23 "_law_told" = true)
    (k23 : PySem.W.keepIn K (.ref f23) = true)
    (a24 : PySem.W.nsIn K mainGlobals "_law_refused_so" = some (some (.ref f24)))
    (l24 : K.lookup f24 = some ⟨oc24, od24, .func (PySem.W.fnOf "_law_refused_so" "_law_refused_so" (defArgs sRso) (defBody sRso) (defScope sRso) .none kV24 dc24 pm24 an24 cd24 ct24), sl24⟩)
    (c24 : PySem.W.codeIn K cd24 "_law_refused_so" = true)
    (k24 : PySem.W.keepIn K (.ref f24) = true)
    (a25 : PySem.W.nsIn K mainGlobals "law" = some (some (.ref f25)))
    (l25 : K.lookup f25 = some ⟨oc25, od25, .func (PySem.W.fnOf "law" "law" (defArgs sLaw) (defBody sLaw) (defScope sLaw) .none kV25 dc25 pm25 an25 cd25 ct25), sl25⟩)
    (c25 : PySem.W.codeIn K cd25 "law" = true)
    (k25 : PySem.W.keepIn K (.ref f25) = true)
    (z1 : PySem.W.nsIn K mainGlobals "isinstance" = some none)
    (z2 : PySem.W.nsIn K mainGlobals "int" = some none)
    (z3 : PySem.W.nsIn K mainGlobals "bool" = some none)
    (z4 : PySem.W.nsIn K mainGlobals "str" = some none)
    (z5 : PySem.W.nsIn K mainGlobals "tuple" = some none)
    (z6 : PySem.W.nsIn K mainGlobals "list" = some none)
    (z7 : PySem.W.nsIn K mainGlobals "len" = some none)
    (z8 : PySem.W.nsIn K mainGlobals "all" = some none)
    (z9 : PySem.W.nsIn K mainGlobals "repr" = some none)
    (z10 : PySem.W.nsIn K mainGlobals "max" = some none)
    (z11 : PySem.W.nsIn K mainGlobals "range" = some none)
    (z12 : PySem.W.nsIn K mainGlobals "enumerate" = some none)
    (z13 : PySem.W.nsIn K mainGlobals "zip" = some none)
    (z14 : PySem.W.nsIn K mainGlobals "sorted" = some none)
    (z15 : PySem.W.nsIn K mainGlobals "ValueError" = some none)
    (n1 : PySem.W.nsIn K mainGlobals "SIZE" = some (some (.int 60 t1)))
    (n2 : PySem.W.nsIn K mainGlobals "DEPTH" = some (some (.int 12 t2)))
    (n3 : PySem.W.nsIn K mainGlobals "SIGNS" = some (some (.int 8 t3)))
    (y_TreeError : PySem.W.nsIn K mainGlobals "TreeError" = some (some (.ref c_TreeError)))
    (y_NoThing : PySem.W.nsIn K mainGlobals "NoThing" = some (some (.ref c_NoThing)))
    (y_NoFit : PySem.W.nsIn K mainGlobals "NoFit" = some (some (.ref c_NoFit)))
    (y_Cut : PySem.W.nsIn K mainGlobals "Cut" = some (some (.ref c_Cut)))
    (y_NoTree : PySem.W.nsIn K mainGlobals "NoTree" = some (some (.ref c_NoTree)))
    (y_NoPath : PySem.W.nsIn K mainGlobals "NoPath" = some (some (.ref c_NoPath)))
    (y_NoDeed : PySem.W.nsIn K mainGlobals "NoDeed" = some (some (.ref c_NoDeed)))
    (y_NoHandle : PySem.W.nsIn K mainGlobals "NoHandle" = some (some (.ref c_NoHandle)))
    (y_NoPlace : PySem.W.nsIn K mainGlobals "NoPlace" = some (some (.ref c_NoPlace)))
    (y_Root : PySem.W.nsIn K mainGlobals "Root" = some (some (.ref c_Root)))
    (y_Within : PySem.W.nsIn K mainGlobals "Within" = some (some (.ref c_Within)))
    (y_TooMany : PySem.W.nsIn K mainGlobals "TooMany" = some (some (.ref c_TooMany)))
    (y_TooDeep : PySem.W.nsIn K mainGlobals "TooDeep" = some (some (.ref c_TooDeep)))
    (y_Gone : PySem.W.nsIn K mainGlobals "Gone" = some (some (.ref c_Gone)))
    (y_Stopped : PySem.W.nsIn K mainGlobals "Stopped" = some (some (.ref c_Stopped)))
    (y_Busy : PySem.W.nsIn K mainGlobals "Busy" = some (some (.ref c_Busy)))
    (y_Make : PySem.W.nsIn K mainGlobals "Make" = some (some (.ref c_Make)))
    (y_HandleTree : PySem.W.nsIn K mainGlobals "HandleTree" = some (some (.ref c_HandleTree)))
    (o1_TreeError : PySem.W.isClsIn K c_TreeError = true)
    (o2_TreeError : PySem.W.typeIn K (.ref c_TreeError) = some (.type "type"))
    (o1_NoThing : PySem.W.isClsIn K c_NoThing = true)
    (o2_NoThing : PySem.W.typeIn K (.ref c_NoThing) = some (.type "type"))
    (o1_NoFit : PySem.W.isClsIn K c_NoFit = true)
    (o2_NoFit : PySem.W.typeIn K (.ref c_NoFit) = some (.type "type"))
    (o1_Cut : PySem.W.isClsIn K c_Cut = true)
    (o2_Cut : PySem.W.typeIn K (.ref c_Cut) = some (.type "type"))
    (o1_NoTree : PySem.W.isClsIn K c_NoTree = true)
    (o2_NoTree : PySem.W.typeIn K (.ref c_NoTree) = some (.type "type"))
    (o1_NoPath : PySem.W.isClsIn K c_NoPath = true)
    (o2_NoPath : PySem.W.typeIn K (.ref c_NoPath) = some (.type "type"))
    (o1_NoDeed : PySem.W.isClsIn K c_NoDeed = true)
    (o2_NoDeed : PySem.W.typeIn K (.ref c_NoDeed) = some (.type "type"))
    (o1_NoHandle : PySem.W.isClsIn K c_NoHandle = true)
    (o2_NoHandle : PySem.W.typeIn K (.ref c_NoHandle) = some (.type "type"))
    (o1_NoPlace : PySem.W.isClsIn K c_NoPlace = true)
    (o2_NoPlace : PySem.W.typeIn K (.ref c_NoPlace) = some (.type "type"))
    (o1_Root : PySem.W.isClsIn K c_Root = true)
    (o2_Root : PySem.W.typeIn K (.ref c_Root) = some (.type "type"))
    (o1_Within : PySem.W.isClsIn K c_Within = true)
    (o2_Within : PySem.W.typeIn K (.ref c_Within) = some (.type "type"))
    (o1_TooMany : PySem.W.isClsIn K c_TooMany = true)
    (o2_TooMany : PySem.W.typeIn K (.ref c_TooMany) = some (.type "type"))
    (o1_TooDeep : PySem.W.isClsIn K c_TooDeep = true)
    (o2_TooDeep : PySem.W.typeIn K (.ref c_TooDeep) = some (.type "type"))
    (o1_Gone : PySem.W.isClsIn K c_Gone = true)
    (o2_Gone : PySem.W.typeIn K (.ref c_Gone) = some (.type "type"))
    (o1_Stopped : PySem.W.isClsIn K c_Stopped = true)
    (o2_Stopped : PySem.W.typeIn K (.ref c_Stopped) = some (.type "type"))
    (o1_Busy : PySem.W.isClsIn K c_Busy = true)
    (o2_Busy : PySem.W.typeIn K (.ref c_Busy) = some (.type "type"))
    (o1_Make : PySem.W.isClsIn K c_Make = true)
    (o2_Make : PySem.W.typeIn K (.ref c_Make) = some (.type "type"))
    (o1_HandleTree : PySem.W.isClsIn K c_HandleTree = true)
    (o2_HandleTree : PySem.W.typeIn K (.ref c_HandleTree) = some (.type "type"))
    (b1_TreeError : PySem.W.subIn K (.ref c_TreeError) (.type "BaseException") = some true)
    (b2_TreeError : PySem.W.hasDictIn K c_TreeError = true)
    (b1_NoTree : PySem.W.subIn K (.ref c_NoTree) (.type "BaseException") = some true)
    (b2_NoTree : PySem.W.hasDictIn K c_NoTree = true)
    (hnG : PySem.W.specialIn K (.builtin "object.__class__") "__get__" = some (some (.builtin "getset_descriptor.__get__")))
    (htG : PySem.W.takesIn K (.builtin "object.__class__") = some true)
    (w_NoTreeg : PySem.W.findIn K (.ref c_NoTree) "__getattribute__" = some (some (.builtin "BaseException.__getattribute__")))
    (w_NoTreek : PySem.W.findIn K (.ref c_NoTree) "__getattr__" = some none)
    (w_NoTrees : PySem.W.subIn K (.ref c_NoTree) (.type "BaseException") = some true)
    (w_NoTreed : PySem.W.hasDictIn K c_NoTree = true)
    (w_NoTreea : PySem.W.findIn K (.ref c_NoTree) "__class__" = some (some (.builtin "object.__class__")))
    (w_NoTreem : PySem.W.mroIn K c_NoTree (.type "object") = some true)
    (w_NoTreev : PySem.W.subIn K (.ref c_NoTree) (.type "ValueError") = some true)
    (w_NoTree_TreeError : PySem.W.subIn K (.ref c_NoTree) (.ref c_TreeError) = some true)
    (w_NoTree_NoThing : PySem.W.subIn K (.ref c_NoTree) (.ref c_NoThing) = some true)
    (w_NoTree_NoFit : PySem.W.subIn K (.ref c_NoTree) (.ref c_NoFit) = some false)
    (w_NoTree_Cut : PySem.W.subIn K (.ref c_NoTree) (.ref c_Cut) = some false)
    (w_NoTree_NoTree : PySem.W.subIn K (.ref c_NoTree) (.ref c_NoTree) = some true)
    (w_NoTree_NoPath : PySem.W.subIn K (.ref c_NoTree) (.ref c_NoPath) = some false)
    (w_NoTree_NoDeed : PySem.W.subIn K (.ref c_NoTree) (.ref c_NoDeed) = some false)
    (w_NoTree_NoHandle : PySem.W.subIn K (.ref c_NoTree) (.ref c_NoHandle) = some false)
    (w_NoTree_NoPlace : PySem.W.subIn K (.ref c_NoTree) (.ref c_NoPlace) = some false)
    (w_NoTree_Root : PySem.W.subIn K (.ref c_NoTree) (.ref c_Root) = some false)
    (w_NoTree_Within : PySem.W.subIn K (.ref c_NoTree) (.ref c_Within) = some false)
    (w_NoTree_TooMany : PySem.W.subIn K (.ref c_NoTree) (.ref c_TooMany) = some false)
    (w_NoTree_TooDeep : PySem.W.subIn K (.ref c_NoTree) (.ref c_TooDeep) = some false)
    (w_NoTree_Gone : PySem.W.subIn K (.ref c_NoTree) (.ref c_Gone) = some false)
    (w_NoTree_Stopped : PySem.W.subIn K (.ref c_NoTree) (.ref c_Stopped) = some false)
    (w_NoTree_Busy : PySem.W.subIn K (.ref c_NoTree) (.ref c_Busy) = some false)
    (w_NoTree_Make : PySem.W.subIn K (.ref c_NoTree) (.ref c_Make) = some false)
    (w_NoTree_HandleTree : PySem.W.subIn K (.ref c_NoTree) (.ref c_HandleTree) = some false)
    (x1_NoTree : PySem.W.excIn K c_NoTree [.type "ValueError", .type "Exception", .type "BaseException", .type "object"] "ValueError.__new__" = true)
    (x2_NoTree : PySem.W.keepIn K (.ref c_NoTree) = true)
    (w_NoPathg : PySem.W.findIn K (.ref c_NoPath) "__getattribute__" = some (some (.builtin "BaseException.__getattribute__")))
    (w_NoPathk : PySem.W.findIn K (.ref c_NoPath) "__getattr__" = some none)
    (w_NoPaths : PySem.W.subIn K (.ref c_NoPath) (.type "BaseException") = some true)
    (w_NoPathd : PySem.W.hasDictIn K c_NoPath = true)
    (w_NoPatha : PySem.W.findIn K (.ref c_NoPath) "__class__" = some (some (.builtin "object.__class__")))
    (w_NoPathm : PySem.W.mroIn K c_NoPath (.type "object") = some true)
    (w_NoPathv : PySem.W.subIn K (.ref c_NoPath) (.type "ValueError") = some true)
    (w_NoPath_TreeError : PySem.W.subIn K (.ref c_NoPath) (.ref c_TreeError) = some true)
    (w_NoPath_NoThing : PySem.W.subIn K (.ref c_NoPath) (.ref c_NoThing) = some true)
    (w_NoPath_NoFit : PySem.W.subIn K (.ref c_NoPath) (.ref c_NoFit) = some false)
    (w_NoPath_Cut : PySem.W.subIn K (.ref c_NoPath) (.ref c_Cut) = some false)
    (w_NoPath_NoTree : PySem.W.subIn K (.ref c_NoPath) (.ref c_NoTree) = some false)
    (w_NoPath_NoPath : PySem.W.subIn K (.ref c_NoPath) (.ref c_NoPath) = some true)
    (w_NoPath_NoDeed : PySem.W.subIn K (.ref c_NoPath) (.ref c_NoDeed) = some false)
    (w_NoPath_NoHandle : PySem.W.subIn K (.ref c_NoPath) (.ref c_NoHandle) = some false)
    (w_NoPath_NoPlace : PySem.W.subIn K (.ref c_NoPath) (.ref c_NoPlace) = some false)
    (w_NoPath_Root : PySem.W.subIn K (.ref c_NoPath) (.ref c_Root) = some false)
    (w_NoPath_Within : PySem.W.subIn K (.ref c_NoPath) (.ref c_Within) = some false)
    (w_NoPath_TooMany : PySem.W.subIn K (.ref c_NoPath) (.ref c_TooMany) = some false)
    (w_NoPath_TooDeep : PySem.W.subIn K (.ref c_NoPath) (.ref c_TooDeep) = some false)
    (w_NoPath_Gone : PySem.W.subIn K (.ref c_NoPath) (.ref c_Gone) = some false)
    (w_NoPath_Stopped : PySem.W.subIn K (.ref c_NoPath) (.ref c_Stopped) = some false)
    (w_NoPath_Busy : PySem.W.subIn K (.ref c_NoPath) (.ref c_Busy) = some false)
    (w_NoPath_Make : PySem.W.subIn K (.ref c_NoPath) (.ref c_Make) = some false)
    (w_NoPath_HandleTree : PySem.W.subIn K (.ref c_NoPath) (.ref c_HandleTree) = some false)
    (x1_NoPath : PySem.W.excIn K c_NoPath [.type "ValueError", .type "Exception", .type "BaseException", .type "object"] "ValueError.__new__" = true)
    (x2_NoPath : PySem.W.keepIn K (.ref c_NoPath) = true)
    (w_NoPlaceg : PySem.W.findIn K (.ref c_NoPlace) "__getattribute__" = some (some (.builtin "BaseException.__getattribute__")))
    (w_NoPlacek : PySem.W.findIn K (.ref c_NoPlace) "__getattr__" = some none)
    (w_NoPlaces : PySem.W.subIn K (.ref c_NoPlace) (.type "BaseException") = some true)
    (w_NoPlaced : PySem.W.hasDictIn K c_NoPlace = true)
    (w_NoPlacea : PySem.W.findIn K (.ref c_NoPlace) "__class__" = some (some (.builtin "object.__class__")))
    (w_NoPlacem : PySem.W.mroIn K c_NoPlace (.type "object") = some true)
    (w_NoPlacev : PySem.W.subIn K (.ref c_NoPlace) (.type "ValueError") = some true)
    (w_NoPlace_TreeError : PySem.W.subIn K (.ref c_NoPlace) (.ref c_TreeError) = some true)
    (w_NoPlace_NoThing : PySem.W.subIn K (.ref c_NoPlace) (.ref c_NoThing) = some false)
    (w_NoPlace_NoFit : PySem.W.subIn K (.ref c_NoPlace) (.ref c_NoFit) = some true)
    (w_NoPlace_Cut : PySem.W.subIn K (.ref c_NoPlace) (.ref c_Cut) = some false)
    (w_NoPlace_NoTree : PySem.W.subIn K (.ref c_NoPlace) (.ref c_NoTree) = some false)
    (w_NoPlace_NoPath : PySem.W.subIn K (.ref c_NoPlace) (.ref c_NoPath) = some false)
    (w_NoPlace_NoDeed : PySem.W.subIn K (.ref c_NoPlace) (.ref c_NoDeed) = some false)
    (w_NoPlace_NoHandle : PySem.W.subIn K (.ref c_NoPlace) (.ref c_NoHandle) = some false)
    (w_NoPlace_NoPlace : PySem.W.subIn K (.ref c_NoPlace) (.ref c_NoPlace) = some true)
    (w_NoPlace_Root : PySem.W.subIn K (.ref c_NoPlace) (.ref c_Root) = some false)
    (w_NoPlace_Within : PySem.W.subIn K (.ref c_NoPlace) (.ref c_Within) = some false)
    (w_NoPlace_TooMany : PySem.W.subIn K (.ref c_NoPlace) (.ref c_TooMany) = some false)
    (w_NoPlace_TooDeep : PySem.W.subIn K (.ref c_NoPlace) (.ref c_TooDeep) = some false)
    (w_NoPlace_Gone : PySem.W.subIn K (.ref c_NoPlace) (.ref c_Gone) = some false)
    (w_NoPlace_Stopped : PySem.W.subIn K (.ref c_NoPlace) (.ref c_Stopped) = some false)
    (w_NoPlace_Busy : PySem.W.subIn K (.ref c_NoPlace) (.ref c_Busy) = some false)
    (w_NoPlace_Make : PySem.W.subIn K (.ref c_NoPlace) (.ref c_Make) = some false)
    (w_NoPlace_HandleTree : PySem.W.subIn K (.ref c_NoPlace) (.ref c_HandleTree) = some false)
    (xl1_NoPlace : K.lookup c_NoPlace = some (excClassObj nm_NoPlace q_NoPlace c_NoPlace N_NoPlace bs_NoPlace bm_NoPlace true sn_NoPlace sub_NoPlace ab_NoPlace col_NoPlace dd_NoPlace g0_NoPlace g1_NoPlace g2_NoPlace g3_NoPlace g5_NoPlace "ValueError.__new__"))
    (xl2_NoPlace : PySem.HandSPX.refsVE bm_NoPlace = true)
    (xl3_NoPlace : PySem.W.findIn K (.ref c_NoPlace) "__setattr__" = some (some (.builtin "object.__setattr__")))
    (xl4_NoPlace : PySem.W.keepIn K (.ref c_NoPlace) = true)
    (xl5_NoPlace : PySem.W.findIn K (.ref c_NoPlace) "__init__" = some (some (.ref fI_NoPlace)))
    (xl6_NoPlace : PySem.W.typeIn K (.ref fI_NoPlace) = some (.type "function"))
    (xl7_NoPlace : PySem.W.findIn K (.ref c_NoPlace) "path" = some none)
    (lI_NoPlace : K.lookup fI_NoPlace = some ⟨ocI_NoPlace, odI_NoPlace, .func (PySem.W.fnOf "__init__" "NoPlace.__init__" (defArgs sI_NoPlace) (defBody sI_NoPlace) (defScope sI_NoPlace) .none kVI_NoPlace dcI_NoPlace pmI_NoPlace anI_NoPlace cdI_NoPlace ctI_NoPlace), slI_NoPlace⟩)
    (cI_NoPlace : PySem.W.codeIn K cdI_NoPlace "NoPlace.__init__" = true)
    (kI_NoPlace : PySem.W.keepIn K (.ref fI_NoPlace) = true)
    (w_NoHandleg : PySem.W.findIn K (.ref c_NoHandle) "__getattribute__" = some (some (.builtin "BaseException.__getattribute__")))
    (w_NoHandlek : PySem.W.findIn K (.ref c_NoHandle) "__getattr__" = some none)
    (w_NoHandles : PySem.W.subIn K (.ref c_NoHandle) (.type "BaseException") = some true)
    (w_NoHandled : PySem.W.hasDictIn K c_NoHandle = true)
    (w_NoHandlea : PySem.W.findIn K (.ref c_NoHandle) "__class__" = some (some (.builtin "object.__class__")))
    (w_NoHandlem : PySem.W.mroIn K c_NoHandle (.type "object") = some true)
    (w_NoHandlev : PySem.W.subIn K (.ref c_NoHandle) (.type "ValueError") = some true)
    (w_NoHandle_TreeError : PySem.W.subIn K (.ref c_NoHandle) (.ref c_TreeError) = some true)
    (w_NoHandle_NoThing : PySem.W.subIn K (.ref c_NoHandle) (.ref c_NoThing) = some true)
    (w_NoHandle_NoFit : PySem.W.subIn K (.ref c_NoHandle) (.ref c_NoFit) = some false)
    (w_NoHandle_Cut : PySem.W.subIn K (.ref c_NoHandle) (.ref c_Cut) = some false)
    (w_NoHandle_NoTree : PySem.W.subIn K (.ref c_NoHandle) (.ref c_NoTree) = some false)
    (w_NoHandle_NoPath : PySem.W.subIn K (.ref c_NoHandle) (.ref c_NoPath) = some false)
    (w_NoHandle_NoDeed : PySem.W.subIn K (.ref c_NoHandle) (.ref c_NoDeed) = some false)
    (w_NoHandle_NoHandle : PySem.W.subIn K (.ref c_NoHandle) (.ref c_NoHandle) = some true)
    (w_NoHandle_NoPlace : PySem.W.subIn K (.ref c_NoHandle) (.ref c_NoPlace) = some false)
    (w_NoHandle_Root : PySem.W.subIn K (.ref c_NoHandle) (.ref c_Root) = some false)
    (w_NoHandle_Within : PySem.W.subIn K (.ref c_NoHandle) (.ref c_Within) = some false)
    (w_NoHandle_TooMany : PySem.W.subIn K (.ref c_NoHandle) (.ref c_TooMany) = some false)
    (w_NoHandle_TooDeep : PySem.W.subIn K (.ref c_NoHandle) (.ref c_TooDeep) = some false)
    (w_NoHandle_Gone : PySem.W.subIn K (.ref c_NoHandle) (.ref c_Gone) = some false)
    (w_NoHandle_Stopped : PySem.W.subIn K (.ref c_NoHandle) (.ref c_Stopped) = some false)
    (w_NoHandle_Busy : PySem.W.subIn K (.ref c_NoHandle) (.ref c_Busy) = some false)
    (w_NoHandle_Make : PySem.W.subIn K (.ref c_NoHandle) (.ref c_Make) = some false)
    (w_NoHandle_HandleTree : PySem.W.subIn K (.ref c_NoHandle) (.ref c_HandleTree) = some false)
    (xl1_NoHandle : K.lookup c_NoHandle = some (excClassObj nm_NoHandle q_NoHandle c_NoHandle N_NoHandle bs_NoHandle bm_NoHandle true sn_NoHandle sub_NoHandle ab_NoHandle col_NoHandle dd_NoHandle g0_NoHandle g1_NoHandle g2_NoHandle g3_NoHandle g5_NoHandle "ValueError.__new__"))
    (xl2_NoHandle : PySem.HandSPX.refsVE bm_NoHandle = true)
    (xl3_NoHandle : PySem.W.findIn K (.ref c_NoHandle) "__setattr__" = some (some (.builtin "object.__setattr__")))
    (xl4_NoHandle : PySem.W.keepIn K (.ref c_NoHandle) = true)
    (xl5_NoHandle : PySem.W.findIn K (.ref c_NoHandle) "__init__" = some (some (.ref fI_NoHandle)))
    (xl6_NoHandle : PySem.W.typeIn K (.ref fI_NoHandle) = some (.type "function"))
    (xl7_NoHandle : PySem.W.findIn K (.ref c_NoHandle) "handle" = some none)
    (lI_NoHandle : K.lookup fI_NoHandle = some ⟨ocI_NoHandle, odI_NoHandle, .func (PySem.W.fnOf "__init__" "NoHandle.__init__" (defArgs sI_NoHandle) (defBody sI_NoHandle) (defScope sI_NoHandle) .none kVI_NoHandle dcI_NoHandle pmI_NoHandle anI_NoHandle cdI_NoHandle ctI_NoHandle), slI_NoHandle⟩)
    (cI_NoHandle : PySem.W.codeIn K cdI_NoHandle "NoHandle.__init__" = true)
    (kI_NoHandle : PySem.W.keepIn K (.ref fI_NoHandle) = true)
    (g1_HandleTree : PySem.W.plainGet K c_HandleTree Str.empty = true)
    (g2_HandleTree : PySem.W.hasDictIn K c_HandleTree = true)
    (g3_HandleTree : PySem.W.plainOver K c_HandleTree = true)
    (g4_HandleTree : PySem.W.findIn K (.ref c_HandleTree) "__setattr__" = some (some (.builtin "object.__setattr__")))
    (g5_HandleTree : PySem.W.makesIn K c_HandleTree = true)
    (g6_HandleTree : PySem.W.keepIn K (.ref c_HandleTree) = true)
    (na_HandleTree_hearers : PySem.W.findIn K (.ref c_HandleTree) "hearers" = some none)
    (na_HandleTree_busy : PySem.W.findIn K (.ref c_HandleTree) "busy" = some none)
    (na_HandleTree_rounds : PySem.W.findIn K (.ref c_HandleTree) "rounds" = some none)
    (na_HandleTree_acted : PySem.W.findIn K (.ref c_HandleTree) "acted" = some none)
    (na_HandleTree_last : PySem.W.findIn K (.ref c_HandleTree) "last" = some none)
    (na_HandleTree_tree : PySem.W.findIn K (.ref c_HandleTree) "tree" = some none)
    (na_HandleTree_held : PySem.W.findIn K (.ref c_HandleTree) "held" = some none)
    (na_HandleTree_ends : PySem.W.findIn K (.ref c_HandleTree) "ends" = some none)
    (na_HandleTree_issued : PySem.W.findIn K (.ref c_HandleTree) "issued" = some none)
    (na_HandleTree_turns : PySem.W.findIn K (.ref c_HandleTree) "turns" = some none)
    (q1_HandleTree_give_handles : PySem.W.findIn K (.ref c_HandleTree) "give_handles" = some (some (.ref fM_HandleTree_give_handles)))
    (q2_HandleTree_give_handles : PySem.W.isFn K (.ref fM_HandleTree_give_handles) = true)
    (q3_HandleTree_give_handles : PySem.W.keepIn K (.ref fM_HandleTree_give_handles) = true)
    (q4_HandleTree_give_handles : K.lookup fM_HandleTree_give_handles = some ⟨ocM_HandleTree_give_handles, odM_HandleTree_give_handles, .func (PySem.W.fnOf "give_handles" "HandleTree.give_handles" (defArgs sHtGi) (defBody sHtGi) (defScope sHtGi) .none kVM_HandleTree_give_handles dcM_HandleTree_give_handles pmM_HandleTree_give_handles anM_HandleTree_give_handles cdM_HandleTree_give_handles ctM_HandleTree_give_handles), slM_HandleTree_give_handles⟩)
    (q5_HandleTree_give_handles : PySem.W.codeIn K cdM_HandleTree_give_handles "HandleTree.give_handles" = true)
    (q1_HandleTree_plant : PySem.W.findIn K (.ref c_HandleTree) "plant" = some (some (.ref fM_HandleTree_plant)))
    (q2_HandleTree_plant : PySem.W.isFn K (.ref fM_HandleTree_plant) = true)
    (q3_HandleTree_plant : PySem.W.keepIn K (.ref fM_HandleTree_plant) = true)
    (q4_HandleTree_plant : K.lookup fM_HandleTree_plant = some ⟨ocM_HandleTree_plant, odM_HandleTree_plant, .func (PySem.W.fnOf "plant" "HandleTree.plant" (defArgs sHtPl) (defBody sHtPl) (defScope sHtPl) .none kVM_HandleTree_plant dcM_HandleTree_plant pmM_HandleTree_plant anM_HandleTree_plant cdM_HandleTree_plant ctM_HandleTree_plant), slM_HandleTree_plant⟩)
    (q5_HandleTree_plant : PySem.W.codeIn K cdM_HandleTree_plant "HandleTree.plant" = true)
    (q1_HandleTree_init : PySem.W.findIn K (.ref c_HandleTree) "__init__" = some (some (.ref fM_HandleTree_init)))
    (q2_HandleTree_init : PySem.W.isFn K (.ref fM_HandleTree_init) = true)
    (q3_HandleTree_init : PySem.W.keepIn K (.ref fM_HandleTree_init) = true)
    (q4_HandleTree_init : K.lookup fM_HandleTree_init = some ⟨ocM_HandleTree_init, odM_HandleTree_init, .func (PySem.W.fnOf "__init__" "Make.__init__" (defArgs sMkIn) (defBody sMkIn) (defScope sMkIn) .none kVM_HandleTree_init dcM_HandleTree_init pmM_HandleTree_init anM_HandleTree_init cdM_HandleTree_init ctM_HandleTree_init), slM_HandleTree_init⟩)
    (q5_HandleTree_init : PySem.W.codeIn K cdM_HandleTree_init "Make.__init__" = true)
    (q1_HandleTree_value : PySem.W.findIn K (.ref c_HandleTree) "value" = some (some (.ref fM_HandleTree_value)))
    (q2_HandleTree_value : PySem.W.isFn K (.ref fM_HandleTree_value) = true)
    (q3_HandleTree_value : PySem.W.keepIn K (.ref fM_HandleTree_value) = true)
    (q4_HandleTree_value : K.lookup fM_HandleTree_value = some ⟨ocM_HandleTree_value, odM_HandleTree_value, .func (PySem.W.fnOf "value" "Make.value" (defArgs sMkVa) (defBody sMkVa) (defScope sMkVa) .none kVM_HandleTree_value dcM_HandleTree_value pmM_HandleTree_value anM_HandleTree_value cdM_HandleTree_value ctM_HandleTree_value), slM_HandleTree_value⟩)
    (q5_HandleTree_value : PySem.W.codeIn K cdM_HandleTree_value "Make.value" = true)
    (q1_HandleTree_given : PySem.W.findIn K (.ref c_HandleTree) "given" = some (some (.ref fM_HandleTree_given)))
    (q2_HandleTree_given : PySem.W.isFn K (.ref fM_HandleTree_given) = true)
    (q3_HandleTree_given : PySem.W.keepIn K (.ref fM_HandleTree_given) = true)
    (q4_HandleTree_given : K.lookup fM_HandleTree_given = some ⟨ocM_HandleTree_given, odM_HandleTree_given, .func (PySem.W.fnOf "given" "HandleTree.given" (defArgs sHtGv) (defBody sHtGv) (defScope sHtGv) .none kVM_HandleTree_given dcM_HandleTree_given pmM_HandleTree_given anM_HandleTree_given cdM_HandleTree_given ctM_HandleTree_given), slM_HandleTree_given⟩)
    (q5_HandleTree_given : PySem.W.codeIn K cdM_HandleTree_given "HandleTree.given" = true)
    (q1_HandleTree_acts : PySem.W.findIn K (.ref c_HandleTree) "acts" = some (some (.ref fM_HandleTree_acts)))
    (q2_HandleTree_acts : PySem.W.isFn K (.ref fM_HandleTree_acts) = true)
    (q3_HandleTree_acts : PySem.W.keepIn K (.ref fM_HandleTree_acts) = true)
    (q4_HandleTree_acts : K.lookup fM_HandleTree_acts = some ⟨ocM_HandleTree_acts, odM_HandleTree_acts, .func (PySem.W.fnOf "acts" "HandleTree.acts" (defArgs sHtAc) (defBody sHtAc) (defScope sHtAc) .none kVM_HandleTree_acts dcM_HandleTree_acts pmM_HandleTree_acts anM_HandleTree_acts cdM_HandleTree_acts ctM_HandleTree_acts), slM_HandleTree_acts⟩)
    (q5_HandleTree_acts : PySem.W.codeIn K cdM_HandleTree_acts "HandleTree.acts" = true)
    (q1_HandleTree_gone : PySem.W.findIn K (.ref c_HandleTree) "gone" = some (some (.ref fM_HandleTree_gone)))
    (q2_HandleTree_gone : PySem.W.isFn K (.ref fM_HandleTree_gone) = true)
    (q3_HandleTree_gone : PySem.W.keepIn K (.ref fM_HandleTree_gone) = true)
    (q4_HandleTree_gone : K.lookup fM_HandleTree_gone = some ⟨ocM_HandleTree_gone, odM_HandleTree_gone, .func (PySem.W.fnOf "gone" "HandleTree.gone" (defArgs sHtGo) (defBody sHtGo) (defScope sHtGo) .none kVM_HandleTree_gone dcM_HandleTree_gone pmM_HandleTree_gone anM_HandleTree_gone cdM_HandleTree_gone ctM_HandleTree_gone), slM_HandleTree_gone⟩)
    (q5_HandleTree_gone : PySem.W.codeIn K cdM_HandleTree_gone "HandleTree.gone" = true)
    (q1_HandleTree_handles : PySem.W.findIn K (.ref c_HandleTree) "handles" = some (some (.ref fM_HandleTree_handles)))
    (q2_HandleTree_handles : PySem.W.isFn K (.ref fM_HandleTree_handles) = true)
    (q3_HandleTree_handles : PySem.W.keepIn K (.ref fM_HandleTree_handles) = true)
    (q4_HandleTree_handles : K.lookup fM_HandleTree_handles = some ⟨ocM_HandleTree_handles, odM_HandleTree_handles, .func (PySem.W.fnOf "handles" "HandleTree.handles" (defArgs sHtHs) (defBody sHtHs) (defScope sHtHs) .none kVM_HandleTree_handles dcM_HandleTree_handles pmM_HandleTree_handles anM_HandleTree_handles cdM_HandleTree_handles ctM_HandleTree_handles), slM_HandleTree_handles⟩)
    (q5_HandleTree_handles : PySem.W.codeIn K cdM_HandleTree_handles "HandleTree.handles" = true)
    (q1_HandleTree_handle_of : PySem.W.findIn K (.ref c_HandleTree) "handle_of" = some (some (.ref fM_HandleTree_handle_of)))
    (q2_HandleTree_handle_of : PySem.W.isFn K (.ref fM_HandleTree_handle_of) = true)
    (q3_HandleTree_handle_of : PySem.W.keepIn K (.ref fM_HandleTree_handle_of) = true)
    (q4_HandleTree_handle_of : K.lookup fM_HandleTree_handle_of = some ⟨ocM_HandleTree_handle_of, odM_HandleTree_handle_of, .func (PySem.W.fnOf "handle_of" "HandleTree.handle_of" (defArgs sHtHo) (defBody sHtHo) (defScope sHtHo) .none kVM_HandleTree_handle_of dcM_HandleTree_handle_of pmM_HandleTree_handle_of anM_HandleTree_handle_of cdM_HandleTree_handle_of ctM_HandleTree_handle_of), slM_HandleTree_handle_of⟩)
    (q5_HandleTree_handle_of : PySem.W.codeIn K cdM_HandleTree_handle_of "HandleTree.handle_of" = true)
    (q1_HandleTree_path_of : PySem.W.findIn K (.ref c_HandleTree) "path_of" = some (some (.ref fM_HandleTree_path_of)))
    (q2_HandleTree_path_of : PySem.W.isFn K (.ref fM_HandleTree_path_of) = true)
    (q3_HandleTree_path_of : PySem.W.keepIn K (.ref fM_HandleTree_path_of) = true)
    (q4_HandleTree_path_of : K.lookup fM_HandleTree_path_of = some ⟨ocM_HandleTree_path_of, odM_HandleTree_path_of, .func (PySem.W.fnOf "path_of" "HandleTree.path_of" (defArgs sHtPo) (defBody sHtPo) (defScope sHtPo) .none kVM_HandleTree_path_of dcM_HandleTree_path_of pmM_HandleTree_path_of anM_HandleTree_path_of cdM_HandleTree_path_of ctM_HandleTree_path_of), slM_HandleTree_path_of⟩)
    (q5_HandleTree_path_of : PySem.W.codeIn K cdM_HandleTree_path_of "HandleTree.path_of" = true)
    (q1_HandleTree_tag : PySem.W.findIn K (.ref c_HandleTree) "tag" = some (some (.ref fM_HandleTree_tag)))
    (q2_HandleTree_tag : PySem.W.isFn K (.ref fM_HandleTree_tag) = true)
    (q3_HandleTree_tag : PySem.W.keepIn K (.ref fM_HandleTree_tag) = true)
    (q4_HandleTree_tag : K.lookup fM_HandleTree_tag = some ⟨ocM_HandleTree_tag, odM_HandleTree_tag, .func (PySem.W.fnOf "tag" "Make.tag" (defArgs sMkTg) (defBody sMkTg) (defScope sMkTg) .none kVM_HandleTree_tag dcM_HandleTree_tag pmM_HandleTree_tag anM_HandleTree_tag cdM_HandleTree_tag ctM_HandleTree_tag), slM_HandleTree_tag⟩)
    (q5_HandleTree_tag : PySem.W.codeIn K cdM_HandleTree_tag "Make.tag" = true)
    (q1_HandleTree_many : PySem.W.findIn K (.ref c_HandleTree) "many" = some (some (.ref fM_HandleTree_many)))
    (q2_HandleTree_many : PySem.W.isFn K (.ref fM_HandleTree_many) = true)
    (q3_HandleTree_many : PySem.W.keepIn K (.ref fM_HandleTree_many) = true)
    (q4_HandleTree_many : K.lookup fM_HandleTree_many = some ⟨ocM_HandleTree_many, odM_HandleTree_many, .func (PySem.W.fnOf "many" "Make.many" (defArgs sMkMn) (defBody sMkMn) (defScope sMkMn) .none kVM_HandleTree_many dcM_HandleTree_many pmM_HandleTree_many anM_HandleTree_many cdM_HandleTree_many ctM_HandleTree_many), slM_HandleTree_many⟩)
    (q5_HandleTree_many : PySem.W.codeIn K cdM_HandleTree_many "Make.many" = true)
    (q1_HandleTree_tag_by : PySem.W.findIn K (.ref c_HandleTree) "tag_by" = some (some (.ref fM_HandleTree_tag_by)))
    (q2_HandleTree_tag_by : PySem.W.isFn K (.ref fM_HandleTree_tag_by) = true)
    (q3_HandleTree_tag_by : PySem.W.keepIn K (.ref fM_HandleTree_tag_by) = true)
    (q4_HandleTree_tag_by : K.lookup fM_HandleTree_tag_by = some ⟨ocM_HandleTree_tag_by, odM_HandleTree_tag_by, .func (PySem.W.fnOf "tag_by" "HandleTree.tag_by" (defArgs sHtTb) (defBody sHtTb) (defScope sHtTb) .none kVM_HandleTree_tag_by dcM_HandleTree_tag_by pmM_HandleTree_tag_by anM_HandleTree_tag_by cdM_HandleTree_tag_by ctM_HandleTree_tag_by), slM_HandleTree_tag_by⟩)
    (q5_HandleTree_tag_by : PySem.W.codeIn K cdM_HandleTree_tag_by "HandleTree.tag_by" = true)
    (q1_HandleTree_above : PySem.W.findIn K (.ref c_HandleTree) "above" = some (some (.ref fM_HandleTree_above)))
    (q2_HandleTree_above : PySem.W.isFn K (.ref fM_HandleTree_above) = true)
    (q3_HandleTree_above : PySem.W.keepIn K (.ref fM_HandleTree_above) = true)
    (q4_HandleTree_above : K.lookup fM_HandleTree_above = some ⟨ocM_HandleTree_above, odM_HandleTree_above, .func (PySem.W.fnOf "above" "HandleTree.above" (defArgs sHtAb) (defBody sHtAb) (defScope sHtAb) .none kVM_HandleTree_above dcM_HandleTree_above pmM_HandleTree_above anM_HandleTree_above cdM_HandleTree_above ctM_HandleTree_above), slM_HandleTree_above⟩)
    (q5_HandleTree_above : PySem.W.codeIn K cdM_HandleTree_above "HandleTree.above" = true)
    (q1_HandleTree_below : PySem.W.findIn K (.ref c_HandleTree) "below" = some (some (.ref fM_HandleTree_below)))
    (q2_HandleTree_below : PySem.W.isFn K (.ref fM_HandleTree_below) = true)
    (q3_HandleTree_below : PySem.W.keepIn K (.ref fM_HandleTree_below) = true)
    (q4_HandleTree_below : K.lookup fM_HandleTree_below = some ⟨ocM_HandleTree_below, odM_HandleTree_below, .func (PySem.W.fnOf "below" "HandleTree.below" (defArgs sHtBe) (defBody sHtBe) (defScope sHtBe) .none kVM_HandleTree_below dcM_HandleTree_below pmM_HandleTree_below anM_HandleTree_below cdM_HandleTree_below ctM_HandleTree_below), slM_HandleTree_below⟩)
    (q5_HandleTree_below : PySem.W.codeIn K cdM_HandleTree_below "HandleTree.below" = true)
    {s₁ : Shared} {base : Heap} {H : Hp} {a : Addr} {ns : List Int} (hlen : ns.length ≤ 63) (hS : SqL K H a (ns.map V.int)) (e0 : Env0 P w K mg base callerA [] s₁ H) :
    codeAny (model P w) callerA (.call (.ref fa) ⟨[.ref a], []⟩) (CR CX0 [] P w H s₁ (fun v _ => v = V.bl true) fun _ _ _ => False) s₁ := by
  have T : Bl mg := ⟨PySem.W.mg_none_of X G z1, PySem.W.mg_none_of X G z2, PySem.W.mg_none_of X G z3, PySem.W.mg_none_of X G z4, PySem.W.mg_none_of X G z5, PySem.W.mg_none_of X G z6, PySem.W.mg_none_of X G z7, PySem.W.mg_none_of X G z8, PySem.W.mg_none_of X G z9, PySem.W.mg_none_of X G z10, PySem.W.mg_none_of X G z11, PySem.W.mg_none_of X G z12⟩
  have cSIZE : ∃ t, mg "SIZE" = some (.int 60 t) := ⟨_, PySem.W.mg_of X G n1⟩
  have cDEPTH : ∃ t, mg "DEPTH" = some (.int 12 t) := ⟨_, PySem.W.mg_of X G n2⟩
  have cSIGNS : ∃ t, mg "SIGNS" = some (.int 8 t) := ⟨_, PySem.W.mg_of X G n3⟩
  have z_zip : mg "zip" = none := PySem.W.mg_none_of X G z13
  have z_sorted : mg "sorted" = none := PySem.W.mg_none_of X G z14
  have z_ValueError : mg "ValueError" = none := PySem.W.mg_none_of X G z15
  have cl_HandleTree : L2.Cls K c_HandleTree := ⟨g1_HandleTree, g2_HandleTree, g3_HandleTree, g4_HandleTree⟩
  have fn_HandleTree_give_handles := fun_mk (st := sHtGi) q4_HandleTree_give_handles q5_HandleTree_give_handles q3_HandleTree_give_handles
  have me_HandleTree_give_handles : L2.Meth K c_HandleTree "give_handles" fM_HandleTree_give_handles := ⟨q1_HandleTree_give_handles, q2_HandleTree_give_handles, q3_HandleTree_give_handles⟩
  have fn_HandleTree_plant := fun_mk (st := sHtPl) q4_HandleTree_plant q5_HandleTree_plant q3_HandleTree_plant
  have me_HandleTree_plant : L2.Meth K c_HandleTree "plant" fM_HandleTree_plant := ⟨q1_HandleTree_plant, q2_HandleTree_plant, q3_HandleTree_plant⟩
  have fn_HandleTree_init := fun_mk (st := sMkIn) q4_HandleTree_init q5_HandleTree_init q3_HandleTree_init
  have me_HandleTree_init : L2.Meth K c_HandleTree "__init__" fM_HandleTree_init := ⟨q1_HandleTree_init, q2_HandleTree_init, q3_HandleTree_init⟩
  have fn_HandleTree_value := fun_mk (st := sMkVa) q4_HandleTree_value q5_HandleTree_value q3_HandleTree_value
  have me_HandleTree_value : L2.Meth K c_HandleTree "value" fM_HandleTree_value := ⟨q1_HandleTree_value, q2_HandleTree_value, q3_HandleTree_value⟩
  have fn_HandleTree_given := fun_mk (st := sHtGv) q4_HandleTree_given q5_HandleTree_given q3_HandleTree_given
  have me_HandleTree_given : L2.Meth K c_HandleTree "given" fM_HandleTree_given := ⟨q1_HandleTree_given, q2_HandleTree_given, q3_HandleTree_given⟩
  have fn_HandleTree_acts := fun_mk (st := sHtAc) q4_HandleTree_acts q5_HandleTree_acts q3_HandleTree_acts
  have me_HandleTree_acts : L2.Meth K c_HandleTree "acts" fM_HandleTree_acts := ⟨q1_HandleTree_acts, q2_HandleTree_acts, q3_HandleTree_acts⟩
  have fn_HandleTree_gone := fun_mk (st := sHtGo) q4_HandleTree_gone q5_HandleTree_gone q3_HandleTree_gone
  have me_HandleTree_gone : L2.Meth K c_HandleTree "gone" fM_HandleTree_gone := ⟨q1_HandleTree_gone, q2_HandleTree_gone, q3_HandleTree_gone⟩
  have fn_HandleTree_handles := fun_mk (st := sHtHs) q4_HandleTree_handles q5_HandleTree_handles q3_HandleTree_handles
  have me_HandleTree_handles : L2.Meth K c_HandleTree "handles" fM_HandleTree_handles := ⟨q1_HandleTree_handles, q2_HandleTree_handles, q3_HandleTree_handles⟩
  have fn_HandleTree_handle_of := fun_mk (st := sHtHo) q4_HandleTree_handle_of q5_HandleTree_handle_of q3_HandleTree_handle_of
  have me_HandleTree_handle_of : L2.Meth K c_HandleTree "handle_of" fM_HandleTree_handle_of := ⟨q1_HandleTree_handle_of, q2_HandleTree_handle_of, q3_HandleTree_handle_of⟩
  have fn_HandleTree_path_of := fun_mk (st := sHtPo) q4_HandleTree_path_of q5_HandleTree_path_of q3_HandleTree_path_of
  have me_HandleTree_path_of : L2.Meth K c_HandleTree "path_of" fM_HandleTree_path_of := ⟨q1_HandleTree_path_of, q2_HandleTree_path_of, q3_HandleTree_path_of⟩
  have fn_HandleTree_tag := fun_mk (st := sMkTg) q4_HandleTree_tag q5_HandleTree_tag q3_HandleTree_tag
  have me_HandleTree_tag : L2.Meth K c_HandleTree "tag" fM_HandleTree_tag := ⟨q1_HandleTree_tag, q2_HandleTree_tag, q3_HandleTree_tag⟩
  have fn_HandleTree_many := fun_mk (st := sMkMn) q4_HandleTree_many q5_HandleTree_many q3_HandleTree_many
  have me_HandleTree_many : L2.Meth K c_HandleTree "many" fM_HandleTree_many := ⟨q1_HandleTree_many, q2_HandleTree_many, q3_HandleTree_many⟩
  have fn_HandleTree_tag_by := fun_mk (st := sHtTb) q4_HandleTree_tag_by q5_HandleTree_tag_by q3_HandleTree_tag_by
  have me_HandleTree_tag_by : L2.Meth K c_HandleTree "tag_by" fM_HandleTree_tag_by := ⟨q1_HandleTree_tag_by, q2_HandleTree_tag_by, q3_HandleTree_tag_by⟩
  have fn_HandleTree_above := fun_mk (st := sHtAb) q4_HandleTree_above q5_HandleTree_above q3_HandleTree_above
  have me_HandleTree_above : L2.Meth K c_HandleTree "above" fM_HandleTree_above := ⟨q1_HandleTree_above, q2_HandleTree_above, q3_HandleTree_above⟩
  have fn_HandleTree_below := fun_mk (st := sHtBe) q4_HandleTree_below q5_HandleTree_below q3_HandleTree_below
  have me_HandleTree_below : L2.Meth K c_HandleTree "below" fM_HandleTree_below := ⟨q1_HandleTree_below, q2_HandleTree_below, q3_HandleTree_below⟩
  have mk_HandleTree : L2.Mk K c_HandleTree fM_HandleTree_init := ⟨g5_HandleTree, q1_HandleTree_init, q2_HandleTree_init, g6_HandleTree⟩
  let A : Cls K mg := ⟨c_TreeError, c_NoThing, c_NoFit, c_Cut, c_NoTree, c_NoPath, c_NoDeed, c_NoHandle, c_NoPlace, c_Root, c_Within, c_TooMany, c_TooDeep, c_Gone, c_Stopped, c_Busy, c_Make, c_HandleTree, PySem.W.mg_of X G y_TreeError, PySem.W.mg_of X G y_NoThing, PySem.W.mg_of X G y_NoFit, PySem.W.mg_of X G y_Cut, PySem.W.mg_of X G y_NoTree, PySem.W.mg_of X G y_NoPath, PySem.W.mg_of X G y_NoDeed, PySem.W.mg_of X G y_NoHandle, PySem.W.mg_of X G y_NoPlace, PySem.W.mg_of X G y_Root, PySem.W.mg_of X G y_Within, PySem.W.mg_of X G y_TooMany, PySem.W.mg_of X G y_TooDeep, PySem.W.mg_of X G y_Gone, PySem.W.mg_of X G y_Stopped, PySem.W.mg_of X G y_Busy, PySem.W.mg_of X G y_Make, PySem.W.mg_of X G y_HandleTree, ⟨PySem.W.mg_of X G y_NoTree, x1_NoTree, x2_NoTree, w_NoTrees, o2_NoTree⟩, ⟨w_NoTreeg, w_NoTreek, w_NoTrees, w_NoTreed, w_NoTreea, hnG, htG, w_NoTreem⟩, kit_ve w_NoTreev, kit_sub o1_TreeError o2_TreeError w_NoTree_TreeError, kit_sub o1_NoThing o2_NoThing w_NoTree_NoThing, kit_no o1_NoFit o2_NoFit w_NoTree_NoTree w_NoTree_NoFit, kit_no o1_Cut o2_Cut w_NoTree_NoTree w_NoTree_Cut, kit_sub o1_NoTree o2_NoTree w_NoTree_NoTree, kit_no o1_NoPath o2_NoPath w_NoTree_NoTree w_NoTree_NoPath, kit_no o1_NoDeed o2_NoDeed w_NoTree_NoTree w_NoTree_NoDeed, kit_no o1_NoHandle o2_NoHandle w_NoTree_NoTree w_NoTree_NoHandle, kit_no o1_NoPlace o2_NoPlace w_NoTree_NoTree w_NoTree_NoPlace, kit_no o1_Root o2_Root w_NoTree_NoTree w_NoTree_Root, kit_no o1_Within o2_Within w_NoTree_NoTree w_NoTree_Within, kit_no o1_TooMany o2_TooMany w_NoTree_NoTree w_NoTree_TooMany, kit_no o1_TooDeep o2_TooDeep w_NoTree_NoTree w_NoTree_TooDeep, kit_no o1_Gone o2_Gone w_NoTree_NoTree w_NoTree_Gone, kit_no o1_Stopped o2_Stopped w_NoTree_NoTree w_NoTree_Stopped, kit_no o1_Busy o2_Busy w_NoTree_NoTree w_NoTree_Busy, kit_no o1_Make o2_Make w_NoTree_NoTree w_NoTree_Make, kit_no o1_HandleTree o2_HandleTree w_NoTree_NoTree w_NoTree_HandleTree, PySem.W.exm_ref b1_TreeError b2_TreeError o2_TreeError w_NoTree_TreeError, PySem.W.exm_ref b1_NoTree b2_NoTree o2_NoTree w_NoTree_NoTree, ⟨PySem.W.mg_of X G y_NoPath, x1_NoPath, x2_NoPath, w_NoPaths, o2_NoPath⟩, ⟨w_NoPathg, w_NoPathk, w_NoPaths, w_NoPathd, w_NoPatha, hnG, htG, w_NoPathm⟩, kit_ve w_NoPathv, kit_sub o1_TreeError o2_TreeError w_NoPath_TreeError, kit_sub o1_NoThing o2_NoThing w_NoPath_NoThing, kit_no o1_NoFit o2_NoFit w_NoPath_NoPath w_NoPath_NoFit, kit_no o1_Cut o2_Cut w_NoPath_NoPath w_NoPath_Cut, kit_no o1_NoTree o2_NoTree w_NoPath_NoPath w_NoPath_NoTree, kit_sub o1_NoPath o2_NoPath w_NoPath_NoPath, kit_no o1_NoDeed o2_NoDeed w_NoPath_NoPath w_NoPath_NoDeed, kit_no o1_NoHandle o2_NoHandle w_NoPath_NoPath w_NoPath_NoHandle, kit_no o1_NoPlace o2_NoPlace w_NoPath_NoPath w_NoPath_NoPlace, kit_no o1_Root o2_Root w_NoPath_NoPath w_NoPath_Root, kit_no o1_Within o2_Within w_NoPath_NoPath w_NoPath_Within, kit_no o1_TooMany o2_TooMany w_NoPath_NoPath w_NoPath_TooMany, kit_no o1_TooDeep o2_TooDeep w_NoPath_NoPath w_NoPath_TooDeep, kit_no o1_Gone o2_Gone w_NoPath_NoPath w_NoPath_Gone, kit_no o1_Stopped o2_Stopped w_NoPath_NoPath w_NoPath_Stopped, kit_no o1_Busy o2_Busy w_NoPath_NoPath w_NoPath_Busy, kit_no o1_Make o2_Make w_NoPath_NoPath w_NoPath_Make, kit_no o1_HandleTree o2_HandleTree w_NoPath_NoPath w_NoPath_HandleTree, PySem.W.exm_ref b1_TreeError b2_TreeError o2_TreeError w_NoPath_TreeError, PySem.W.exm_ref b1_NoTree b2_NoTree o2_NoTree w_NoPath_NoTree, ⟨⟨⟨_, _, _, _, _, _, _, _, _, _, _, _, _, _, _, xl1_NoPlace, xl2_NoPlace⟩, xl3_NoPlace, w_NoPlaces, o2_NoPlace, xl4_NoPlace⟩, PySem.W.mg_of X G y_NoPlace, xl7_NoPlace, _, _, xl5_NoPlace, xl6_NoPlace, fun_mk (st := sI_NoPlace) lI_NoPlace cI_NoPlace kI_NoPlace⟩, ⟨w_NoPlaceg, w_NoPlacek, w_NoPlaces, w_NoPlaced, w_NoPlacea, hnG, htG, w_NoPlacem⟩, kit_ve w_NoPlacev, kit_sub o1_TreeError o2_TreeError w_NoPlace_TreeError, kit_no o1_NoThing o2_NoThing w_NoPlace_NoPlace w_NoPlace_NoThing, kit_sub o1_NoFit o2_NoFit w_NoPlace_NoFit, kit_no o1_Cut o2_Cut w_NoPlace_NoPlace w_NoPlace_Cut, kit_no o1_NoTree o2_NoTree w_NoPlace_NoPlace w_NoPlace_NoTree, kit_no o1_NoPath o2_NoPath w_NoPlace_NoPlace w_NoPlace_NoPath, kit_no o1_NoDeed o2_NoDeed w_NoPlace_NoPlace w_NoPlace_NoDeed, kit_no o1_NoHandle o2_NoHandle w_NoPlace_NoPlace w_NoPlace_NoHandle, kit_sub o1_NoPlace o2_NoPlace w_NoPlace_NoPlace, kit_no o1_Root o2_Root w_NoPlace_NoPlace w_NoPlace_Root, kit_no o1_Within o2_Within w_NoPlace_NoPlace w_NoPlace_Within, kit_no o1_TooMany o2_TooMany w_NoPlace_NoPlace w_NoPlace_TooMany, kit_no o1_TooDeep o2_TooDeep w_NoPlace_NoPlace w_NoPlace_TooDeep, kit_no o1_Gone o2_Gone w_NoPlace_NoPlace w_NoPlace_Gone, kit_no o1_Stopped o2_Stopped w_NoPlace_NoPlace w_NoPlace_Stopped, kit_no o1_Busy o2_Busy w_NoPlace_NoPlace w_NoPlace_Busy, kit_no o1_Make o2_Make w_NoPlace_NoPlace w_NoPlace_Make, kit_no o1_HandleTree o2_HandleTree w_NoPlace_NoPlace w_NoPlace_HandleTree, PySem.W.exm_ref b1_TreeError b2_TreeError o2_TreeError w_NoPlace_TreeError, PySem.W.exm_ref b1_NoTree b2_NoTree o2_NoTree w_NoPlace_NoTree, ⟨⟨⟨_, _, _, _, _, _, _, _, _, _, _, _, _, _, _, xl1_NoHandle, xl2_NoHandle⟩, xl3_NoHandle, w_NoHandles, o2_NoHandle, xl4_NoHandle⟩, PySem.W.mg_of X G y_NoHandle, xl7_NoHandle, _, _, xl5_NoHandle, xl6_NoHandle, fun_mk (st := sI_NoHandle) lI_NoHandle cI_NoHandle kI_NoHandle⟩, ⟨w_NoHandleg, w_NoHandlek, w_NoHandles, w_NoHandled, w_NoHandlea, hnG, htG, w_NoHandlem⟩, kit_ve w_NoHandlev, kit_sub o1_TreeError o2_TreeError w_NoHandle_TreeError, kit_sub o1_NoThing o2_NoThing w_NoHandle_NoThing, kit_no o1_NoFit o2_NoFit w_NoHandle_NoHandle w_NoHandle_NoFit, kit_no o1_Cut o2_Cut w_NoHandle_NoHandle w_NoHandle_Cut, kit_no o1_NoTree o2_NoTree w_NoHandle_NoHandle w_NoHandle_NoTree, kit_no o1_NoPath o2_NoPath w_NoHandle_NoHandle w_NoHandle_NoPath, kit_no o1_NoDeed o2_NoDeed w_NoHandle_NoHandle w_NoHandle_NoDeed, kit_sub o1_NoHandle o2_NoHandle w_NoHandle_NoHandle, kit_no o1_NoPlace o2_NoPlace w_NoHandle_NoHandle w_NoHandle_NoPlace, kit_no o1_Root o2_Root w_NoHandle_NoHandle w_NoHandle_Root, kit_no o1_Within o2_Within w_NoHandle_NoHandle w_NoHandle_Within, kit_no o1_TooMany o2_TooMany w_NoHandle_NoHandle w_NoHandle_TooMany, kit_no o1_TooDeep o2_TooDeep w_NoHandle_NoHandle w_NoHandle_TooDeep, kit_no o1_Gone o2_Gone w_NoHandle_NoHandle w_NoHandle_Gone, kit_no o1_Stopped o2_Stopped w_NoHandle_NoHandle w_NoHandle_Stopped, kit_no o1_Busy o2_Busy w_NoHandle_NoHandle w_NoHandle_Busy, kit_no o1_Make o2_Make w_NoHandle_NoHandle w_NoHandle_Make, kit_no o1_HandleTree o2_HandleTree w_NoHandle_NoHandle w_NoHandle_HandleTree, PySem.W.exm_ref b1_TreeError b2_TreeError o2_TreeError w_NoHandle_TreeError, PySem.W.exm_ref b1_NoTree b2_NoTree o2_NoTree w_NoHandle_NoTree⟩
  have C : Cs mg := ⟨cSIZE, cDEPTH, cSIGNS⟩
  have R : HtW K A.c_HandleTree := ⟨⟨cl_HandleTree, na_HandleTree_hearers, na_HandleTree_busy, na_HandleTree_rounds, na_HandleTree_acted, na_HandleTree_last, na_HandleTree_tree, na_HandleTree_held, na_HandleTree_ends, na_HandleTree_issued, na_HandleTree_turns⟩, _, _, fn_HandleTree_init, mk_HandleTree, _, _, fn_HandleTree_give_handles, me_HandleTree_give_handles, _, _, fn_HandleTree_plant, me_HandleTree_plant, _, _, fn_HandleTree_value, me_HandleTree_value, _, _, fn_HandleTree_given, me_HandleTree_given, _, _, fn_HandleTree_acts, me_HandleTree_acts, _, _, fn_HandleTree_gone, me_HandleTree_gone, _, _, fn_HandleTree_handles, me_HandleTree_handles, _, _, fn_HandleTree_handle_of, me_HandleTree_handle_of, _, _, fn_HandleTree_path_of, me_HandleTree_path_of, _, _, fn_HandleTree_tag, me_HandleTree_tag, _, _, fn_HandleTree_many, me_HandleTree_many, _, _, fn_HandleTree_tag_by, me_HandleTree_tag_by, _, _, fn_HandleTree_above, me_HandleTree_above, _, _, fn_HandleTree_below, me_HandleTree_below⟩
  have D : Nonempty (Defs K mg) := ⟨⟨at_mk X G a1 l1 c1 k1, at_mk X G a2 l2 c2 k2, at_mk X G a3 l3 c3 k3, at_mk X G a4 l4 c4 k4, at_mk X G a5 l5 c5 k5, at_mk X G a6 l6 c6 k6, at_mk X G a7 l7 c7 k7, at_mk X G a8 l8 c8 k8, at_mk X G a9 l9 c9 k9, at_mk X G a10 l10 c10 k10, at_mk X G a11 l11 c11 k11, at_mk X G a12 l12 c12 k12, at_mk X G a13 l13 c13 k13, at_mk X G a14 l14 c14 k14, at_mk X G a15 l15 c15 k15, at_mk X G a16 l16 c16 k16, at_mk X G a17 l17 c17 k17, at_mk X G a18 l18 c18 k18, at_mk X G a19 l19 c19 k19, at_mk X G a20 l20 c20 k20, at_mk X G a21 l21 c21 k21, at_mk X G a22 l22 c22 k22, at_mk X G a23 l23 c23 k23, at_mk X G a24 l24 c24 k24, at_mk X G a25 l25 c25 k25⟩⟩
  obtain ⟨D⟩ := D
  have e : D.d_law.f = fa := by
    have := hfa.symm.trans D.d_law.m
    cases this
    rfl
  rw [← e]
  exact ok_law D.d_law.F T (calls D T A R C z_zip z_sorted z_ValueError base) hS e0
end Tl
open PySem PySem.W PyProof.Rows
set_option Elab.async false
set_option maxRecDepth 100000 in
set_option maxHeartbeats 0 in
theorem PySem.Challenge.cw_treelore_k15_handles_begun_holds : PySem.Challenge.rw_treelore_k15_handles_begun.Holds := by
  refine tl_head ?_
  k_fill
  refine Tl.walk_at_top (l := PySem.Challenge.rw_treelore_k15_handles_begun) (n := 63) rfl (by decide) rfl (fun w h Y => PySem.W.kIn_of Y) ?F
  case F =>
    intro w mg fa h KX G hmg s₁ base H a ns hlen hKb hNb hS e0
    refine' Tl.all_mk KX G hmg ?a1 ?l1 ?c1 ?k1 ?a2 ?l2 ?c2 ?k2 ?a3 ?l3 ?c3 ?k3 ?a4 ?l4 ?c4 ?k4 ?a5 ?l5 ?c5 ?k5 ?a6 ?l6 ?c6 ?k6 ?a7 ?l7 ?c7 ?k7 ?a8 ?l8 ?c8 ?k8 ?a9 ?l9 ?c9 ?k9 ?a10 ?l10 ?c10 ?k10 ?a11 ?l11 ?c11 ?k11 ?a12 ?l12 ?c12 ?k12 ?a13 ?l13 ?c13 ?k13 ?a14 ?l14 ?c14 ?k14 ?a15 ?l15 ?c15 ?k15 ?a16 ?l16 ?c16 ?k16 ?a17 ?l17 ?c17 ?k17 ?a18 ?l18 ?c18 ?k18 ?a19 ?l19 ?c19 ?k19 ?a20 ?l20 ?c20 ?k20 ?a21 ?l21 ?c21 ?k21 ?a22 ?l22 ?c22 ?k22 ?a23 ?l23 ?c23 ?k23 ?a24 ?l24 ?c24 ?k24 ?a25 ?l25 ?c25 ?k25 ?z1 ?z2 ?z3 ?z4 ?z5 ?z6 ?z7 ?z8 ?z9 ?z10 ?z11 ?z12 ?z13 ?z14 ?z15 ?n1 ?n2 ?n3 ?y_TreeError ?y_NoThing ?y_NoFit ?y_Cut ?y_NoTree ?y_NoPath ?y_NoDeed ?y_NoHandle ?y_NoPlace ?y_Root ?y_Within ?y_TooMany ?y_TooDeep ?y_Gone ?y_Stopped ?y_Busy ?y_Make ?y_HandleTree ?o1_TreeError ?o2_TreeError ?o1_NoThing ?o2_NoThing ?o1_NoFit ?o2_NoFit ?o1_Cut ?o2_Cut ?o1_NoTree ?o2_NoTree ?o1_NoPath ?o2_NoPath ?o1_NoDeed ?o2_NoDeed ?o1_NoHandle ?o2_NoHandle ?o1_NoPlace ?o2_NoPlace ?o1_Root ?o2_Root ?o1_Within ?o2_Within ?o1_TooMany ?o2_TooMany ?o1_TooDeep ?o2_TooDeep ?o1_Gone ?o2_Gone ?o1_Stopped ?o2_Stopped ?o1_Busy ?o2_Busy ?o1_Make ?o2_Make ?o1_HandleTree ?o2_HandleTree ?b1_TreeError ?b2_TreeError ?b1_NoTree ?b2_NoTree ?hnG ?htG ?w_NoTreeg ?w_NoTreek ?w_NoTrees ?w_NoTreed ?w_NoTreea ?w_NoTreem ?w_NoTreev ?w_NoTree_TreeError ?w_NoTree_NoThing ?w_NoTree_NoFit ?w_NoTree_Cut ?w_NoTree_NoTree ?w_NoTree_NoPath ?w_NoTree_NoDeed ?w_NoTree_NoHandle ?w_NoTree_NoPlace ?w_NoTree_Root ?w_NoTree_Within ?w_NoTree_TooMany ?w_NoTree_TooDeep ?w_NoTree_Gone ?w_NoTree_Stopped ?w_NoTree_Busy ?w_NoTree_Make ?w_NoTree_HandleTree ?x1_NoTree ?x2_NoTree ?w_NoPathg ?w_NoPathk ?w_NoPaths ?w_NoPathd ?w_NoPatha ?w_NoPathm ?w_NoPathv ?w_NoPath_TreeError ?w_NoPath_NoThing ?w_NoPath_NoFit ?w_NoPath_Cut ?w_NoPath_NoTree ?w_NoPath_NoPath ?w_NoPath_NoDeed ?w_NoPath_NoHandle ?w_NoPath_NoPlace ?w_NoPath_Root ?w_NoPath_Within ?w_NoPath_TooMany ?w_NoPath_TooDeep ?w_NoPath_Gone ?w_NoPath_Stopped ?w_NoPath_Busy ?w_NoPath_Make ?w_NoPath_HandleTree ?x1_NoPath ?x2_NoPath ?w_NoPlaceg ?w_NoPlacek ?w_NoPlaces ?w_NoPlaced ?w_NoPlacea ?w_NoPlacem ?w_NoPlacev ?w_NoPlace_TreeError ?w_NoPlace_NoThing ?w_NoPlace_NoFit ?w_NoPlace_Cut ?w_NoPlace_NoTree ?w_NoPlace_NoPath ?w_NoPlace_NoDeed ?w_NoPlace_NoHandle ?w_NoPlace_NoPlace ?w_NoPlace_Root ?w_NoPlace_Within ?w_NoPlace_TooMany ?w_NoPlace_TooDeep ?w_NoPlace_Gone ?w_NoPlace_Stopped ?w_NoPlace_Busy ?w_NoPlace_Make ?w_NoPlace_HandleTree ?xl1_NoPlace ?xl2_NoPlace ?xl3_NoPlace ?xl4_NoPlace ?xl5_NoPlace ?xl6_NoPlace ?xl7_NoPlace ?lI_NoPlace ?cI_NoPlace ?kI_NoPlace ?w_NoHandleg ?w_NoHandlek ?w_NoHandles ?w_NoHandled ?w_NoHandlea ?w_NoHandlem ?w_NoHandlev ?w_NoHandle_TreeError ?w_NoHandle_NoThing ?w_NoHandle_NoFit ?w_NoHandle_Cut ?w_NoHandle_NoTree ?w_NoHandle_NoPath ?w_NoHandle_NoDeed ?w_NoHandle_NoHandle ?w_NoHandle_NoPlace ?w_NoHandle_Root ?w_NoHandle_Within ?w_NoHandle_TooMany ?w_NoHandle_TooDeep ?w_NoHandle_Gone ?w_NoHandle_Stopped ?w_NoHandle_Busy ?w_NoHandle_Make ?w_NoHandle_HandleTree ?xl1_NoHandle ?xl2_NoHandle ?xl3_NoHandle ?xl4_NoHandle ?xl5_NoHandle ?xl6_NoHandle ?xl7_NoHandle ?lI_NoHandle ?cI_NoHandle ?kI_NoHandle ?g1_HandleTree ?g2_HandleTree ?g3_HandleTree ?g4_HandleTree ?g5_HandleTree ?g6_HandleTree ?na_HandleTree_hearers ?na_HandleTree_busy ?na_HandleTree_rounds ?na_HandleTree_acted ?na_HandleTree_last ?na_HandleTree_tree ?na_HandleTree_held ?na_HandleTree_ends ?na_HandleTree_issued ?na_HandleTree_turns ?q1_HandleTree_give_handles ?q2_HandleTree_give_handles ?q3_HandleTree_give_handles ?q4_HandleTree_give_handles ?q5_HandleTree_give_handles ?q1_HandleTree_plant ?q2_HandleTree_plant ?q3_HandleTree_plant ?q4_HandleTree_plant ?q5_HandleTree_plant ?q1_HandleTree_init ?q2_HandleTree_init ?q3_HandleTree_init ?q4_HandleTree_init ?q5_HandleTree_init ?q1_HandleTree_value ?q2_HandleTree_value ?q3_HandleTree_value ?q4_HandleTree_value ?q5_HandleTree_value ?q1_HandleTree_given ?q2_HandleTree_given ?q3_HandleTree_given ?q4_HandleTree_given ?q5_HandleTree_given ?q1_HandleTree_acts ?q2_HandleTree_acts ?q3_HandleTree_acts ?q4_HandleTree_acts ?q5_HandleTree_acts ?q1_HandleTree_gone ?q2_HandleTree_gone ?q3_HandleTree_gone ?q4_HandleTree_gone ?q5_HandleTree_gone ?q1_HandleTree_handles ?q2_HandleTree_handles ?q3_HandleTree_handles ?q4_HandleTree_handles ?q5_HandleTree_handles ?q1_HandleTree_handle_of ?q2_HandleTree_handle_of ?q3_HandleTree_handle_of ?q4_HandleTree_handle_of ?q5_HandleTree_handle_of ?q1_HandleTree_path_of ?q2_HandleTree_path_of ?q3_HandleTree_path_of ?q4_HandleTree_path_of ?q5_HandleTree_path_of ?q1_HandleTree_tag ?q2_HandleTree_tag ?q3_HandleTree_tag ?q4_HandleTree_tag ?q5_HandleTree_tag ?q1_HandleTree_many ?q2_HandleTree_many ?q3_HandleTree_many ?q4_HandleTree_many ?q5_HandleTree_many ?q1_HandleTree_tag_by ?q2_HandleTree_tag_by ?q3_HandleTree_tag_by ?q4_HandleTree_tag_by ?q5_HandleTree_tag_by ?q1_HandleTree_above ?q2_HandleTree_above ?q3_HandleTree_above ?q4_HandleTree_above ?q5_HandleTree_above ?q1_HandleTree_below ?q2_HandleTree_below ?q3_HandleTree_below ?q4_HandleTree_below ?q5_HandleTree_below hlen hS e0
    (case a1 => k_is)
    (case l1 => k_is)
    (case c1 => k_is)
    (case k1 => k_is)
    (case a2 => k_is)
    (case l2 => k_is)
    (case c2 => k_is)
    (case k2 => k_is)
    (case a3 => k_is)
    (case l3 => k_is)
    (case c3 => k_is)
    (case k3 => k_is)
    (case a4 => k_is)
    (case l4 => k_is)
    (case c4 => k_is)
    (case k4 => k_is)
    (case a5 => k_is)
    (case l5 => k_is)
    (case c5 => k_is)
    (case k5 => k_is)
    (case a6 => k_is)
    (case l6 => k_is)
    (case c6 => k_is)
    (case k6 => k_is)
    (case a7 => k_is)
    (case l7 => k_is)
    (case c7 => k_is)
    (case k7 => k_is)
    (case a8 => k_is)
    (case l8 => k_is)
    (case c8 => k_is)
    (case k8 => k_is)
    (case a9 => k_is)
    (case l9 => k_is)
    (case c9 => k_is)
    (case k9 => k_is)
    (case a10 => k_is)
    (case l10 => k_is)
    (case c10 => k_is)
    (case k10 => k_is)
    (case a11 => k_is)
    (case l11 => k_is)
    (case c11 => k_is)
    (case k11 => k_is)
    (case a12 => k_is)
    (case l12 => k_is)
    (case c12 => k_is)
    (case k12 => k_is)
    (case a13 => k_is)
    (case l13 => k_is)
    (case c13 => k_is)
    (case k13 => k_is)
    (case a14 => k_is)
    (case l14 => k_is)
    (case c14 => k_is)
    (case k14 => k_is)
    (case a15 => k_is)
    (case l15 => k_is)
    (case c15 => k_is)
    (case k15 => k_is)
    (case a16 => k_is)
    (case l16 => k_is)
    (case c16 => k_is)
    (case k16 => k_is)
    (case a17 => k_is)
    (case l17 => k_is)
    (case c17 => k_is)
    (case k17 => k_is)
    (case a18 => k_is)
    (case l18 => k_is)
    (case c18 => k_is)
    (case k18 => k_is)
    (case a19 => k_is)
    (case l19 => k_is)
    (case c19 => k_is)
    (case k19 => k_is)
    (case a20 => k_is)
    (case l20 => k_is)
    (case c20 => k_is)
    (case k20 => k_is)
    (case a21 => k_is)
    (case l21 => k_is)
    (case c21 => k_is)
    (case k21 => k_is)
    (case a22 => k_is)
    (case l22 => k_is)
    (case c22 => k_is)
    (case k22 => k_is)
    (case a23 => k_is)
    (case l23 => k_is)
    (case c23 => k_is)
    (case k23 => k_is)
    (case a24 => k_is)
    (case l24 => k_is)
    (case c24 => k_is)
    (case k24 => k_is)
    (case a25 => k_is)
    (case l25 => k_is)
    (case c25 => k_is)
    (case k25 => k_is)
    (case z1 => k_is)
    (case z2 => k_is)
    (case z3 => k_is)
    (case z4 => k_is)
    (case z5 => k_is)
    (case z6 => k_is)
    (case z7 => k_is)
    (case z8 => k_is)
    (case z9 => k_is)
    (case z10 => k_is)
    (case z11 => k_is)
    (case z12 => k_is)
    (case z13 => k_is)
    (case z14 => k_is)
    (case z15 => k_is)
    (case n1 => k_is)
    (case n2 => k_is)
    (case n3 => k_is)
    (case y_TreeError => k_is)
    (case y_NoThing => k_is)
    (case y_NoFit => k_is)
    (case y_Cut => k_is)
    (case y_NoTree => k_is)
    (case y_NoPath => k_is)
    (case y_NoDeed => k_is)
    (case y_NoHandle => k_is)
    (case y_NoPlace => k_is)
    (case y_Root => k_is)
    (case y_Within => k_is)
    (case y_TooMany => k_is)
    (case y_TooDeep => k_is)
    (case y_Gone => k_is)
    (case y_Stopped => k_is)
    (case y_Busy => k_is)
    (case y_Make => k_is)
    (case y_HandleTree => k_is)
    (case o1_TreeError => k_is)
    (case o2_TreeError => k_is)
    (case o1_NoThing => k_is)
    (case o2_NoThing => k_is)
    (case o1_NoFit => k_is)
    (case o2_NoFit => k_is)
    (case o1_Cut => k_is)
    (case o2_Cut => k_is)
    (case o1_NoTree => k_is)
    (case o2_NoTree => k_is)
    (case o1_NoPath => k_is)
    (case o2_NoPath => k_is)
    (case o1_NoDeed => k_is)
    (case o2_NoDeed => k_is)
    (case o1_NoHandle => k_is)
    (case o2_NoHandle => k_is)
    (case o1_NoPlace => k_is)
    (case o2_NoPlace => k_is)
    (case o1_Root => k_is)
    (case o2_Root => k_is)
    (case o1_Within => k_is)
    (case o2_Within => k_is)
    (case o1_TooMany => k_is)
    (case o2_TooMany => k_is)
    (case o1_TooDeep => k_is)
    (case o2_TooDeep => k_is)
    (case o1_Gone => k_is)
    (case o2_Gone => k_is)
    (case o1_Stopped => k_is)
    (case o2_Stopped => k_is)
    (case o1_Busy => k_is)
    (case o2_Busy => k_is)
    (case o1_Make => k_is)
    (case o2_Make => k_is)
    (case o1_HandleTree => k_is)
    (case o2_HandleTree => k_is)
    (case b1_TreeError => k_is)
    (case b2_TreeError => k_is)
    (case b1_NoTree => k_is)
    (case b2_NoTree => k_is)
    (case hnG => k_is)
    (case htG => k_is)
    (case w_NoTreeg => k_is)
    (case w_NoTreek => k_is)
    (case w_NoTrees => k_is)
    (case w_NoTreed => k_is)
    (case w_NoTreea => k_is)
    (case w_NoTreem => k_is)
    (case w_NoTreev => k_is)
    (case w_NoTree_TreeError => first | k_is | rfl)
    (case w_NoTree_NoThing => first | k_is | rfl)
    (case w_NoTree_NoFit => first | k_is | rfl)
    (case w_NoTree_Cut => first | k_is | rfl)
    (case w_NoTree_NoTree => first | k_is | rfl)
    (case w_NoTree_NoPath => first | k_is | rfl)
    (case w_NoTree_NoDeed => first | k_is | rfl)
    (case w_NoTree_NoHandle => first | k_is | rfl)
    (case w_NoTree_NoPlace => first | k_is | rfl)
    (case w_NoTree_Root => first | k_is | rfl)
    (case w_NoTree_Within => first | k_is | rfl)
    (case w_NoTree_TooMany => first | k_is | rfl)
    (case w_NoTree_TooDeep => first | k_is | rfl)
    (case w_NoTree_Gone => first | k_is | rfl)
    (case w_NoTree_Stopped => first | k_is | rfl)
    (case w_NoTree_Busy => first | k_is | rfl)
    (case w_NoTree_Make => first | k_is | rfl)
    (case w_NoTree_HandleTree => first | k_is | rfl)
    (case x1_NoTree => k_exc)
    (case x2_NoTree => k_is)
    (case w_NoPathg => k_is)
    (case w_NoPathk => k_is)
    (case w_NoPaths => k_is)
    (case w_NoPathd => k_is)
    (case w_NoPatha => k_is)
    (case w_NoPathm => k_is)
    (case w_NoPathv => k_is)
    (case w_NoPath_TreeError => first | k_is | rfl)
    (case w_NoPath_NoThing => first | k_is | rfl)
    (case w_NoPath_NoFit => first | k_is | rfl)
    (case w_NoPath_Cut => first | k_is | rfl)
    (case w_NoPath_NoTree => first | k_is | rfl)
    (case w_NoPath_NoPath => first | k_is | rfl)
    (case w_NoPath_NoDeed => first | k_is | rfl)
    (case w_NoPath_NoHandle => first | k_is | rfl)
    (case w_NoPath_NoPlace => first | k_is | rfl)
    (case w_NoPath_Root => first | k_is | rfl)
    (case w_NoPath_Within => first | k_is | rfl)
    (case w_NoPath_TooMany => first | k_is | rfl)
    (case w_NoPath_TooDeep => first | k_is | rfl)
    (case w_NoPath_Gone => first | k_is | rfl)
    (case w_NoPath_Stopped => first | k_is | rfl)
    (case w_NoPath_Busy => first | k_is | rfl)
    (case w_NoPath_Make => first | k_is | rfl)
    (case w_NoPath_HandleTree => first | k_is | rfl)
    (case x1_NoPath => k_exc)
    (case x2_NoPath => k_is)
    (case w_NoPlaceg => k_is)
    (case w_NoPlacek => k_is)
    (case w_NoPlaces => k_is)
    (case w_NoPlaced => k_is)
    (case w_NoPlacea => k_is)
    (case w_NoPlacem => k_is)
    (case w_NoPlacev => k_is)
    (case w_NoPlace_TreeError => first | k_is | rfl)
    (case w_NoPlace_NoThing => first | k_is | rfl)
    (case w_NoPlace_NoFit => first | k_is | rfl)
    (case w_NoPlace_Cut => first | k_is | rfl)
    (case w_NoPlace_NoTree => first | k_is | rfl)
    (case w_NoPlace_NoPath => first | k_is | rfl)
    (case w_NoPlace_NoDeed => first | k_is | rfl)
    (case w_NoPlace_NoHandle => first | k_is | rfl)
    (case w_NoPlace_NoPlace => first | k_is | rfl)
    (case w_NoPlace_Root => first | k_is | rfl)
    (case w_NoPlace_Within => first | k_is | rfl)
    (case w_NoPlace_TooMany => first | k_is | rfl)
    (case w_NoPlace_TooDeep => first | k_is | rfl)
    (case w_NoPlace_Gone => first | k_is | rfl)
    (case w_NoPlace_Stopped => first | k_is | rfl)
    (case w_NoPlace_Busy => first | k_is | rfl)
    (case w_NoPlace_Make => first | k_is | rfl)
    (case w_NoPlace_HandleTree => first | k_is | rfl)
    (case xl1_NoPlace => k_is)
    (case xl2_NoPlace => first | rfl | decide | k_is)
    (case xl3_NoPlace => k_is)
    (case xl4_NoPlace => k_is)
    (case xl5_NoPlace => k_is)
    (case xl6_NoPlace => k_is)
    (case xl7_NoPlace => k_is)
    (case lI_NoPlace => k_is)
    (case cI_NoPlace => k_is)
    (case kI_NoPlace => k_is)
    (case w_NoHandleg => k_is)
    (case w_NoHandlek => k_is)
    (case w_NoHandles => k_is)
    (case w_NoHandled => k_is)
    (case w_NoHandlea => k_is)
    (case w_NoHandlem => k_is)
    (case w_NoHandlev => k_is)
    (case w_NoHandle_TreeError => first | k_is | rfl)
    (case w_NoHandle_NoThing => first | k_is | rfl)
    (case w_NoHandle_NoFit => first | k_is | rfl)
    (case w_NoHandle_Cut => first | k_is | rfl)
    (case w_NoHandle_NoTree => first | k_is | rfl)
    (case w_NoHandle_NoPath => first | k_is | rfl)
    (case w_NoHandle_NoDeed => first | k_is | rfl)
    (case w_NoHandle_NoHandle => first | k_is | rfl)
    (case w_NoHandle_NoPlace => first | k_is | rfl)
    (case w_NoHandle_Root => first | k_is | rfl)
    (case w_NoHandle_Within => first | k_is | rfl)
    (case w_NoHandle_TooMany => first | k_is | rfl)
    (case w_NoHandle_TooDeep => first | k_is | rfl)
    (case w_NoHandle_Gone => first | k_is | rfl)
    (case w_NoHandle_Stopped => first | k_is | rfl)
    (case w_NoHandle_Busy => first | k_is | rfl)
    (case w_NoHandle_Make => first | k_is | rfl)
    (case w_NoHandle_HandleTree => first | k_is | rfl)
    (case xl1_NoHandle => k_is)
    (case xl2_NoHandle => first | rfl | decide | k_is)
    (case xl3_NoHandle => k_is)
    (case xl4_NoHandle => k_is)
    (case xl5_NoHandle => k_is)
    (case xl6_NoHandle => k_is)
    (case xl7_NoHandle => k_is)
    (case lI_NoHandle => k_is)
    (case cI_NoHandle => k_is)
    (case kI_NoHandle => k_is)
    (case g1_HandleTree => k_is)
    (case g2_HandleTree => k_is)
    (case g3_HandleTree => k_is)
    (case g4_HandleTree => k_is)
    (case g5_HandleTree => k_is)
    (case g6_HandleTree => k_is)
    (case na_HandleTree_hearers => k_is)
    (case na_HandleTree_busy => k_is)
    (case na_HandleTree_rounds => k_is)
    (case na_HandleTree_acted => k_is)
    (case na_HandleTree_last => k_is)
    (case na_HandleTree_tree => k_is)
    (case na_HandleTree_held => k_is)
    (case na_HandleTree_ends => k_is)
    (case na_HandleTree_issued => k_is)
    (case na_HandleTree_turns => k_is)
    (case q1_HandleTree_give_handles => k_is)
    (case q2_HandleTree_give_handles => k_is)
    (case q3_HandleTree_give_handles => k_is)
    (case q4_HandleTree_give_handles => k_is)
    (case q5_HandleTree_give_handles => k_is)
    (case q1_HandleTree_plant => k_is)
    (case q2_HandleTree_plant => k_is)
    (case q3_HandleTree_plant => k_is)
    (case q4_HandleTree_plant => k_is)
    (case q5_HandleTree_plant => k_is)
    (case q1_HandleTree_init => k_is)
    (case q2_HandleTree_init => k_is)
    (case q3_HandleTree_init => k_is)
    (case q4_HandleTree_init => k_is)
    (case q5_HandleTree_init => k_is)
    (case q1_HandleTree_value => k_is)
    (case q2_HandleTree_value => k_is)
    (case q3_HandleTree_value => k_is)
    (case q4_HandleTree_value => k_is)
    (case q5_HandleTree_value => k_is)
    (case q1_HandleTree_given => k_is)
    (case q2_HandleTree_given => k_is)
    (case q3_HandleTree_given => k_is)
    (case q4_HandleTree_given => k_is)
    (case q5_HandleTree_given => k_is)
    (case q1_HandleTree_acts => k_is)
    (case q2_HandleTree_acts => k_is)
    (case q3_HandleTree_acts => k_is)
    (case q4_HandleTree_acts => k_is)
    (case q5_HandleTree_acts => k_is)
    (case q1_HandleTree_gone => k_is)
    (case q2_HandleTree_gone => k_is)
    (case q3_HandleTree_gone => k_is)
    (case q4_HandleTree_gone => k_is)
    (case q5_HandleTree_gone => k_is)
    (case q1_HandleTree_handles => k_is)
    (case q2_HandleTree_handles => k_is)
    (case q3_HandleTree_handles => k_is)
    (case q4_HandleTree_handles => k_is)
    (case q5_HandleTree_handles => k_is)
    (case q1_HandleTree_handle_of => k_is)
    (case q2_HandleTree_handle_of => k_is)
    (case q3_HandleTree_handle_of => k_is)
    (case q4_HandleTree_handle_of => k_is)
    (case q5_HandleTree_handle_of => k_is)
    (case q1_HandleTree_path_of => k_is)
    (case q2_HandleTree_path_of => k_is)
    (case q3_HandleTree_path_of => k_is)
    (case q4_HandleTree_path_of => k_is)
    (case q5_HandleTree_path_of => k_is)
    (case q1_HandleTree_tag => k_is)
    (case q2_HandleTree_tag => k_is)
    (case q3_HandleTree_tag => k_is)
    (case q4_HandleTree_tag => k_is)
    (case q5_HandleTree_tag => k_is)
    (case q1_HandleTree_many => k_is)
    (case q2_HandleTree_many => k_is)
    (case q3_HandleTree_many => k_is)
    (case q4_HandleTree_many => k_is)
    (case q5_HandleTree_many => k_is)
    (case q1_HandleTree_tag_by => k_is)
    (case q2_HandleTree_tag_by => k_is)
    (case q3_HandleTree_tag_by => k_is)
    (case q4_HandleTree_tag_by => k_is)
    (case q5_HandleTree_tag_by => k_is)
    (case q1_HandleTree_above => k_is)
    (case q2_HandleTree_above => k_is)
    (case q3_HandleTree_above => k_is)
    (case q4_HandleTree_above => k_is)
    (case q5_HandleTree_above => k_is)
    (case q1_HandleTree_below => k_is)
    (case q2_HandleTree_below => k_is)
    (case q3_HandleTree_below => k_is)
    (case q4_HandleTree_below => k_is)
    (case q5_HandleTree_below => k_is)
