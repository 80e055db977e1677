import PyProof.Rows.All
import Wide.All
import OpenK.AllK
import Wide.FinOn
import HandS.ForMost
import HandS.Codes
import HandS.Evl
import HandS.Walk
import HandS.More
import HandS.Property
import HandS.DictComp
import HandS.Strs
import HandS.Zip
import HandS.IsInst
import HandS.Conv
import PySem.Challenge.RW_roundways_k39_costs_of_wishes
import HandS.Set
import HandS.SetFor
import KE.KDictCopyH
import HandS.Defaults
import HandS.NoneIn
import HandS.TupAny
import HandS.DictTup
import HandS.SortRule
import KE.KSortKey
import HandS.Lambda
import HandS.Star
import HandS.Deep
import KE.KSortTupAny
import PyProof.Rows.TupDisplay
import HandS.Style
import KE.KDictPairs
import HandS.Finally
import HandS.Steps
import HandS.EndTab
import KE.KNest
section T_D0
set_option Elab.async false
set_option linter.all false
set_option maxRecDepth 100000
set_option maxHeartbeats 4000000
namespace Rw
open PySem L2 PyProof.Rows
/-! ### ints as data -/
theorem dp_ints {K : PySem.W.Frag} {H : Hp} : ∀ ns : List Int, DpAll K H (ns.map V.int) (ns.map PyData.int)
  | [] => .nil
  | n :: r => .cons (.int n) (dp_ints r)
theorem canlay_ints : ∀ ns : List Int, PyData.canLayAll0 (ns.map PyData.int) = true
  | [] => rfl
  | n :: r => by
    show (PyData.canLay0 (.int n) && PyData.canLayAll0 (r.map PyData.int)) = true
    rw [canlay_ints r]
    rfl
theorem depth_ints : ∀ ns : List Int, PyData.depthAll (ns.map PyData.int) = 0
  | [] => rfl
  | n :: r => by
    show max (PyData.depth (.int n)) (PyData.depthAll (r.map PyData.int)) = 0
    rw [depth_ints r]
    rfl
theorem shaped_ints (ns : List Int) : SeqAt.shaped (.list (ns.map PyData.int)) = true := by
  unfold SeqAt.shaped
  rw [show PyData.canLay0 (.list (ns.map PyData.int)) = PyData.canLayAll0 (ns.map PyData.int) from rfl, canlay_ints,
    show PyData.depth (.list (ns.map PyData.int)) = PyData.depthAll (ns.map PyData.int) + 1 from rfl, depth_ints]
  rfl
theorem eqv_nil (ns : List Int) : PyData.eqv (.list (ns.map PyData.int)) (.list []) = ns.isEmpty := by
  cases ns <;> rfl
/-! ### the draws: at d the dict, at g what is great, at c the cells -/
def dkv (g c : Addr) (r t : Int) : List (Key × V) := [(.inr "great", .ref g), (.inr "rest", .int r), (.inr "cells", .ref c), (.inr "turn", .int t)]
theorem dkv_great (g c : Addr) (r t : Int) : valV (dkv g c r t) (.inr "great") = some (.ref g) := by kernel_rfl
theorem dkv_rest (g c : Addr) (r t : Int) : valV (dkv g c r t) (.inr "rest") = some (.int r) := by kernel_rfl
theorem dkv_cells (g c : Addr) (r t : Int) : valV (dkv g c r t) (.inr "cells") = some (.ref c) := by kernel_rfl
theorem dkv_turn (g c : Addr) (r t : Int) : valV (dkv g c r t) (.inr "turn") = some (.int t) := by kernel_rfl
theorem dkv_put_rest (g c : Addr) (r t x : Int) : putK (dkv g c r t) (.inr "rest") (.int x) = dkv g c x t := by kernel_rfl
theorem dkv_put_turn (g c : Addr) (r t x : Int) : putK (dkv g c r t) (.inr "turn") (.int x) = dkv g c r x := by kernel_rfl
structure DrawAt (H : Hp) (d g c : Addr) : Prop where
  ex : ∃ r t : Int, H d = some (.dK (dkv g c r t))
  gl : ∃ gs : List Int, H g = some (.lst (gs.map V.int))
  cl : ∃ cs : List Int, H c = some (.lst (cs.map V.int))
  ne : c ≠ g
/-- what stood stands, but at d and g -/
def SameD (d g : Addr) (H H' : Hp) : Prop := ∀ a o, H a = some o → a ≠ d → a ≠ g → H' a = some o
/-! ### the heap without the draws -/
def off (d g : Addr) (H : Hp) : Hp := fun a => if a = d ∨ a = g then none else H a
theorem off_some {d g : Addr} {H : Hp} {a : Addr} {o : HO} (h : off d g H a = some o) : a ≠ d ∧ a ≠ g ∧ H a = some o := by
  unfold off at h
  by_cases e : a = d ∨ a = g
  · rw [if_pos e] at h; cases h
  · rw [if_neg e] at h; exact ⟨fun z => e (.inl z), fun z => e (.inr z), h⟩
theorem off_of {d g : Addr} {H : Hp} {a : Addr} {o : HO} (h : H a = some o) (h1 : a ≠ d) (h2 : a ≠ g) : off d g H a = some o := by
  unfold off
  rw [if_neg (fun z => z.elim h1 h2)]
  exact h
theorem off_free {d g : Addr} {H : Hp} {a : Addr} (h : H a = none) : off d g H a = none := by
  unfold off
  by_cases e : a = d ∨ a = g
  · rw [if_pos e]
  · rw [if_neg e]; exact h
theorem ex_off (d g : Addr) (H : Hp) : Evl.Ex (off d g H) H := fun a o h => (off_some h).2.2
theorem off_ex {d g : Addr} {H H' : Hp} (e : Evl.Ex H H') : Evl.Ex (off d g H) (off d g H') := fun a o h => off_of (e a o (off_some h).2.2) (off_some h).1 (off_some h).2.1
theorem off_same {d g : Addr} {H H' : Hp} (e : SameD d g H H') : Evl.Ex (off d g H) (off d g H') := fun a o h => off_of (e a o (off_some h).2.2 (off_some h).1 (off_some h).2.1) (off_some h).1 (off_some h).2.1
theorem DrawAt.ext {H H' : Hp} {d g c : Addr} (D : DrawAt H d g c) (e : Evl.Ex H H') : DrawAt H' d g c := by
  obtain ⟨⟨r, t, hd⟩, ⟨gs, hg⟩, ⟨cs, hc⟩, ne⟩ := D
  exact ⟨⟨r, t, e _ _ hd⟩, ⟨gs, e _ _ hg⟩, ⟨cs, e _ _ hc⟩, ne⟩
theorem DrawAt.new {H : Hp} {d g c p : Addr} {o : HO} (D : DrawAt H d g c) (h : H p = none) : DrawAt (upd H p o) d g c := D.ext (Evl.Ex.new h)
theorem DrawAt.ned {H : Hp} {d g c p : Addr} (D : DrawAt H d g c) (h : H p = none) : p ≠ d ∧ p ≠ g ∧ p ≠ c := by
  obtain ⟨⟨r, t, hd⟩, ⟨gs, hg⟩, ⟨cs, hc⟩, ne⟩ := D
  exact ⟨(ne_of_none hd h).symm, (ne_of_none hg h).symm, (ne_of_none hc h).symm⟩
/-- a new object of one's own, behind changes of others -/
theorem off_mut {d g : Addr} {H H' : Hp} {p : Addr} {o : HO} (e : Evl.Ex H (off d g H')) (h : H p = none) : Evl.Ex H (off d g (upd H' p o)) := fun a u ha => by
  have z := off_some (e a u ha)
  exact off_of (by rw [upd_ne (ne_of_none ha h)]; exact z.2.2) z.1 z.2.1
theorem DrawAt.mut {H : Hp} {d g c p : Addr} {o : HO} (D : DrawAt H d g c) (h1 : p ≠ d) (h2 : p ≠ g) (h3 : p ≠ c) : DrawAt (upd H p o) d g c := by
  obtain ⟨⟨r, t, hd⟩, ⟨gs, hg⟩, ⟨cs, hc⟩, ne⟩ := D
  exact ⟨⟨r, t, by rw [upd_ne h1.symm]; exact hd⟩, ⟨gs, by rw [upd_ne h2.symm]; exact hg⟩, ⟨cs, by rw [upd_ne h3.symm]; exact hc⟩, ne⟩
theorem ps_never {X : Cx} {st : Stmt} : PS X st (fun _ _ _ => False) := ⟨fun _ _ _ _ _ _ h => h.elim⟩
theorem pe_never {X : Cx} {e : Expr} : PE X e (fun _ _ _ => False) := ⟨fun _ _ _ _ _ _ h => h.elim⟩
theorem yes_if {σ : L2.St} {H : Hp} {F G : Hp → Prop} (h : F H) : tYes σ H (fun b H3 => if b = true then F H3 else G H3) := by
  show if true = true then F H else G H
  rw [if_pos rfl]
  exact h
/-! ### data -/
mutual
theorem dp_ex {K : PySem.W.Frag} {H H' : Hp} (e : Evl.Ex H H') : ∀ (d : PyData) (v : V), Dp K H v d → Dp K H' v d
  | .none, _, h => by cases h; exact .non
  | .bool b, _, h => by cases h; exact .bl b
  | .int i, _, h => by cases h; exact .int i
  | .str x, _, h => by cases h; exact .str x
  | .list ds, _, h => by cases h with | lst hq hd => exact .lst (Evl.ex_l e hq) (dpa_ex e ds _ hd)
  | .tuple ds, _, h => by cases h with | tup hq hd => exact .tup (Evl.ex_t e hq) (dpa_ex e ds _ hd)
  | .dict _, _, h => by cases h
theorem dpa_ex {K : PySem.W.Frag} {H H' : Hp} (e : Evl.Ex H H') : ∀ (ds : List PyData) (vs : List V), DpAll K H vs ds → DpAll K H' vs ds
  | [], _, h => by cases h; exact .nil
  | d :: ds, _, h => by cases h with | cons h1 h2 => exact .cons (dp_ex e d _ h1) (dpa_ex e ds _ h2)
end
/-- a value that is data, not deep -/
def DataV (K : PySem.W.Frag) (H : Hp) (v : V) : Prop := ∃ d : PyData, Dp K H v d ∧ d.canLay0 = true ∧ d.depth ≤ 60
theorem DataV.ex {K : PySem.W.Frag} {H H' : Hp} {v : V} (h : DataV K H v) (e : Evl.Ex H H') : DataV K H' v := by
  obtain ⟨d, h1, h2⟩ := h
  exact ⟨d, dp_ex e d v h1, h2⟩
theorem data_all {K : PySem.W.Frag} {H : Hp} : ∀ vs : List V, (∀ v ∈ vs, DataV K H v) → ∃ ds : List PyData, DpAll K H vs ds ∧ PyData.canLayAll0 ds = true ∧ PyData.depthAll ds ≤ 60 ∧ ds.length = vs.length
  | [], _ => ⟨[], .nil, rfl, Nat.zero_le _, rfl⟩
  | v :: vs, h => by
    obtain ⟨d, h1, h2, h3⟩ := h v List.mem_cons_self
    obtain ⟨ds, g1, g2, g3, g4⟩ := data_all vs fun u hu => h u (List.mem_cons_of_mem _ hu)
    refine ⟨d :: ds, .cons h1 g1, ?_, ?_, by simp [g4]⟩
    · show (d.canLay0 && PyData.canLayAll0 ds) = true
      rw [h2, g2]
      rfl
    · show max d.depth (PyData.depthAll ds) ≤ 60
      omega
theorem data_list {K : PySem.W.Frag} {H : Hp} {a : Addr} {vs : List V} (hS : SqL K H a vs) (h : ∀ v ∈ vs, DataV K H v) : ∃ d : PyData, Dp K H (.ref a) d ∧ SeqAt.shaped d = true ∧ PyData.eqv d (.list []) = vs.isEmpty := by
  obtain ⟨ds, g1, g2, g3, g4⟩ := data_all vs h
  refine ⟨.list ds, .lst hS g1, ?_, ?_⟩
  · unfold SeqAt.shaped
    rw [show PyData.canLay0 (.list ds) = PyData.canLayAll0 ds from rfl, g2, show PyData.depth (.list ds) = PyData.depthAll ds + 1 from rfl]
    exact decide_eq_true (show PyData.depthAll ds + 1 ≤ 64 by omega)
  · cases vs with
    | nil =>
      cases ds with
      | nil => rfl
      | cons _ _ => simp at g4
    | cons _ _ =>
      cases ds with
      | nil => simp at g4
      | cons _ _ => rfl
theorem strV_data {K : PySem.W.Frag} {H : Hp} {z : Str} (h : PyData.strOk z = true) : DataV K H (.str z) := ⟨.str z, .str z, h, Nat.zero_le _⟩
/-! ### what the draws promise -/
def spBlend : Sp := fun vs H Q _ => ∃ (d g c : Addr), vs = [.ref d] ∧ DrawAt H d g c ∧ ∀ (n : Int) (H' : Hp), DrawAt H' d g c → SameD d g H H' → Q (.int n) H'
def spTake : Sp := fun vs H Q _ => ∃ (d g c : Addr) (n : Int), vs = [.ref d, .int n] ∧ 0 < n ∧ n < 2 ^ 30 ∧ DrawAt H d g c ∧ ∀ (k : Int) (H' : Hp), 0 ≤ k → k < n → DrawAt H' d g c → Evl.Ex (off d g H) (off d g H') → Q (.int k) H'
/-- one of a list's items -/
def spPickL (K : PySem.W.Frag) : Sp := fun vs H Q _ => ∃ (d g c a : Addr) (xs : List V), vs = [.ref d, .ref a] ∧ DrawAt H d g c ∧ SqL K (off d g H) a xs ∧ 0 < xs.length ∧ xs.length < 2 ^ 30 ∧
  ∀ (i : Nat) (v : V) (H' : Hp), xs[i]? = some v → DrawAt H' d g c → Evl.Ex (off d g H) (off d g H') → Q v H'
/-- one of a text's signs -/
def spPickS : Sp := fun vs H Q _ => ∃ (d g c : Addr) (z : Str), vs = [.ref d, .str z] ∧ DrawAt H d g c ∧ 0 < z.length ∧ z.length ≤ 1000 ∧
  ∀ (i ch : Nat) (H' : Hp), z.cps.toList[i]? = some ch → DrawAt H' d g c → Evl.Ex (off d g H) (off d g H') → Q (.str ⟨#[ch]⟩) H'
/-- a list's or tuple's items in some order, a new list -/
def spMixed (K : PySem.W.Frag) : Sp := fun vs H Q _ => ∃ (d g c a : Addr) (xs : List V), vs = [.ref d, .ref a] ∧ DrawAt H d g c ∧ (SqL K (off d g H) a xs ∨ SqT K (off d g H) a xs) ∧ xs.length ≤ 1000 ∧ (∀ v ∈ xs, DataV K (off d g H) v) ∧
  ∀ (p : Addr) (ys : List V) (H' : Hp), ys.Perm xs → DrawAt H' d g c → Evl.Ex (off d g H) (off d g H') → H p = none → off d g H' p = some (.lst ys) → Q (.ref p) H'
def spBegin (K : PySem.W.Frag) : Sp := fun vs H Q _ => ∃ (a : Addr) (ns : List Int), vs = [.ref a] ∧ SqL K H a (ns.map V.int) ∧ ns.length ≤ 63 ∧
  ∀ (d g c : Addr) (H' : Hp), DrawAt H' d g c → Evl.Ex H (off d g H') → Q (.ref d) H'
end Rw
end T_D0

section T_T0
set_option Elab.async false
set_option linter.all false
set_option maxRecDepth 100000
namespace Rw
open PySem L2 PyProof.Rows
def topS (i : Nat) : Stmt := PySem.Challenge.pw_roundways_k39_costs_of_wishes.main.body.getD i (.Pass ⟨0, 0, 0, 0⟩)
abbrev p_wall : Stmt := topS 0
abbrev p_copied : Stmt := topS 2
abbrev c_BadNet_init : Stmt := inClass (topS 4) 0
abbrev c_NoGoal_init : Stmt := inClass (topS 5) 0
abbrev c_NoNode_init : Stmt := inClass (topS 6) 0
abbrev c_Net_init : Stmt := inClass (topS 13) 0
abbrev c_Net_eq : Stmt := inClass (topS 13) 1
abbrev c_Net_tables : Stmt := inClass (topS 13) 2
abbrev c_Net_goals : Stmt := inClass (topS 13) 3
abbrev c_Net_nodes : Stmt := inClass (topS 13) 4
abbrev c_Net_sources : Stmt := inClass (topS 13) 5
abbrev c_Net_posts : Stmt := inClass (topS 13) 6
abbrev c_Net_changing : Stmt := inClass (topS 13) 7
abbrev c_Net_way : Stmt := inClass (topS 13) 8
abbrev c_Net_turned : Stmt := inClass (topS 13) 9
abbrev c_Net_with_way : Stmt := inClass (topS 13) 10
abbrev p_followed : Stmt := topS 14
abbrev p_check_net : Stmt := topS 15
abbrev p_check_goal : Stmt := topS 16
abbrev p_check_node : Stmt := topS 17
abbrev p_is_list : Stmt := topS 18
abbrev p_is_name : Stmt := topS 19
abbrev p_is_place : Stmt := topS 20
abbrev p_are_different : Stmt := topS 21
abbrev p_are_nodes : Stmt := topS 22
abbrev p_are_tables : Stmt := topS 23
abbrev p_is_pair_of_dicts : Stmt := topS 24
abbrev p_is_table : Stmt := topS 25
abbrev p_ways_at : Stmt := topS 27
abbrev p_joined : Stmt := topS 28
abbrev p_parts_of : Stmt := topS 29
abbrev p_fault_at : Stmt := topS 32
abbrev p_broken_moments : Stmt := topS 33
abbrev p_starts : Stmt := topS 34
abbrev p_breaks : Stmt := topS 35
abbrev p_posts_passed : Stmt := topS 36
abbrev p_passed_with : Stmt := topS 37
abbrev p_check_wishes : Stmt := topS 38
abbrev p_moments_to_avoid : Stmt := topS 40
abbrev p_safe_rounds : Stmt := topS 41
abbrev p_round_numbers : Stmt := topS 42
abbrev p_rounds_needed : Stmt := topS 43
abbrev p_cost : Stmt := topS 45
abbrev p_costs : Stmt := topS 46
abbrev p_saved : Stmt := topS 47
abbrev p_needed : Stmt := topS 48
abbrev s_begin : Stmt := topS 50
abbrev s_blend : Stmt := topS 51
abbrev s_pick : Stmt := topS 52
abbrev s_mixed : Stmt := topS 53
abbrev s_take : Stmt := topS 54
abbrev s_words : Stmt := topS 55
abbrev s_tree : Stmt := topS 56
abbrev s_path : Stmt := topS 57
abbrev s_wild : Stmt := topS 58
abbrev s_near : Stmt := topS 59
abbrev s_pair : Stmt := topS 60
abbrev s_model : Stmt := topS 61
abbrev s_net : Stmt := topS 62
abbrev s_moving_dots : Stmt := topS 63
abbrev s_now : Stmt := topS 64
abbrev s_walk : Stmt := topS 65
abbrev s_lots : Stmt := topS 66
abbrev s_misses : Stmt := topS 67
abbrev s_breaks : Stmt := topS 68
abbrev s_sorts : Stmt := topS 69
abbrev s_join : Stmt := topS 70
abbrev s_bad : Stmt := topS 71
abbrev s_stands : Stmt := topS 72
abbrev s_fewest : Stmt := topS 73
abbrev s_wants : Stmt := topS 74
abbrev s_all_costs : Stmt := topS 75
abbrev s_right : Stmt := topS 76
abbrev s_law : Stmt := topS 77
end Rw
end T_T0

section T_M0
set_option Elab.async false
set_option linter.all false
set_option maxRecDepth 100000
set_option maxHeartbeats 1000000
namespace Rw
open PySem L2 PyProof.Rows
/-! ### names as lists of code points -/
def Nm (z : Str) : Prop := ∃ l : List Nat, z = SX.S l ∧ 1 ≤ l.length ∧ l.length ≤ 6 ∧ ∀ x ∈ l, 97 ≤ x ∧ x ≤ 122
theorem nm_len {z : Str} (h : Nm z) : z.length ≤ 6 := by
  obtain ⟨l, rfl, _, h2, _⟩ := h
  rw [SX.S_len]
  exact h2
theorem nm_ok {z : Str} (h : Nm z) : PyData.strOk z = true := by
  obtain ⟨l, rfl, _, _, h3⟩ := h
  show (l.toArray.all (· < 0x110000)) = true
  rw [List.all_toArray, List.all_eq_true]
  intro x hx
  have := h3 x hx
  exact decide_eq_true (by omega)
theorem nm_data {K : PySem.W.Frag} {H : Hp} {z : Str} (h : Nm z) : DataV K H (.str z) := strV_data (nm_ok h)
theorem inV_str (z : Str) : ∀ zs : List Str, inV (.str z) (zs.map V.str) = decide (z ∈ zs)
  | [] => rfl
  | y :: r => by
    show ((y == z) || inV (.str z) (r.map V.str)) = decide (z ∈ y :: r)
    rw [inV_str z r]
    by_cases e : y = z
    · subst e
      rw [beq_self_eq_true, decide_eq_true (List.mem_cons_self)]
      rfl
    · have e1 : (y == z) = false := beq_eq_false_iff_ne.mpr e
      rw [e1]
      by_cases m : z ∈ r
      · rw [decide_eq_true m, decide_eq_true (List.mem_cons_of_mem _ m)]
        rfl
      · rw [decide_eq_false m, decide_eq_false (fun h => (List.mem_cons.mp h).elim (fun q => e q.symm) m)]
        rfl
theorem flat_strs : ∀ zs : List Str, (zs.map V.str).all flatV = true
  | [] => rfl
  | _ :: r => by
    show (true && (r.map V.str).all flatV) = true
    rw [flat_strs r]
    rfl
theorem join_signs : ∀ cs : List Nat, Txt.join Str.empty (cs.map fun x => SX.S [x]) = SX.S cs := fun cs => by
  rw [show Txt.join Str.empty (cs.map fun x => SX.S [x]) = Str.join Str.empty (cs.map fun x => SX.S [x]) from StrLaws.glued_eq_join _ _]
  induction cs with
  | nil => rfl
  | cons x r ih =>
    show Str.join ⟨#[]⟩ (SX.S [x] :: r.map fun x => SX.S [x]) = SX.S (x :: r)
    rw [PyProof.Rows.join_nil_cons]
    show SX.S [x] ++ Str.join Str.empty (r.map fun x => SX.S [x]) = SX.S (x :: r)
    rw [ih, SX.S_cat]
    rfl
theorem cut5 (l : List Nat) : cutS (SX.S l) none (some 5) = SX.S (l.take 5) := by
  unfold cutS
  rw [show HT.sIx (SX.S l).length 0 none = 0 from rfl, show HT.sIx (SX.S l).length (SX.S l).length (some 5) = min 5 (SX.S l).length from HT.sIx_nat _ _ 5, SX.S_len]
  show SX.S ((l.drop 0).take (min 5 l.length - 0)) = SX.S (l.take 5)
  rw [List.drop_zero, Nat.sub_zero]
  congr 1
  by_cases h : 5 ≤ l.length
  · rw [Nat.min_eq_left h]
  · rw [Nat.min_eq_right (by omega), List.take_length, List.take_of_length_le (by omega)]
/-- as many different things as ys holds -/
theorem nodup_le {α : Type} [DecidableEq α] : ∀ (xs ys : List α), xs.Nodup → (∀ x ∈ xs, x ∈ ys) → xs.length ≤ ys.length
  | [], _, _, _ => Nat.zero_le _
  | x :: r, ys, h, hs => by
    have h1 : x ∈ ys := hs x List.mem_cons_self
    have h2 := nodup_le r (ys.erase x) (List.nodup_cons.mp h).2 fun y hy => by
      have ne : y ≠ x := fun e => (List.nodup_cons.mp h).1 (e ▸ hy)
      exact (List.mem_erase_of_ne ne).mpr (hs y (List.mem_cons_of_mem _ hy))
    rw [List.length_erase_of_mem h1] at h2
    have h3 : 0 < ys.length := List.length_pos_of_mem h1
    rw [List.length_cons]
    omega
/-- the names near a name: it, and each letter behind its first five -/
def near (l : List Nat) : List Str := SX.S l :: (List.range 26).map fun k => SX.S (l.take 5 ++ [97 + k])
theorem near_nm {l : List Nat} (h1 : 1 ≤ l.length) (h2 : l.length ≤ 6) (h3 : ∀ x ∈ l, 97 ≤ x ∧ x ≤ 122) : ∀ z ∈ near l, Nm z := fun z hz => by
  rcases List.mem_cons.mp hz with rfl | hz
  · exact ⟨l, rfl, h1, h2, h3⟩
  · obtain ⟨k, hk, rfl⟩ := List.mem_map.mp hz
    have hk' := List.mem_range.mp hk
    refine ⟨l.take 5 ++ [97 + k], rfl, by simp, by simp; omega, fun x hx => ?_⟩
    rcases List.mem_append.mp hx with hx | hx
    · exact h3 x (List.mem_of_mem_take hx)
    · rw [List.mem_singleton.mp hx]
      omega
theorem near_nodup (l : List Nat) : ((List.range 26).map fun k => SX.S (l.take 5 ++ [97 + k])).Nodup := by
  refine List.Pairwise.map _ (R := fun a b : Nat => a ≠ b) (fun a b ne e => ?_) List.nodup_range
  have e1 := SX.S_inj e
  have e2 : [97 + a] = [97 + b] := List.append_cancel_left e1
  have e3 : 97 + a = 97 + b := by simpa using e2
  omega
theorem near_some (l : List Nat) (zs : List Str) (h : zs.length < 26) : ∃ z r, (near l).filter (fun z => decide (z ∉ zs)) = z :: r := by
  cases e : (near l).filter (fun z => decide (z ∉ zs)) with
  | cons z r => exact ⟨z, r, rfl⟩
  | nil =>
    exfalso
    have hall : ∀ z ∈ near l, z ∈ zs := fun z hz => by
      by_cases m : z ∈ zs
      · exact m
      · have : z ∈ (near l).filter (fun z => decide (z ∉ zs)) := List.mem_filter.mpr ⟨hz, decide_eq_true m⟩
        rw [e] at this
        cases this
    have h2 := nodup_le _ zs (near_nodup l) fun z hz => hall z (List.mem_cons_of_mem _ hz)
    simp at h2
    omega
theorem nm_by {z : Str} (h : decide (1 ≤ z.cps.toList.length ∧ z.cps.toList.length ≤ 6 ∧ ∀ x ∈ z.cps.toList, 97 ≤ x ∧ x ≤ 122) = true) : Nm z := by
  obtain ⟨h1, h2, h3⟩ := of_decide_eq_true h
  exact ⟨z.cps.toList, (SX.S_tl z).symm, h1, h2, h3⟩
def z26 : Str := "abcdefghijklmnopqrstuvwxyz"
theorem z26_eq : z26.cps.toList = (List.range 26).map fun k => 97 + k := by decide +kernel
def words10 : List Str := ["a", "b", "goal", "home", "lost", "rings", "posts", "done", "way", "zzzzzz"]
theorem words10_nm : ∀ z ∈ words10, Nm z := fun z hz => by
  have h : ∀ z ∈ words10, decide (1 ≤ z.cps.toList.length ∧ z.cps.toList.length ≤ 6 ∧ ∀ x ∈ z.cps.toList, 97 ≤ x ∧ x ≤ 122) = true := by decide +kernel
  exact nm_by (h z hz)
/-- while names are made: those made at f, the ten words at sm -/
structure StW (H H' : Hp) (d g c f sm : Addr) (zs : List Str) : Prop where
  hf : H' f = some (.lst (zs.map V.str))
  hs : off d g H' sm = some (.lst (words10.map V.str))
  dr : DrawAt H' d g c
  ex : Evl.Ex (off d g H) (off d g H')
  n1 : f ≠ d
  n2 : f ≠ g
  n3 : f ≠ sm
theorem StW.call {H H1 H2 : Hp} {d g c f sm : Addr} {zs : List Str} (h : StW H H1 d g c f sm zs) (D : DrawAt H2 d g c) (e : Evl.Ex (off d g H1) (off d g H2)) : StW H H2 d g c f sm zs :=
  ⟨ex_off d g H2 _ _ (e _ _ (off_of h.hf h.n1 h.n2)), e _ _ h.hs, D, h.ex.trans e, h.n1, h.n2, h.n3⟩
theorem StW.new {H H1 : Hp} {d g c f sm p : Addr} {o : HO} {zs : List Str} (h : StW H H1 d g c f sm zs) (hp : H1 p = none) : StW H (upd H1 p o) d g c f sm zs :=
  h.call (h.dr.new hp) (off_ex (Evl.Ex.new hp))
theorem StW.mut {H H1 : Hp} {d g c f sm p : Addr} {o : HO} {zs : List Str} (h : StW H H1 d g c f sm zs) (h0 : H p = none) (nf : p ≠ f) (ns : p ≠ sm) (nd : p ≠ d) (ng : p ≠ g) (nc : p ≠ c) : StW H (upd H1 p o) d g c f sm zs := by
  have hs := off_some h.hs
  exact ⟨by rw [upd_ne nf.symm]; exact h.hf, off_of (by rw [upd_ne ns.symm]; exact hs.2.2) hs.1 hs.2.1, h.dr.mut nd ng nc, off_mut h.ex (off_free h0), h.n1, h.n2, h.n3⟩
theorem StW.free {H H1 : Hp} {d g c f sm p : Addr} {zs : List Str} (h : StW H H1 d g c f sm zs) (hp : H1 p = none) : H p = none ∧ p ≠ f ∧ p ≠ sm ∧ p ≠ d ∧ p ≠ g ∧ p ≠ c := by
  obtain ⟨a1, a2, a3⟩ := h.dr.ned hp
  refine ⟨?_, (ne_of_none h.hf hp).symm, (ne_of_none (off_some h.hs).2.2 hp).symm, a1, a2, a3⟩
  cases e : H p with
  | none => rfl
  | some o =>
    have z := ex_off d g H1 _ _ (h.ex _ _ (off_of e a1 a2))
    rw [hp] at z
    cases z
/-- some names, all different -/
def spWords (K : PySem.W.Frag) : Sp := fun vs H Q _ => ∃ (d g c : Addr) (n : Nat), vs = [.ref d, .int (n : Int)] ∧ DrawAt H d g c ∧ n ≤ 20 ∧
  ∀ (p : Addr) (zs : List Str) (H' : Hp), zs.length = n → zs.Nodup → (∀ z ∈ zs, Nm z) → DrawAt H' d g c → Evl.Ex (off d g H) (off d g H') → H p = none → off d g H' p = some (.lst (zs.map V.str)) → Q (.ref p) H'
end Rw
end T_M0

section T_M1
set_option Elab.async false
set_option linter.all false
set_option maxRecDepth 100000
set_option maxHeartbeats 1000000
namespace Rw
open PySem L2 PyProof.Rows
/-! ### tables: from names to places -/
def tkv (tb : List (Str × V)) : List (Key × V) := tb.map fun q => (Sum.inr q.1, q.2)
/-- a place of z for the goal e -/
def PlaceOk (zs : List Str) (e z : Str) (v : V) : Prop := v = .non ∨ v = .str e ∨ ∃ y ∈ zs, y ≠ z ∧ v = .str y
structure TabOk (zs : List Str) (e : Str) (tb : List (Str × V)) : Prop where
  ks : (tb.map (·.1)).Perm zs
  ps : ∀ q ∈ tb, PlaceOk zs e q.1 q.2
theorem tkv_none {tb : List (Str × V)} {z : Str} (h : z ∉ tb.map (·.1)) : valV (tkv tb) (Sum.inr z) = none := by
  induction tb with
  | nil => rfl
  | cons q r ih =>
    have h1 : q.1 ≠ z := fun e => h (by rw [← e]; exact List.mem_cons_self)
    show valV ((Sum.inr q.1, q.2) :: tkv r) (Sum.inr z) = none
    rw [valV_neg (fun e => h1 (Sum.inr.inj e))]
    exact ih fun hr => h (List.mem_cons_of_mem _ hr)
theorem tkv_some {tb : List (Str × V)} {z : Str} (h : z ∈ tb.map (·.1)) : ∃ v, valV (tkv tb) (Sum.inr z) = some v ∧ (z, v) ∈ tb := by
  induction tb with
  | nil => cases h
  | cons q r ih =>
    by_cases e : q.1 = z
    · refine ⟨q.2, ?_, ?_⟩
      · exact valV_pos (p := (Sum.inr q.1, q.2)) (by rw [e])
      · rw [← e]; exact List.mem_cons_self
    · rcases List.mem_cons.mp h with h | h
      · exact absurd h.symm e
      · obtain ⟨v, h1, h2⟩ := ih h
        refine ⟨v, ?_, List.mem_cons_of_mem _ h2⟩
        show valV ((Sum.inr q.1, q.2) :: tkv r) (Sum.inr z) = some v
        rw [valV_neg (fun x => e (Sum.inr.inj x))]
        exact h1
theorem tkv_new {tb : List (Str × V)} {z : Str} {v : V} (h : z ∉ tb.map (·.1)) : putK (tkv tb) (Sum.inr z) v = tkv (tb ++ [(z, v)]) := by
  rw [putK_new _ (tkv_none h)]
  unfold tkv
  rw [List.map_append]
  rfl
theorem tkv_len (tb : List (Str × V)) : (tkv tb).length = tb.length := by unfold tkv; rw [List.length_map]
theorem str_at {ws : List Str} {i : Nat} {y : V} (h : (ws.map V.str)[i]? = some y) : ∃ z, ws[i]? = some z ∧ y = V.str z := by
  rw [List.getElem?_map] at h
  cases e : ws[i]? with
  | none => rw [e] at h; cases h
  | some z => rw [e] at h; exact ⟨z, rfl, (Option.some.inj h).symm⟩
theorem strs_of : ∀ l : List V, (∀ y ∈ l, ∃ z : Str, y = V.str z) → ∃ ws : List Str, l = ws.map V.str
  | [], _ => ⟨[], rfl⟩
  | y :: r, h => by
    obtain ⟨z, rfl⟩ := h y List.mem_cons_self
    obtain ⟨ws, rfl⟩ := strs_of r fun u hu => h u (List.mem_cons_of_mem _ hu)
    exact ⟨z :: ws, rfl⟩
theorem perm_strs {ys : List V} {zs : List Str} (h : ys.Perm (zs.map V.str)) : ∃ ws : List Str, ys = ws.map V.str ∧ ws.Perm zs := by
  obtain ⟨ws, rfl⟩ := strs_of ys fun y hy => by
    obtain ⟨z, _, e⟩ := List.mem_map.mp (h.subset hy)
    exact ⟨z, e.symm⟩
  refine ⟨ws, rfl, ?_⟩
  have := h.map fun v : V => match v with | .str z => z | _ => Str.empty
  rw [List.map_map, List.map_map] at this
  have i1 : ((fun v : V => match v with | .str z => z | _ => Str.empty) ∘ V.str) = id := rfl
  rw [i1, List.map_id, List.map_id] at this
  exact this
theorem merge_app : ∀ (tb acc : List (Str × V)), ((acc ++ tb).map (·.1)).Nodup → mergeK (tkv acc) (tkv tb) = tkv (acc ++ tb)
  | [], acc, _ => by rw [List.append_nil]; rfl
  | q :: r, acc, h => by
    have h1 : q.1 ∉ acc.map (·.1) := fun hm => by
      rw [List.map_append] at h
      exact (List.nodup_append.mp h).2.2 q.1 hm q.1 List.mem_cons_self rfl
    show mergeK (putK (tkv acc) (Sum.inr q.1) q.2) (tkv r) = tkv (acc ++ q :: r)
    rw [tkv_new h1, merge_app r (acc ++ [(q.1, q.2)]) (by simpa using h)]
    simp
theorem merge_tkv {tb : List (Str × V)} (h : (tb.map (·.1)).Nodup) : mergeK [] (tkv tb) = tkv tb := merge_app tb [] h
theorem cut_last (xs : List V) : cutV xs none (some (-1)) = xs.dropLast := by
  unfold cutV
  rw [show HT.sIx xs.length 0 none = 0 from rfl]
  have e : HT.sIx xs.length xs.length (some (-1)) = xs.length - 1 := by
    unfold HT.sIx
    simp
    omega
  rw [e, List.drop_zero, Nat.sub_zero, List.dropLast_eq_take]
theorem tkv_old {tb : List (Str × V)} {z : Str} {v : V} (h : z ∈ tb.map (·.1)) : putK (tkv tb) (Sum.inr z) v = tkv (tb.map fun q => if q.1 = z then (q.1, v) else q) := by
  unfold putK
  obtain ⟨u, hu, _⟩ := tkv_some h
  rw [valV_any, hu]
  rw [if_pos (show (some u).isSome = true from rfl)]
  unfold tkv
  rw [List.map_map, List.map_map]
  refine List.map_congr_left fun q _ => ?_
  show (if (Sum.inr q.1 : Key) = Sum.inr z then ((Sum.inr q.1 : Key), v) else (Sum.inr q.1, q.2)) = (Sum.inr (if q.1 = z then (q.1, v) else q).1, (if q.1 = z then (q.1, v) else q).2)
  by_cases e : q.1 = z
  · rw [if_pos e, if_pos (congrArg Sum.inr e)]
  · rw [if_neg e, if_neg fun w => e (Sum.inr.inj w)]
theorem TabOk.put {zs : List Str} {e z : Str} {tb : List (Str × V)} {v : V} (h : TabOk zs e tb) (hv : PlaceOk zs e z v) : TabOk zs e (tb.map fun q => if q.1 = z then (q.1, v) else q) := by
  refine ⟨?_, ?_⟩
  · have e1 : (tb.map fun q => if q.1 = z then (q.1, v) else q).map (·.1) = tb.map (·.1) := by
      rw [List.map_map]
      refine List.map_congr_left fun q _ => ?_
      show (if q.1 = z then (q.1, v) else q).1 = q.1
      by_cases e : q.1 = z
      · rw [if_pos e]
      · rw [if_neg e]
    rw [e1]
    exact h.ks
  · intro q hq
    obtain ⟨r, hr, rfl⟩ := List.mem_map.mp hq
    by_cases e : r.1 = z
    · rw [if_pos e]
      show PlaceOk zs _ r.1 v
      rw [e]
      exact hv
    · rw [if_neg e]
      exact h.ps r hr
/-- a row of names, each of which leads to the next one, the last one to e -/
def pathTab (ws : List Str) (e : Str) : List (Str × V) := ws.zip ((ws ++ [e]).tail.map V.str)
theorem pathTab_get {ws : List Str} {e x : Str} {i : Nat} (h : ws[i]? = some x) : ∃ y, (ws ++ [e])[i + 1]? = some y ∧ (pathTab ws e)[i]? = some (x, .str y) := by
  have hi : i < ws.length := (List.getElem?_eq_some_iff.mp h).1
  have h1 : i + 1 < (ws ++ [e]).length := by simp; omega
  refine ⟨(ws ++ [e])[i + 1], List.getElem?_eq_getElem h1, ?_⟩
  unfold pathTab
  rw [List.getElem?_zip_eq_some]
  refine ⟨h, ?_⟩
  rw [List.getElem?_map, List.getElem?_tail, List.getElem?_eq_getElem h1]
  rfl
theorem pathTab_keys (ws : List Str) (e : Str) : (pathTab ws e).map (·.1) = ws := by
  unfold pathTab
  exact List.map_fst_zip (by simp)
theorem pathTab_ok {ws zs : List Str} {e : Str} (hw : ws.Perm zs) (hnd : zs.Nodup) : TabOk zs e (pathTab ws e) := by
  refine ⟨by rw [pathTab_keys]; exact hw, ?_⟩
  rintro ⟨x, v⟩ hq
  obtain ⟨i, hi, hi'⟩ := List.getElem_of_mem hq
  have hx : ws[i]? = some x := by
    have := congrArg (fun l => l[i]?) (pathTab_keys ws e)
    simp only [List.getElem?_map, List.getElem?_eq_getElem hi, hi', Option.map_some] at this
    exact this.symm
  obtain ⟨y, h1, h2⟩ := pathTab_get (e := e) hx
  rw [List.getElem?_eq_getElem hi, hi'] at h2
  have hv : v = .str y := congrArg Prod.snd (Option.some.inj h2)
  show PlaceOk zs e x v
  subst hv
  have wnd : ws.Nodup := hw.nodup_iff.mpr hnd
  by_cases hl : i + 1 < ws.length
  · rw [List.getElem?_append_left hl] at h1
    refine .inr (.inr ⟨y, hw.subset (List.mem_of_getElem? h1), fun q => ?_, rfl⟩)
    subst q
    have := (List.getElem?_inj (i := i + 1) (j := i) hl wnd).mp (h1.trans hx.symm)
    omega
  · have hi2 : i < ws.length := (List.getElem?_eq_some_iff.mp hx).1
    rw [List.getElem?_append_right (by omega), show i + 1 - ws.length = 0 by omega] at h1
    exact .inr (.inl (congrArg V.str (Option.some.inj h1).symm))
/-- a new table of the names at a list, for a goal -/
def spTab (K : PySem.W.Frag) : Sp := fun vs H Q _ => ∃ (d g c a : Addr) (zs : List Str) (e : Str), vs = [.ref d, .ref a, .str e] ∧ DrawAt H d g c ∧ SqL K (off d g H) a (zs.map V.str) ∧ zs.Nodup ∧ (∀ z ∈ zs, Nm z) ∧ Nm e ∧ e ∉ zs ∧ zs.length ≤ 10 ∧
  ∀ (p : Addr) (tb : List (Str × V)) (H' : Hp), TabOk zs e tb → DrawAt H' d g c → Evl.Ex (off d g H) (off d g H') → H p = none → off d g H' p = some (.dK (tkv tb)) → Q (.ref p) H'
/-- a table that is like another one -/
def spNear (K : PySem.W.Frag) : Sp := fun vs H Q _ => ∃ (d g c t : Addr) (zs : List Str) (e : Str) (tb : List (Str × V)), vs = [.ref d, .ref t, .str e] ∧ DrawAt H d g c ∧ off d g H t = some (.dK (tkv tb)) ∧ TabOk zs e tb ∧ zs.Nodup ∧ 0 < zs.length ∧ zs.length ≤ 10 ∧
  ∀ (p : Addr) (tb' : List (Str × V)) (H' : Hp), TabOk zs e tb' → DrawAt H' d g c → Evl.Ex (off d g H) (off d g H') → H p = none → off d g H' p = some (.dK (tkv tb')) → Q (.ref p) H'
end Rw
end T_M1

section T_M2
set_option Elab.async false
set_option linter.all false
set_option maxRecDepth 100000
set_option maxHeartbeats 1000000
namespace Rw
open PySem L2 PyProof.Rows
theorem ex_free {d g p : Addr} {H H' : Hp} (x : Evl.Ex (off d g H) (off d g H')) (h1 : p ≠ d) (h2 : p ≠ g) (h : H' p = none) : H p = none := by
  cases e : H p with
  | none => rfl
  | some o =>
    have z := ex_off d g H' _ _ (x _ _ (off_of e h1 h2))
    rw [h] at z
    cases z
/-- at p a pair of tables for the goal e -/
structure PairAt (H : Hp) (zs : List Str) (e : Str) (p po pn : Addr) (t1 t2 : List (Str × V)) : Prop where
  hp : H p = some (.tup [.ref po, .ref pn])
  ho : H po = some (.dK (tkv t1))
  hn : H pn = some (.dK (tkv t2))
  o1 : TabOk zs e t1
  o2 : TabOk zs e t2
theorem PairAt.ex {H H' : Hp} {zs : List Str} {e : Str} {p po pn : Addr} {t1 t2 : List (Str × V)} (h : PairAt H zs e p po pn t1 t2) (x : Evl.Ex H H') : PairAt H' zs e p po pn t1 t2 := ⟨x _ _ h.hp, x _ _ h.ho, x _ _ h.hn, h.o1, h.o2⟩
def spPair (K : PySem.W.Frag) : Sp := fun vs H Q _ => ∃ (d g c a : Addr) (zs : List Str) (e : Str), vs = [.ref d, .ref a, .str e] ∧ DrawAt H d g c ∧ SqL K (off d g H) a (zs.map V.str) ∧ zs.Nodup ∧ (∀ z ∈ zs, Nm z) ∧ Nm e ∧ e ∉ zs ∧ 0 < zs.length ∧ zs.length ≤ 10 ∧
  ∀ (p po pn : Addr) (t1 t2 : List (Str × V)) (H' : Hp), DrawAt H' d g c → Evl.Ex (off d g H) (off d g H') → PairAt (off d g H') zs e p po pn t1 t2 → H p = none → H po = none → H pn = none → Q (.ref p) H'
/-- the rows of a model: from each goal to a pair of tables -/
def RowsOk (H : Hp) (dots : List Str) (rows : List (Str × V)) : Prop := ∀ q ∈ rows, ∃ (p po pn : Addr) (t1 t2 : List (Str × V)), q.2 = .ref p ∧ PairAt H dots q.1 p po pn t1 t2
theorem RowsOk.ex {H H' : Hp} {dots : List Str} {rows : List (Str × V)} (h : RowsOk H dots rows) (x : Evl.Ex H H') : RowsOk H' dots rows := fun q hq => by
  obtain ⟨p, po, pn, t1, t2, e, z⟩ := h q hq
  exact ⟨p, po, pn, t1, t2, e, z.ex x⟩
theorem TabOk.perm {zs ys : List Str} {e : Str} {tb : List (Str × V)} (h : TabOk zs e tb) (hp : zs.Perm ys) : TabOk ys e tb := by
  refine ⟨h.ks.trans hp, fun q hq => ?_⟩
  rcases h.ps q hq with z | z | ⟨y, hy, hne, z⟩
  · exact .inl z
  · exact .inr (.inl z)
  · exact .inr (.inr ⟨y, hp.subset hy, hne, z⟩)
theorem tkv_inj : ∀ {t1 t2 : List (Str × V)}, tkv t1 = tkv t2 → t1 = t2
  | [], [], _ => rfl
  | [], _ :: _, h => by cases h
  | _ :: _, [], h => by cases h
  | a :: r, b :: q, h => by
    have h1 : ((Sum.inr a.1 : Key), a.2) :: tkv r = (Sum.inr b.1, b.2) :: tkv q := h
    obtain ⟨h2, h3⟩ := List.cons.inj h1
    obtain ⟨e1, e2⟩ := Prod.mk.inj h2
    rw [tkv_inj h3, Prod.ext (Sum.inr.inj e1) e2]
theorem tab_ne {H : Hp} {dots zs : List Str} {e : Str} {rows t1 : List (Str × V)} {t po : Addr} (ht : H t = some (.dK (tkv rows))) (hr : RowsOk H dots rows) (h0 : rows ≠ []) (ho : H po = some (.dK (tkv t1))) (o1 : TabOk zs e t1) : po ≠ t := fun z => by
  subst z
  rw [ht] at ho
  have e1 := tkv_inj (HO.dK.inj (Option.some.inj ho))
  cases rows with
  | nil => exact h0 rfl
  | cons q r =>
    obtain ⟨p, _, _, _, _, e2, _⟩ := hr q List.mem_cons_self
    have h3 := o1.ps q (by rw [← e1]; exact List.mem_cons_self)
    rw [e2] at h3
    rcases h3 with h3 | h3 | ⟨_, _, _, h3⟩ <;> cases h3
theorem tkv_keysV (tb : List (Str × V)) : ((tkv tb).map fun kv => kV kv.1) = (tb.map (·.1)).map V.str := by
  unfold tkv
  rw [List.map_map, List.map_map]
  rfl
/-- what a model is, without the heap -/
structure ModelOk (ends dots ss ps : List Str) : Prop where
  e0 : 0 < ends.length
  e2 : ends.length ≤ 2
  en : ends.Nodup
  es : sortedS ends = true
  em : ∀ z ∈ ends, Nm z
  d0 : 0 < dots.length
  d6 : dots.length ≤ 6
  dn : dots.Nodup
  ds : sortedS dots = true
  dm : ∀ z ∈ dots, Nm z
  ed : ∀ z ∈ ends, z ∉ dots
  sn : ss.Nodup
  sss : sortedS ss = true
  sd : ∀ z ∈ ss, z ∈ dots
  pn : ps.Nodup
  p2 : ps.length ≤ 2
  pd : ∀ z ∈ ps, z ∈ dots
def mkv (tb db sb pb : Addr) : List (Key × V) := [(.inr "tables", .ref tb), (.inr "dots", .ref db), (.inr "sources", .ref sb), (.inr "posts", .ref pb)]
theorem mkv_tables (tb db sb pb : Addr) : valV (mkv tb db sb pb) (.inr "tables") = some (.ref tb) := by kernel_rfl
theorem mkv_dots (tb db sb pb : Addr) : valV (mkv tb db sb pb) (.inr "dots") = some (.ref db) := by kernel_rfl
theorem mkv_sources (tb db sb pb : Addr) : valV (mkv tb db sb pb) (.inr "sources") = some (.ref sb) := by kernel_rfl
theorem mkv_posts (tb db sb pb : Addr) : valV (mkv tb db sb pb) (.inr "posts") = some (.ref pb) := by kernel_rfl
/-- a model stands at m -/
structure ModelAt (H : Hp) (m tb db sb pb : Addr) (ends dots ss ps : List Str) (rows : List (Str × V)) : Prop where
  hm : H m = some (.dK (mkv tb db sb pb))
  ht : H tb = some (.dK (tkv rows))
  hd : H db = some (.lst (dots.map V.str))
  hs : H sb = some (.lst (ss.map V.str))
  hp : H pb = some (.lst (ps.map V.str))
  rk : rows.map (·.1) = ends
  ro : RowsOk H dots rows
  ok : ModelOk ends dots ss ps
theorem ModelAt.ex {H H' : Hp} {m tb db sb pb : Addr} {ends dots ss ps : List Str} {rows : List (Str × V)} (h : ModelAt H m tb db sb pb ends dots ss ps rows) (x : Evl.Ex H H') : ModelAt H' m tb db sb pb ends dots ss ps rows :=
  ⟨x _ _ h.hm, x _ _ h.ht, x _ _ h.hd, x _ _ h.hs, x _ _ h.hp, h.rk, h.ro.ex x, h.ok⟩
/-- a new model -/
def spModel : Sp := fun vs H Q _ => ∃ (d g c : Addr) (e k : Int), vs = [.ref d, .int e, .int k] ∧ DrawAt H d g c ∧ 0 < e ∧ e ≤ 2 ∧ 0 < k ∧ k ≤ 6 ∧
  ∀ (m tb db sb pb : Addr) (ends dots ss ps : List Str) (rows : List (Str × V)) (H' : Hp), DrawAt H' d g c → Evl.Ex (off d g H) (off d g H') → ModelAt (off d g H') m tb db sb pb ends dots ss ps rows → Q (.ref m) H'
end Rw
end T_M2

section T_S0
set_option Elab.async false
set_option linter.all false
set_option maxRecDepth 100000
set_option maxHeartbeats 2000000
namespace Rw
open PySem PySem.Spec L2 PyProof.Rows
/-! ### sets of texts -/
def txt (e : Int × Value) : Str := match e.2 with | .str z _ => z | _ => Str.empty
def GoodT (w : World) (e : Int × Value) : Prop := ∃ z tk, e.2 = Value.str z tk ∧ e.1 = hashStr w z
/-- at a the set of the texts ks -/
def SetX (w : World) (h : Heap) (a : Addr) (ks : List Str) : Prop :=
  ∃ o es ep t, h.get? a = some o ∧ o.ExactSet ∧ o.data = .set es ep t ∧ (∀ e ∈ es.toList, GoodT w e) ∧ (es.toList.map txt).Perm ks ∧ ks.Nodup ∧ es.size < scanBound ∧ t.fits es.size = true ∧
    Ris t.place.toList ∧ (w.params.followText "set-order" = true ∨ t.led = true)
section
variable {P : Program} {w : World} {A : Around} {E : Value → Shared → Prop} {s : Shared} {a : Addr} {ks : List Str}
theorem SetX.keep {h h' : Heap} (R : SetX w h a ks) (k : ∀ o, h.get? a = some o → h'.get? a = some o) : SetX w h' a ks := by
  obtain ⟨o, es, ep, t, ho, rest⟩ := R
  exact ⟨o, es, ep, t, k o ho, rest⟩
theorem SetX.size {h : Heap} (R : SetX w h a ks) : ∃ o es ep t, h.get? a = some o ∧ o.ExactSet ∧ o.data = .set es ep t ∧ t.fits es.size = true ∧ es.size = ks.length := by
  obtain ⟨o, es, ep, t, ho, hex, hd, _, pm, _, _, hf, _⟩ := R
  refine ⟨o, es, ep, t, ho, hex, hd, hf, ?_⟩
  rw [← pm.length_eq, List.length_map, Array.length_toList]
theorem goodT_elems {l : List (Int × Value)} (g : ∀ e ∈ l, GoodT w e) : ElemsOf (PySem.strKind P w) l := fun e he => by
  obtain ⟨z, tk, h1, h2⟩ := g e he
  refine ⟨⟨z, by rw [h1]; exact strKind_is _ _ _ _, h2⟩, ?_⟩
  rw [h1]
  rfl
theorem goodT_is {e : Int × Value} (g : GoodT w e) (z : Str) : (PySem.strKind P w).is z e.2 = true ↔ txt e = z := by
  obtain ⟨y, tk, h1, _⟩ := g
  unfold txt
  rw [h1]
  show ((y == z) = true) ↔ y = z
  exact beq_iff_eq
/-- what a new element leaves -/
theorem setX_tail {g : Bool → Sem Unit} (quiet : ∀ (b : Bool) (s₁ : Shared) (Q' : Unit → Shared → Prop), Q' () s₁ → wpAny (model P w) A (g b) Q' E s₁) {o : Obj} {es : Array (Int × Value)} {ep : Nat} {t : SetTable}
    (ho : s.heap.get? a = some o) (hex : o.ExactSet) (hd : o.data = .set es ep t) {es1 : Array (Int × Value)} {t2 : SetTable} (g1 : ∀ e ∈ es1.toList, GoodT w e) (pm1 : (es1.toList.map txt).Perm ks) (nd1 : ks.Nodup)
    (few : es1.size < scanBound) (fit2 : t2.fits es1.size = true) (rise : Ris t2.place.toList) (order : w.params.followText "set-order" = true ∨ t2.led = true) {wasDummy : Bool} {R : Option Bool → Shared → Prop}
    (hR : ∀ h', Heap.SameBut a s.heap h' → SetX w h' a ks → R (some true) { s with heap := h' }) :
    wpAny (model P w) A (do
        storeSet a es1 t2
        if (!wasDummy && t2.tooFull) = true then do
            g (relayAll t2 es1 (SetTable.grown es1.size)).2.2
            storeSet a (relayAll t2 es1 (SetTable.grown es1.size)).1 (relayAll t2 es1 (SetTable.grown es1.size)).2.1
            pure (some true)
          else pure (some true)) R E s := by
  refine wpAny_bind (wpAny_storeSet_of ho hd ?_ (fits_of_scanBound few))
  have at1 := store_at (es' := es1) (t' := t2) ho hd
  have same1 := Heap.SameBut.update s.heap a (Obj.putSet es1 t2)
  split
  · have perm3 := relayAll_perm t2 es1 (SetTable.grown es1.size)
    have fit3 := relayAll_fits t2 es1 (SetTable.grown es1.size)
    have rise3 := relayAll_ris t2 es1 (SetTable.grown es1.size)
    have led3 := relayAll_led t2 es1 (SetTable.grown es1.size)
    generalize relayAll t2 es1 (SetTable.grown es1.size) = out at perm3 fit3 rise3 led3 ⊢
    obtain ⟨es2, t3, gave⟩ := out
    dsimp only at perm3 fit3 rise3 led3 ⊢
    have same_size : es2.size = es1.size := by rw [← Array.length_toList, perm3.length_eq, Array.length_toList]
    have few2 : es2.size < scanBound := by omega
    refine wpAny_bind (quiet _ _ _ ?_)
    refine wpAny_bind (wpAny_storeSet_of at1 rfl ?_ (fits_of_scanBound few2))
    refine wpAny_pure (hR _ (same1.trans (Heap.SameBut.update _ a _)) ?_)
    exact ⟨_, es2, _, t3, store_at (es' := es2) (t' := t3) at1 rfl, hex, rfl, fun e he => g1 e (perm3.mem_iff.mp he), (perm3.map txt).trans pm1, nd1, few2, fit3, rise3, order.imp id fun z => by rw [led3]; exact z⟩
  · exact wpAny_pure (hR _ same1 ⟨_, es1, _, t2, at1, hex, rfl, g1, pm1, nd1, few, fit2, rise, order⟩)
/-- a text is put in -/
theorem setX_add {z : Str} {tk : Tok} {Q : Bool → Shared → Prop} (R : SetX w s.heap a ks) (room : ks.length + 1 < scanBound)
    (hQ : ∀ h', Heap.SameBut a s.heap h' → SetX w h' a (if z ∈ ks then ks else z :: ks) → ∀ b, Q b { s with heap := h' }) :
    wpAny (model P w) A (setAddHashed a (.str z tk) (hashStr w z)) Q E s := by
  obtain ⟨o, es, ep, t, ho, hex, hd, g, pm, nd, hb, hf, hr, hl⟩ := R
  have is_z : (PySem.strKind P w).is z (.str z tk) = true := strKind_is _ _ _ _
  have scans : (Value.str z tk).scannable = true := rfl
  have elems : ElemsOf (PySem.strKind P w) es.toList := goodT_elems g
  have same_hash : hashStr w z = (PySem.strKind P w).hash z := rfl
  rw [same_hash]
  unfold setAddHashed setAddHashedIn
  refine wpAny_holding (wpAny_bind (wpAny_setState_of ho hd hf ?_))
  dsimp only
  rw [byScan_of scans hb elems]
  simp only [↓reduceIte]
  unfold setAddByScan
  refine wpAny_bind ?_
  refine wpAny_bind (wpAny_rule ?_)
  refine wpAny_bind (wpAny_setScan_of is_z ho hd hf elems ?_)
  cases there : List.findIdx? (fun e => (PySem.strKind P w).is z e.2) es.toList with
  | some j =>
    dsimp only
    obtain ⟨hj, at_j, _⟩ := List.findIdx?_eq_some_iff_getElem.mp there
    have mem : z ∈ ks := pm.mem_iff.mp (List.mem_map.mpr ⟨es.toList[j], List.getElem_mem hj, (goodT_is (P := P) (g _ (List.getElem_mem hj)) z).mp at_j⟩)
    refine wpAny_pure (wpAny_pure ?_)
    have q := hQ s.heap (Heap.SameBut.refl a s.heap)
    rw [if_pos mem] at q
    exact q ⟨o, es, ep, t, ho, hex, hd, g, pm, nd, hb, hf, hr, hl⟩ _
  | none =>
    dsimp only
    have notin : z ∉ ks := fun mem => by
      obtain ⟨e, he, q⟩ := List.mem_map.mp (pm.mem_iff.mpr mem)
      have no := List.findIdx?_eq_none_iff.mp there e he
      rw [(goodT_is (P := P) (g e he) z).mpr q] at no
      cases no
    have quiet : ∀ (b : Bool) {s₁ : Shared} {Q' : Unit → Shared → Prop}, Q' () s₁ → wpAny (model P w) A (match b with | true => rule "set.scan.the-table-gave-way" | false => pure ()) Q' E s₁ :=
      fun b s₁ Q' q => by cases b <;> first | exact wpAny_pure q | exact wpAny_rule q
    have perm1 := layNew_perm t es ((PySem.strKind P w).hash z) (.str z tk)
    have fit1 := layNew_fits t es ((PySem.strKind P w).hash z) (.str z tk)
    have rise1 := layNew_ris t es ((PySem.strKind P w).hash z) (.str z tk) hr
    have led1 := layNew_led t es ((PySem.strKind P w).hash z) (.str z tk)
    generalize layNew t es ((PySem.strKind P w).hash z) (.str z tk) = out at perm1 fit1 rise1 led1 ⊢
    obtain ⟨es1, t1, wasDummy, gave⟩ := out
    dsimp only at perm1 fit1 rise1 led1 ⊢
    rw [Array.toList_push] at perm1
    have permc : es1.toList.Perm (((PySem.strKind P w).hash z, Value.str z tk) :: es.toList) := perm1.trans (List.perm_append_singleton _ _)
    have permk : (es1.toList.map txt).Perm (z :: ks) := (permc.map txt).trans (List.Perm.cons _ pm)
    have good1 : ∀ e ∈ es1.toList, GoodT w e := fun e he => by
      rcases List.mem_cons.mp (permc.mem_iff.mp he) with q | q
      · rw [q]; exact ⟨z, tk, rfl, rfl⟩
      · exact g e q
    have nd1 : (z :: ks).Nodup := List.nodup_cons.mpr ⟨notin, nd⟩
    have size1 : es1.size = ks.length + 1 := by
      have := permk.length_eq
      rw [List.length_map, Array.length_toList] at this
      exact this
    have few1 : es1.size < scanBound := by omega
    have order1 : w.params.followText "set-order" = true ∨ t1.led = true := hl.imp id fun q => by rw [led1]; exact q
    have fin : ∀ h', Heap.SameBut a s.heap h' → SetX w h' a (z :: ks) → Q true { s with heap := h' } := fun h' sb r => by
      have q := hQ h' sb
      rw [if_neg notin] at q
      exact q r _
    refine wpAny_bind (quiet _ ?_)
    split
    · refine wpAny_bind ?_
      rw [hashByValue_scannable 8 scans]
      refine wpAny_pure ?_
      refine setX_tail ?_ ho hex hd good1 permk nd1 few1 ?_ ?_ ?_ ?_
      · intro b s₁ Q' q; cases b <;> first | exact wpAny_pure q | exact wpAny_rule q
      · first | (split <;> first | exact fit1 | exact SetTable.fits_plain_off fit1) | exact fit1
      · first | (split <;> exact rise1) | exact rise1
      · first | (split <;> exact order1) | exact order1
      · intro h' sb r; dsimp only; exact wpAny_pure (fin h' sb r)
    · refine wpAny_bind (wpAny_pure ?_)
      simp only [↓reduceIte]
      refine setX_tail ?_ ho hex hd good1 permk nd1 few1 fit1 rise1 order1 ?_
      · intro b s₁ Q' q; cases b <;> first | exact wpAny_pure q | exact wpAny_rule q
      · intro h' sb r; dsimp only; exact wpAny_pure (fin h' sb r)
end
end Rw
end T_S0

section T_S1
set_option Elab.async false
set_option linter.all false
set_option maxRecDepth 100000
set_option maxHeartbeats 4000000
namespace Rw
open PySem PySem.Spec L2 PyProof.Rows
/-! ### set(texts) -/
def put1 (ks : List Str) (z : Str) : List Str := if z ∈ ks then ks else z :: ks
def seen (l : List Str) : List Str := l.foldl put1 []
theorem seen_snoc (l : List Str) (z : Str) : seen (l ++ [z]) = put1 (seen l) z := by
  unfold seen
  rw [List.foldl_append]
  rfl
theorem seen_rev : ∀ l : List Str, (seen l).Nodup ∧ (∀ z, z ∈ seen l ↔ z ∈ l) ∧ (seen l).length ≤ l.length := by
  have go : ∀ (r : List Str), (seen r.reverse).Nodup ∧ (∀ z, z ∈ seen r.reverse ↔ z ∈ r.reverse) ∧ (seen r.reverse).length ≤ r.reverse.length := fun r => by
    induction r with
    | nil => exact ⟨List.nodup_nil, fun z => Iff.rfl, Nat.le_refl _⟩
    | cons x r ih =>
      obtain ⟨h1, h2, h3⟩ := ih
      rw [List.reverse_cons, seen_snoc]
      unfold put1
      by_cases m : x ∈ seen r.reverse
      · rw [if_pos m]
        refine ⟨h1, fun z => ?_, by simp; rw [List.length_reverse] at h3; omega⟩
        rw [h2, List.mem_append, List.mem_singleton]
        exact ⟨.inl, fun q => q.elim id fun e => by rw [e]; exact (h2 x).mp m⟩
      · rw [if_neg m]
        refine ⟨List.nodup_cons.mpr ⟨m, h1⟩, fun z => ?_, by simp; rw [List.length_reverse] at h3; omega⟩
        rw [List.mem_cons, h2, List.mem_append, List.mem_singleton]
        exact Or.comm
  intro l
  have := go l.reverse
  rw [List.reverse_reverse] at this
  exact this
theorem seen_perm {l : List Str} (h : l.Nodup) : (seen l).Perm l := by
  obtain ⟨h1, h2, _⟩ := seen_rev l
  exact (List.perm_ext_iff_of_nodup h1 h).mpr h2
theorem seen_len {l : List Str} (h : l.Nodup) : (seen l).length = l.length := (seen_perm h).length_eq
section
variable {prog : Program} {w : World} {A : Around} {R : Result → Shared → Prop} {I : Addr} {fp wr : List Addr} {G : Array GenState → Array GenState → Prop} {n : Nat} {P : Nat → Value → Prop} {St : Nat → Shared → Prop}
theorem setX_loop (W : WalksS prog w A.in1 I fp wr G n P St) (S : Addr) (apart : S ∉ fp) (xs : List Str) (many : xs.length = n) (few : n < 1000) (texts : ∀ i v, P i v → ∃ t, v = .str (xs.getD i Str.empty) t) :
    ∀ (left i : Nat) (s : Shared), n - i = left → i ≤ n → St i s → SetX w s.heap S (seen (xs.take i)) → (∀ s', Moved (S :: wr) G s s' → SetX w s'.heap S (seen xs) → R (.ok (.ret .none)) s') →
      codeAny (model prog w) A (.builtin "set.update.loop" ⟨[.ref S, .ref I], []⟩) R s := by
  have apart2 : S ∉ wr := fun h => apart (W.sub _ h)
  have wider : ∀ b ∈ wr, b ∈ S :: wr := fun b hb => List.mem_cons_of_mem _ hb
  intro left
  induction left with
  | zero =>
    intro i s hl hi here set_s go
    have at_end : i = n := by omega
    subst at_end
    refine codeAny_builtin PyProof.Rows.F.entry_set_update_loop ?_
    rw [Around.under_plainId PyProof.Rows.F.plain_set_update_loop _]
    show wpAny _ A.in1 (pyNext (.ref I) >>= _) _ _ s
    refine wpAny_bind (W.done s _ _ here fun s' moved => ?_)
    show wpAny _ A.in1 (ret Value.none) _ _ s'
    refine wpAny_pure (go s' (moved.mono wider) ?_)
    rw [List.take_of_length_le (by omega)] at set_s
    exact set_s.keep fun o e => moved.heap S o apart2 e
  | succ left ih =>
    intro i s hl hi here set_s go
    have more : i < n := by omega
    refine codeAny_builtin PyProof.Rows.F.entry_set_update_loop ?_
    rw [Around.under_plainId PyProof.Rows.F.plain_set_update_loop _]
    show wpAny _ A.in1 (pyNext (.ref I) >>= _) _ _ s
    refine wpAny_bind (W.item i s _ _ more here fun v s' is_v here' moved => ?_)
    obtain ⟨t, rfl⟩ := texts i v is_v
    have set_s' : SetX w s'.heap S (seen (xs.take i)) := set_s.keep fun o e => moved.heap S o apart2 e
    have is_i : xs.getD i Str.empty = xs[i]'(by omega) := by rw [List.getD_eq_getElem?_getD, List.getElem?_eq_getElem (by omega)]; rfl
    show wpAny _ A.in1 (holding [Value.str (xs.getD i Str.empty) t] (setAdd S (.str (xs.getD i Str.empty) t)) >>= _) _ _ s'
    refine wpAny_bind (wpAny_holding ?_)
    unfold setAdd
    refine wpAny_holding ?_
    refine wpAny_bind ((PySem.strKind prog w).pyHash (k := xs.getD i Str.empty) (strKind_is _ _ _ _) ?_)
    refine setX_add (P := prog) (s := { s' with toks := s'.toks + 1 }) set_s' ?_ fun h' same set_h b => ?_
    · have := (seen_rev (xs.take i)).2.2
      rw [List.length_take] at this
      unfold scanBound
      omega
    have set_next : SetX w h' S (seen (xs.take (i + 1))) := by
      have e : xs.take (i + 1) = xs.take i ++ [xs.getD i Str.empty] := by rw [List.take_add_one, List.getElem?_eq_getElem (show i < xs.length by omega), is_i]; rfl
      rw [e, seen_snoc]
      exact set_h
    refine wpAny_pure ⟨plainId_quiet PyProof.Rows.F.plain_set_update_loop _, ih (i + 1) _ (by omega) more (W.frame _ s' _ _ here' (Nat.le_succ _) fun b hb o e => ?_) set_next fun s'' moved2 set_all => ?_⟩
    · rw [same.2 b (fun h : b = S => apart (by rw [← h]; exact hb))]
      exact e
    · refine go s'' (Moved.trans W.gtrans ((moved.mono wider).then_heap (Nat.le_succ _) fun b o hb e => ?_) moved2) set_all
      rw [same.2 b (fun h : b = S => hb (by rw [h]; exact List.mem_cons_self))]
      exact e
end
section
variable {prog : Program} {w : World} {A : Around} {E : Value → Shared → Prop} {s : Shared}
theorem call_setX_list {l : Addr} {items : Array Value} {xs : List Str} {Q : Value → Shared → Prop} (hh : A.handled = none) (hl : s.heap.IsList l items) (hi : PyProof.Rows.StrsAre items.toList xs) (few : xs.length < 1000)
    (h : ∀ (h' : Heap) (tk : Nat), SetX w h' s.heap.objs.size (seen xs) → (∀ b o, s.heap.get? b = some o → h'.get? b = some o) → Q (.ref s.heap.objs.size) { s with heap := h', toks := tk }) :
    wpAny (model prog w) A (call (.type "set") [.ref l]) Q E s := by
  obtain ⟨c, tl, mro⟩ := PySem.F.called_set.mro
  have made := PySem.F.called_set.made
  have subs := PySem.F.called_set.sub
  refine wpAny_call (codeAny_of_tree ?_)
  show wpAny _ _ (callAny (.type "set") _) _ _ _
  refine wpAny_pure ⟨Code.quiet_builtin _ (by decide +kernel), codeAny_builtin PySem.F.entry_type_call ?_⟩
  rw [Around.under_plain (weight_type_call_type "set" [.ref l] []) rfl]
  have not_type := PySem.F.called_set.notType
  have creates := PySem.F.called_set.canCreate
  have one := PySem.F.typeCall_set_1 (.ref l)
  repeat (any_goals (first | assumption | wp_step))
  refine codeAny_mono (code_set_led1 (.ref l) (E := E) (Q₁ := fun obj s₁ => obj = .ref s.heap.objs.size ∧ s₁ = { s with heap := s.heap.push { cls := .type "set", dict := none, data := .set #[] 0 (.fresh 0 0 (!w.params.followText "set-order")) } }) ⟨rfl, rfl⟩) fun r s₁ hr => ?_
  cases r with
  | error e => exact hr
  | ok fl =>
    cases fl with
    | ret obj =>
      obtain ⟨rfl, rfl⟩ := hr
      generalize new_is : ({ cls := .type "set", dict := none, data := .set #[] 0 (.fresh 0 0 (!w.params.followText "set-order")) } : Obj) = new
      have at_new : (s.heap.push new).get? s.heap.objs.size = some new := Heap.get?_push_size _ (by rw [← new_is]; rfl)
      have is_set : Shared.TypeIs { s with heap := s.heap.push new } (.ref s.heap.objs.size) "set" := ⟨_, at_new, by rw [← new_is]⟩
      have look_init := PySem.F.called_set.init.lookup
      have bind_init := PySem.F.called_set.init.bind (.ref s.heap.objs.size)
      repeat (any_goals (first | assumption | wp_step))
      refine codeAny_mono (codeAny_call_builtin (R := wants (fun r s₂ => r = .none ∧ ∃ h' tk, s₂ = { s with heap := h', toks := tk } ∧ SetX w h' s.heap.objs.size (seen xs) ∧ (∀ b o, s.heap.get? b = some o → h'.get? b = some o)) E)
        PySem.F.called_set.init.plain PySem.F.entry_set_init (check_set_init_1 is_set ?_)) fun r₂ s₂ hr₂ => ?_
      · obtain ⟨ol, hol, hcl, nl, hdl⟩ := hl
        obtain ⟨ocls, odict, odata, oslots⟩ := ol
        simp only at hcl hdl
        subst hcl; subst hdl
        have at_l : (s.heap.push new).get? l = some { cls := .type "list", dict := odict, data := .seq items nl, slots := oslots } := Heap.get?_push_of_some _ hol
        have no_sub := PySem.F.sub_list_set
        have no_sub2 := PySem.F.sub_list_frozenset
        have no_dict : (Value.type "list" == Value.type "dict") = false := by decide
        have is_l : (s.heap.push new).IsList l items := ⟨_, at_l, rfl, nl, rfl⟩
        have l_lt : l < s.heap.objs.size := Heap.lt_size hol
        have calm3 : A.in1.in1.in1.handled = none := by simp [hh]
        have ne_it : l ≠ (s.heap.push new).objs.size := by
          rw [Heap.size_push]
          exact Nat.ne_of_lt (Nat.lt_succ_of_lt l_lt)
        have apart : s.heap.objs.size ∉ [(s.heap.push new).objs.size, l] := by
          rw [Heap.size_push]
          intro z
          rcases List.mem_cons.mp z with z | z
          · exact absurd z (Nat.ne_of_lt (Nat.lt_succ_self _))
          · exact absurd (List.mem_singleton.mp z) (Nat.ne_of_gt l_lt)
        subst new_is
        unfold Builtin.«set.__init__» noKeywords Builtin.Frozenset.updateFrom
        generalize iter_is : pyIter = PI
        wp_walk
        subst iter_is
        refine wpAny_pyIter_list is_l ?_
        refine wpAny_bind (wpAny_runValue ?_)
        have many : xs.length = items.size := by rw [← StrsAre.len_eq hi, Array.length_toList]
        have texts : ∀ (i : Nat) (v : Value), items[i]? = some v → ∃ t, v = .str (xs.getD i Str.empty) t := fun i v hv => SS.strs_at hi i v (by rw [Array.getElem?_toList]; exact hv)
        refine setX_loop ((Walks.list calm3 _ l ne_it items).toS) s.heap.objs.size apart xs many (by omega) texts (items.size - 0) 0 _ (by omega) (Nat.zero_le _) ⟨⟨_, Heap.get?_push_size _ rfl, rfl, rfl⟩, (is_l.push _)⟩ ?start ?finish
        case start =>
          refine ⟨_, #[], 0, .fresh 0 0 (!w.params.followText "set-order"), Heap.get?_push_of_some _ at_new, ⟨rfl, rfl, rfl⟩, rfl, (fun e he => by cases he), List.Perm.refl _, List.nodup_nil, by decide, by rfl, List.Pairwise.nil, ?_⟩
          cases q : w.params.followText "set-order"
          · exact .inr rfl
          · exact .inl rfl
        case finish =>
          intro s' moved set_all
          obtain ⟨h', g', d', tk', os'⟩ := s'
          have eg : g' = s.gens := moved.gens
          have ed : d' = s.drawn := moved.drawn
          have eo : os' = s.os := moved.os
          subst eg; subst ed; subst eo
          show wpAny _ _ _ _ _ _
          refine wpAny_pure ?_
          show wpAny _ _ (ret Value.none) _ _ _
          refine wpAny_pure ⟨rfl, h', tk', rfl, set_all, fun b o e => ?_⟩
          have b_lt := Heap.lt_size e
          refine moved.heap b o (fun z => ?_) (Heap.get?_push_of_some _ (Heap.get?_push_of_some _ e))
          rcases List.mem_cons.mp z with z | z
          · exact absurd z (Nat.ne_of_lt b_lt)
          · have z := List.mem_singleton.mp z
            rw [Heap.size_push] at z
            exact absurd z (Nat.ne_of_lt (Nat.lt_succ_of_lt b_lt))
      · cases r₂ with
        | error e => exact hr₂
        | ok fl₂ =>
          cases fl₂ with
          | ret r =>
            obtain ⟨rfl, h', tk, rfl, set_all, kept⟩ := hr₂
            repeat (any_goals (first | assumption | wp_step))
            exact h _ _ set_all kept
          | _ => exact hr₂.elim
    | _ => exact hr.elim
theorem call_setX_tuple {l : Addr} {items : Array Value} {xs : List Str} {Q : Value → Shared → Prop} (hh : A.handled = none) (hl : s.heap.IsTuple l items) (hi : PyProof.Rows.StrsAre items.toList xs) (few : xs.length < 1000)
    (h : ∀ (h' : Heap) (tk : Nat), SetX w h' s.heap.objs.size (seen xs) → (∀ b o, s.heap.get? b = some o → h'.get? b = some o) → Q (.ref s.heap.objs.size) { s with heap := h', toks := tk }) :
    wpAny (model prog w) A (call (.type "set") [.ref l]) Q E s := by
  obtain ⟨c, tl, mro⟩ := PySem.F.called_set.mro
  have made := PySem.F.called_set.made
  have subs := PySem.F.called_set.sub
  refine wpAny_call (codeAny_of_tree ?_)
  show wpAny _ _ (callAny (.type "set") _) _ _ _
  refine wpAny_pure ⟨Code.quiet_builtin _ (by decide +kernel), codeAny_builtin PySem.F.entry_type_call ?_⟩
  rw [Around.under_plain (weight_type_call_type "set" [.ref l] []) rfl]
  have not_type := PySem.F.called_set.notType
  have creates := PySem.F.called_set.canCreate
  have one := PySem.F.typeCall_set_1 (.ref l)
  repeat (any_goals (first | assumption | wp_step))
  refine codeAny_mono (code_set_led1 (.ref l) (E := E) (Q₁ := fun obj s₁ => obj = .ref s.heap.objs.size ∧ s₁ = { s with heap := s.heap.push { cls := .type "set", dict := none, data := .set #[] 0 (.fresh 0 0 (!w.params.followText "set-order")) } }) ⟨rfl, rfl⟩) fun r s₁ hr => ?_
  cases r with
  | error e => exact hr
  | ok fl =>
    cases fl with
    | ret obj =>
      obtain ⟨rfl, rfl⟩ := hr
      generalize new_is : ({ cls := .type "set", dict := none, data := .set #[] 0 (.fresh 0 0 (!w.params.followText "set-order")) } : Obj) = new
      have at_new : (s.heap.push new).get? s.heap.objs.size = some new := Heap.get?_push_size _ (by rw [← new_is]; rfl)
      have is_set : Shared.TypeIs { s with heap := s.heap.push new } (.ref s.heap.objs.size) "set" := ⟨_, at_new, by rw [← new_is]⟩
      have look_init := PySem.F.called_set.init.lookup
      have bind_init := PySem.F.called_set.init.bind (.ref s.heap.objs.size)
      repeat (any_goals (first | assumption | wp_step))
      refine codeAny_mono (codeAny_call_builtin (R := wants (fun r s₂ => r = .none ∧ ∃ h' tk, s₂ = { s with heap := h', toks := tk } ∧ SetX w h' s.heap.objs.size (seen xs) ∧ (∀ b o, s.heap.get? b = some o → h'.get? b = some o)) E)
        PySem.F.called_set.init.plain PySem.F.entry_set_init (check_set_init_1 is_set ?_)) fun r₂ s₂ hr₂ => ?_
      · obtain ⟨ol, hol, hcl, nl, hdl⟩ := hl
        obtain ⟨ocls, odict, odata, oslots⟩ := ol
        simp only at hcl hdl
        subst hcl; subst hdl
        have at_l : (s.heap.push new).get? l = some { cls := .type "tuple", dict := odict, data := .seq items nl, slots := oslots } := Heap.get?_push_of_some _ hol
        have no_sub := PySem.F.sub_tuple_set
        have no_sub2 := PySem.F.sub_tuple_frozenset
        have no_dict : (Value.type "tuple" == Value.type "dict") = false := by decide
        have is_l : (s.heap.push new).IsTuple l items := ⟨_, at_l, rfl, nl, rfl⟩
        have l_lt : l < s.heap.objs.size := Heap.lt_size hol
        have calm3 : A.in1.in1.in1.handled = none := by simp [hh]
        have ne_it : l ≠ (s.heap.push new).objs.size := by
          rw [Heap.size_push]
          exact Nat.ne_of_lt (Nat.lt_succ_of_lt l_lt)
        have apart : s.heap.objs.size ∉ [(s.heap.push new).objs.size, l] := by
          rw [Heap.size_push]
          intro z
          rcases List.mem_cons.mp z with z | z
          · exact absurd z (Nat.ne_of_lt (Nat.lt_succ_self _))
          · exact absurd (List.mem_singleton.mp z) (Nat.ne_of_gt l_lt)
        subst new_is
        unfold Builtin.«set.__init__» noKeywords Builtin.Frozenset.updateFrom
        generalize iter_is : pyIter = PI
        wp_walk
        subst iter_is
        refine wpAny_pyIter_tuple is_l ?_
        refine wpAny_bind (wpAny_runValue ?_)
        have many : xs.length = items.size := by rw [← StrsAre.len_eq hi, Array.length_toList]
        have texts : ∀ (i : Nat) (v : Value), items[i]? = some v → ∃ t, v = .str (xs.getD i Str.empty) t := fun i v hv => SS.strs_at hi i v (by rw [Array.getElem?_toList]; exact hv)
        refine setX_loop ((Walks.tuple calm3 _ l ne_it items).toS) s.heap.objs.size apart xs many (by omega) texts (items.size - 0) 0 _ (by omega) (Nat.zero_le _) ⟨⟨_, Heap.get?_push_size _ rfl, rfl, rfl⟩, (is_l.push _)⟩ ?start ?finish
        case start =>
          refine ⟨_, #[], 0, .fresh 0 0 (!w.params.followText "set-order"), Heap.get?_push_of_some _ at_new, ⟨rfl, rfl, rfl⟩, rfl, (fun e he => by cases he), List.Perm.refl _, List.nodup_nil, by decide, by rfl, List.Pairwise.nil, ?_⟩
          cases q : w.params.followText "set-order"
          · exact .inr rfl
          · exact .inl rfl
        case finish =>
          intro s' moved set_all
          obtain ⟨h', g', d', tk', os'⟩ := s'
          have eg : g' = s.gens := moved.gens
          have ed : d' = s.drawn := moved.drawn
          have eo : os' = s.os := moved.os
          subst eg; subst ed; subst eo
          show wpAny _ _ _ _ _ _
          refine wpAny_pure ?_
          show wpAny _ _ (ret Value.none) _ _ _
          refine wpAny_pure ⟨rfl, h', tk', rfl, set_all, fun b o e => ?_⟩
          have b_lt := Heap.lt_size e
          refine moved.heap b o (fun z => ?_) (Heap.get?_push_of_some _ (Heap.get?_push_of_some _ e))
          rcases List.mem_cons.mp z with z | z
          · exact absurd z (Nat.ne_of_lt b_lt)
          · have z := List.mem_singleton.mp z
            rw [Heap.size_push] at z
            exact absurd z (Nat.ne_of_lt (Nat.lt_succ_of_lt b_lt))
      · cases r₂ with
        | error e => exact hr₂
        | ok fl₂ =>
          cases fl₂ with
          | ret r =>
            obtain ⟨rfl, h', tk, rfl, set_all, kept⟩ := hr₂
            repeat (any_goals (first | assumption | wp_step))
            exact h _ _ set_all kept
          | _ => exact hr₂.elim
    | _ => exact hr.elim
end
end Rw
end T_S1

section T_S2
set_option Elab.async false
set_option linter.all false
set_option maxRecDepth 100000
set_option maxHeartbeats 4000000
namespace Rw
open PySem PySem.Spec L2 PyProof.Rows
/-! ### the rules over the layer: a set of texts is a thing of its own -/
def SetXO (w : World) (a : Addr) (ks : List Str) : HO := .ext fun h => SetX w h a ks
theorem setXO_ok {P : Program} {w : World} {H : Hp} {h : Heap} {a : Addr} {ks : List Str} (R : SetX w h a ks) : ObjOk P w H h a (SetXO w a ks) := by
  obtain ⟨o, es, ep, t, ho, rest⟩ := R
  exact ⟨⟨o, es, ep, t, ho, rest⟩, ⟨o, ho⟩, fun h1 h2 x k => x.keep k⟩
section
variable {X : Cx}
/-- set(xs), xs a list or a tuple of texts -/
def rSetX (K : PySem.W.Frag) (w : World) : List V → Hp → VK → Prop := fun vs H Q => ∃ (a : Addr) (xs : List Str), vs = [.ref a] ∧ (SqL K H a (xs.map V.str) ∨ SqT K H a (xs.map V.str)) ∧ xs.length < 1000 ∧
  ∀ p, H p = none → Q (.ref p) (upd H p (SetXO w p (seen xs)))
theorem cr_setX (calm : X.calm = true) : CallR X (.type "set") (rSetX X.K X.w) := by
  intro pins s σ H vs us Q I r reading
  obtain ⟨a, xs, rfl, hq, few, q⟩ := reading
  rw [Vals.ref1 r]
  have fin : ∀ (h' : Heap) (tk : Nat), SetX X.w h' s.heap.objs.size (seen xs) → (∀ b o, s.heap.get? b = some o → h'.get? b = some o) → EP X pins σ Q (.ref s.heap.objs.size) { s with heap := h', toks := tk } := fun h' tk R keep =>
    ⟨.ref _, _, I.laid (t' := tk) keep (Nat.le_refl _) (setXO_ok R), rfl, q _ (I.hok.fresh (Nat.le_refl _))⟩
  rcases hq with hq | hq
  · obtain ⟨its, rv, pl, _⟩ := I.list hq
    exact call_setX_list (I.ok.hd calm) pl.isList (by simpa using strsAre_of rv) few fin
  · obtain ⟨its, rv, pl, _⟩ := I.tuple hq
    exact call_setX_tuple (I.ok.hd calm) pl (by simpa using strsAre_of rv) few fin
/-- len(a set of texts) -/
def rLenX (w : World) : List V → Hp → VK → Prop := fun vs H Q => ∃ (a : Addr) (ks : List Str), vs = [.ref a] ∧ H a = some (SetXO w a ks) ∧ Q (.int (ks.length : Int)) H
theorem cr_lenX : CallR X (.builtin "len") (rLenX X.w) := by
  intro pins s σ H vs us Q I r reading
  obtain ⟨a, ks, rfl, ha, q⟩ := reading
  rw [Vals.ref1 r]
  have R : SetX X.w s.heap a ks := (I.hok a _ ha).1
  obtain ⟨o, es, ep, t, ho, hex, hd, hf, hn⟩ := R.size
  have few : es.size < scanBound := by
    obtain ⟨o', es', ep', t', ho', _, hd', _, _, _, hb, _⟩ := R
    rw [ho] at ho'
    cases ho'
    rw [hd] at hd'
    cases hd'
    exact hb
  exact call_len_set ho hex hd hf (by unfold scanBound at few; omega) ⟨.int (ks.length : Int), H, I.tok _, ⟨_, by rw [hn]⟩, q⟩
/-- sorted(a set of texts) -/
def rSortedX (w : World) : List V → Hp → VK → Prop := fun vs H Q => ∃ (a : Addr) (ks : List Str), vs = [.ref a] ∧ H a = some (SetXO w a ks) ∧ ks.length < 64 ∧
  ∀ (ys : List Str) (p : Addr), ys.Perm ks → sortedS ys = true → H p = none → Q (.ref p) (upd H p (.lst (ys.map V.str)))
theorem strs_are : ∀ vs : List Value, (∀ v ∈ vs, ∃ z tk, v = Value.str z tk) → StrsAre vs (vs.map fun v => match v with | .str z _ => z | _ => Str.empty)
  | [], _ => .nil
  | v :: r, h => by
    obtain ⟨z, tk, rfl⟩ := h v List.mem_cons_self
    exact .cons z tk (strs_are r fun u hu => h u (List.mem_cons_of_mem _ hu))
theorem cr_sortedX (calm : X.calm = true) : CallR X (.builtin "sorted") (rSortedX X.w) := by
  intro pins s σ H vs us Q I r reading
  obtain ⟨a, ks, rfl, ha, h64, q⟩ := reading
  rw [Vals.ref1 r]
  have R : SetX X.w s.heap a ks := (I.hok a _ ha).1
  obtain ⟨o, es, ep, t, ho, hex, hd, good, perm, nd, few, fit, rise, order⟩ := R
  refine Calls.call_function_entry kind_sorted plain_sorted entry_sorted (args_sorted1 _) ?_
  unfold Builtin.«sorted»
  refine wpAny_bind (m := checkCount "sorted" 1 1 _) (wpAny_pure ?_)
  refine wpAny_bind (collect_set (A := X.A.in1) (I.ok.hd calm) ⟨o, ho, hex.1, hd⟩ fit few rise order fun s1 out keep grow gens os permo => ?_)
  have texts : StrsAre out (out.map fun v => match v with | .str z _ => z | _ => Str.empty) := strs_are out fun v hv => by
    obtain ⟨e, he, q⟩ := List.mem_map.mp (permo.mem_iff.mp hv)
    obtain ⟨z, tk, h1, _⟩ := good e he
    exact ⟨z, tk, q.symm.trans h1⟩
  have permk : (out.map fun v => match v with | .str z _ => z | _ => Str.empty).Perm ks := by
    have z := permo.map fun v : Value => match v with | .str z _ => z | _ => Str.empty
    rw [List.map_map] at z
    exact z.trans perm
  have len : out.length = ks.length := by rw [← permk.length_eq, List.length_map]
  refine wpAny_bind (wpAny_newList ?_ (by rw [len, sizeLine_eq]; omega))
  have at_l : (s1.heap.push (seqObj "list" out.toArray 0)).get? s1.heap.objs.size = some (seqObj "list" out.toArray 0) := Heap.get?_push_size _ rfl
  refine wpAny_bind (wpAny_holding (wpAny_call_entry slot_list_sort ⟨_, at_l, rfl⟩ entry_list_sort
    (list_sort_treeK strKind_oneLt (s := { s1 with heap := s1.heap.push (seqObj "list" out.toArray 0) }) at_l texts.keysOf (fun v₁ v₂ rest e => keyKind_strs (by rw [← e]; exact texts)) (by rw [len]; exact h64) fun st' hp hs => ⟨_, rfl, ?_⟩)
    (args_list_sort _)))
  obtain ⟨ys, g1, g2, g3⟩ := sorted_out_str texts hp hs
  obtain ⟨c, at_out⟩ := sortedHeap_at (vs := out) (out := (arrOf st').map (·.2)) at_l
  have lenys : (ys.map V.str).length ≤ sizeLine := by rw [List.length_map, g2.length_eq, List.length_map, len, sizeLine_eq]; omega
  have keep2 : ∀ b u, s.heap.get? b = some u → (sortedHeap (s1.heap.push (seqObj "list" out.toArray 0)) s1.heap.objs.size out ((arrOf st').map (·.2))).get? b = some u := fun b u e => by
    have e1 := keep b u e
    have lt := Heap.lt_size e1
    rw [sortedHeap_old (Nat.ne_of_lt lt) (by rw [size_push']; exact Nat.lt_succ_of_lt lt)]
    exact Heap.get?_push_of_some _ e1
  have fresh : H s1.heap.objs.size = none := I.hok.fresh grow
  obtain ⟨h1, g', d1, t1, os1⟩ := s1
  have eg : g' = s.gens := gens
  have eo : os1 = s.os := os
  subst eg; subst eo
  have J : Inv X pins σ (upd H h1.objs.size (.lst (ys.map V.str))) { s with heap := sortedHeap (h1.push (seqObj "list" out.toArray 0)) h1.objs.size out ((arrOf st').map (·.2)), gens := s.gens, drawn := d1, toks := t1 } :=
    I.call (ch := []) (Un.laid keep2 grow fresh) (I.hok.laid keep2 grow ⟨lenys, ((arrOf st').map (·.2)).toList, c, vals_of_strs g1, by rw [Array.toArray_toList]; exact at_out⟩) I.bare (fun _ z => nomatch z)
  exact wpAny_pure ⟨_, rfl, .ref _, _, J, rfl, q ys _ (g2.trans permk) g3 fresh⟩
end
end Rw
end T_S2

section T_V0
set_option Elab.async false
set_option linter.all false
set_option maxRecDepth 100000
set_option maxHeartbeats 2000000
namespace Rw
open PySem PySem.Spec L2 PyProof.Rows
/-! ### list(d.values()) -/
def tValsL (te : TE) : TE := fun σ H Q => te σ H fun x H1 => ∃ (d : Addr) (kvs : List (Key × V)), x = .ref d ∧ Rd H1 d (.dK kvs) ∧ ∀ p, H1 p = none → Q (.ref p) (upd H1 p (.lst (kvs.map (·.2))))
theorem pairs_vals {P : Program} {w : World} {es : List DictEntry} {vs : List (Key × Value)} (h : Pairs (mixKind P w) es vs) : es.map (·.val) = vs.map (·.2) := by
  induction h with
  | nil => rfl
  | cons _ h2 _ ih =>
    rw [List.map_cons, List.map_cons, ih, h2]
theorem vals_snd : ∀ {kvs : List (Key × V)} {vs : List (Key × Value)}, KV kvs vs → Vals (kvs.map (·.2)) (vs.map (·.2))
  | _, _, .nil => .nil
  | _, _, .cons r t => .cons r.2 (vals_snd t)
section
variable {X : Cx} {e : Expr} {te : TE} {p apos cpos pos : Pos}
theorem pe_listVals (calm : X.calm = true) (he : PE X e te) (glob : Gl X "list") (free : X.mg "list" = none) (base : attributeBase e "values" X.env (eval e X.env) = eval e X.env := by rfl) (line : (apos.endLine == cpos.line) = true := by rfl)
    (arg : starEach [.Call (.Attribute e "values" apos) [] [] cpos] X.env = (false, eval (.Call (.Attribute e "values" apos) [] [] cpos) X.env) :: starEach [] X.env := by rfl) :
    PE X (.Call (.Name "list" p) [.Call (.Attribute e "values" apos) [] [] cpos] [] pos) (tValsL te) := by
  constructor
  intro pins s σ H Q I reading
  refine wpAny_Call_Name_kw (ld_blt I glob free (show bootBuiltins "list" = some (.type "list") by decide +kernel) ?_)
  refine PyProof.Rows.callWith_type1 ?_ arg rfl
  rw [arg]
  show wpAny _ _ (spliced ((false, eval (.Call (.Attribute e "values" apos) [] [] cpos) X.env) :: backTo pos (starEach [] X.env))) _ _ s
  refine Calls.spliced_cons ?_
  refine wpAny_Call_method (T := "dict") (id := "dict.values") base rfl line F.plainAttrs_dict F.slot_dict_values F.type_dict_values (thn (he.run pins s σ H _ I reading) ?_)
  rintro u s1 ⟨x, H1, I1, rx, d, kvs, rfl, hd, q⟩
  have u_is : u = Value.ref d := rx
  subst u_is
  obtain ⟨few, low, vs, kv, hdo⟩ := hd.ok I1.hok
  have I2 : Inv X pins σ H1 { s1 with heap := s1.heap.push { cls := .type "dict_values", data := .fields #[.ref d] } } := I1.kept (t' := s1.toks) fun b ob z => Heap.get?_push_of_some _ z
  refine ⟨hdo.typeIs, hdo.mapOf.noDict, ?_⟩
  show wpAny _ _ (callWith cpos (.builtin "dict.values") [.ref d] [] []) _ X.xe s1
  refine method_meetsIn F.slot_dict_values F.entry_dict_values rfl (PySem.evalArgs_none ⟨rfl, hdo.typeIs, F.args_dict_values_1 _, _, meets_dict_values (mixKind X.prog X.w) d low, ⟨vs, hdo⟩, ?_⟩)
  refine Calls.spliced_nil ?_
  obtain ⟨o, es, ep, ho, exact_, hdat, keys, prs, nd⟩ := hdo
  have esz : es.size = vs.length := by
    have := prs.length
    simpa using this
  have lk : kvs.length = vs.length := Paired.length kv
  refine PySem.W.kdl_call (KdlSrc.rawValues (es := es) (ep := ep) (d := d)) (I1.ok.hd calm) ⟨⟨_, Heap.get?_push_size _ rfl, rfl, rfl⟩, ⟨o, Heap.get?_push_of_some _ ho, exact_, hdat⟩⟩ (by omega) fun h' tk acc c keep at_p got => ?_
  have fresh : H1 s1.heap.objs.size = none := I1.hok.fresh (Nat.le_refl _)
  have fresh2 : H1 (s1.heap.push { cls := .type "dict_values", data := .fields #[.ref d] }).objs.size = none := I1.hok.fresh (by rw [Heap.size_push]; exact Nat.le_succ _)
  have acc_is : acc.toList = vs.map (·.2) := by
    rw [← pairs_vals prs]
    obtain ⟨g1, g2⟩ := got
    refine List.ext_getElem (by rw [List.length_map, Array.length_toList, Array.length_toList, g1]) fun j h1 h2 => ?_
    have z : acc[j]? = some acc.toList[j] := by rw [← Array.getElem?_toList, List.getElem?_eq_getElem h1]
    obtain ⟨hj, e⟩ := g2 j _ z
    rw [e, List.getElem_map, Array.getElem_toList]
  refine ⟨.ref _, _, I2.laid (t' := tk) keep (Nat.le_refl _) ?_, rfl, q _ fresh2⟩
  exact ⟨by rw [List.length_map]; exact few, acc.toList, c, by rw [acc_is]; exact vals_snd kv, by simpa using at_p⟩
end
end Rw
end T_V0

section T_P0
set_option Elab.async false
set_option linter.all false
set_option maxRecDepth 100000
set_option maxHeartbeats 2000000
namespace Rw
open PySem L2 PyProof.Rows
/-! ### lists of True -/
section
variable {K : PySem.W.Frag} {a D : Addr} {xs : List V} {g : TG} {tt : TT} {te : TE} {vs : List Nat} {σ : L2.St} {H : Hp} {Qd : Hp → Prop}
theorem lc_trues (hx : SqL K H a xs) (hD : H D = none) (hl : xs.length < 1000)
    (turn : ∀ (i : Nat) (x : V) (H1 : Hp) (Q : VK) (R : Hp → Prop), xs[i]? = some x → Evl.Ex H H1 → (∀ H4, Evl.Ex H1 H4 → Q (.bl true) H4) → g x (wipe σ vs) H1 fun σ2 H2 => wipe σ2 vs = wipe σ vs ∧ tt σ2 H2 fun b H3 => if b = true then te σ2 H3 Q else R H3)
    (fin : ∀ H1, Evl.Ex H H1 → H1 D = some (.lst ((List.replicate xs.length true).map V.bl)) → Qd H1) :
    ∃ W : Nat → Nat → Hp → Prop, (∃ m, W 0 m (upd H D (.lst []))) ∧ ∀ i m H1, W i m H1 →
      ((Itl K a).stop i H1 ∧ Qd H1) ∨ ((Itl K a).go i H1 ∧ ∃ Nx : Hp → Prop, (∀ H', Nx H' → ∃ m', m' < m ∧ W (i + 1) m' H') ∧ ∀ x H', (Itl K a).yld i H1 x H' → g x (wipe σ vs) H' fun σ2 H2 => wipe σ2 vs = wipe σ vs ∧ tt σ2 H2 fun b H3 =>
        if b = true then te σ2 H3 fun y H4 => ∃ acc, H4 D = some (.lst acc) ∧ acc.length < sizeLine ∧ Nx (upd H4 D (.lst (acc ++ [y]))) else Nx H3) := by
  refine lc_list (K := K) (a := a) (xs := xs) (fun i H1 => i ≤ xs.length ∧ Evl.Ex H H1 ∧ H1 D = some (.lst ((List.replicate i true).map V.bl))) ⟨Nat.zero_le _, Evl.Ex.new hD, upd_same⟩ (fun i H1 _ h => Evl.ex_l h.2.1 hx) ?_ (fun H1 h => fin H1 h.2.1 h.2.2)
  rintro i x H1 hi ⟨_, e1, d1⟩
  have hil : i < xs.length := (List.getElem?_eq_some_iff.mp hi).1
  refine turn i x H1 _ _ hi e1 fun H4 e4 => ⟨_, e4 _ _ d1, ?_, hil, (e1.trans e4).mut hD, ?_⟩
  · rw [List.length_map, List.length_replicate]
    exact small1000 (by omega)
  · rw [upd_same, List.replicate_succ', List.map_append]
    rfl
theorem lc_truesT (hx : SqT K H a xs) (hD : H D = none) (hl : xs.length < 1000)
    (turn : ∀ (i : Nat) (x : V) (H1 : Hp) (Q : VK) (R : Hp → Prop), xs[i]? = some x → Evl.Ex H H1 → (∀ H4, Evl.Ex H1 H4 → Q (.bl true) H4) → g x (wipe σ vs) H1 fun σ2 H2 => wipe σ2 vs = wipe σ vs ∧ tt σ2 H2 fun b H3 => if b = true then te σ2 H3 Q else R H3)
    (fin : ∀ H1, Evl.Ex H H1 → H1 D = some (.lst ((List.replicate xs.length true).map V.bl)) → Qd H1) :
    ∃ W : Nat → Nat → Hp → Prop, (∃ m, W 0 m (upd H D (.lst []))) ∧ ∀ i m H1, W i m H1 →
      ((Itt K a).stop i H1 ∧ Qd H1) ∨ ((Itt K a).go i H1 ∧ ∃ Nx : Hp → Prop, (∀ H', Nx H' → ∃ m', m' < m ∧ W (i + 1) m' H') ∧ ∀ x H', (Itt K a).yld i H1 x H' → g x (wipe σ vs) H' fun σ2 H2 => wipe σ2 vs = wipe σ vs ∧ tt σ2 H2 fun b H3 =>
        if b = true then te σ2 H3 fun y H4 => ∃ acc, H4 D = some (.lst acc) ∧ acc.length < sizeLine ∧ Nx (upd H4 D (.lst (acc ++ [y]))) else Nx H3) := by
  refine lc_tup (K := K) (a := a) (xs := xs) (fun i H1 => i ≤ xs.length ∧ Evl.Ex H H1 ∧ H1 D = some (.lst ((List.replicate i true).map V.bl))) ⟨Nat.zero_le _, Evl.Ex.new hD, upd_same⟩ (fun i H1 _ h => Evl.ex_t h.2.1 hx) ?_ (fun H1 h => fin H1 h.2.1 h.2.2)
  rintro i x H1 hi ⟨_, e1, d1⟩
  have hil : i < xs.length := (List.getElem?_eq_some_iff.mp hi).1
  refine turn i x H1 _ _ hi e1 fun H4 e4 => ⟨_, e4 _ _ d1, ?_, hil, (e1.trans e4).mut hD, ?_⟩
  · rw [List.length_map, List.length_replicate]
    exact small1000 (by omega)
  · rw [upd_same, List.replicate_succ', List.map_append]
    rfl
end
theorem lc_truesW {J : It} {n : Nat} {G : Hp → Prop} {Yx : Nat → V → Prop} {D : Addr} {g : TG} {tt : TT} {te : TE} {vs : List Nat} {σ : L2.St} {H : Hp} {Qd : Hp → Prop} (wk : Walk J n G (fun i H x H' => H' = H ∧ Yx i x)) (hG : ∀ H1, Evl.Ex H H1 → G H1) (hD : H D = none) (hl : n < 1000)
    (turn : ∀ (i : Nat) (x : V) (H1 : Hp) (Q : VK) (R : Hp → Prop), i < n → Yx i x → Evl.Ex H H1 → (∀ H4, Evl.Ex H1 H4 → Q (.bl true) H4) → g x (wipe σ vs) H1 fun σ2 H2 => wipe σ2 vs = wipe σ vs ∧ tt σ2 H2 fun b H3 => if b = true then te σ2 H3 Q else R H3)
    (fin : ∀ H1, Evl.Ex H H1 → H1 D = some (.lst ((List.replicate n true).map V.bl)) → Qd H1) :
    ∃ W : Nat → Nat → Hp → Prop, (∃ m, W 0 m (upd H D (.lst []))) ∧ ∀ i m H1, W i m H1 →
      (J.stop i H1 ∧ Qd H1) ∨ (J.go i H1 ∧ ∃ Nx : Hp → Prop, (∀ H', Nx H' → ∃ m', m' < m ∧ W (i + 1) m' H') ∧ ∀ x H', J.yld i H1 x H' → g x (wipe σ vs) H' fun σ2 H2 => wipe σ2 vs = wipe σ vs ∧ tt σ2 H2 fun b H3 =>
        if b = true then te σ2 H3 fun y H4 => ∃ acc, H4 D = some (.lst acc) ∧ acc.length < sizeLine ∧ Nx (upd H4 D (.lst (acc ++ [y]))) else Nx H3) := by
  refine lc_it wk (fun i H1 => i ≤ n ∧ Evl.Ex H H1 ∧ H1 D = some (.lst ((List.replicate i true).map V.bl))) ⟨Nat.zero_le _, Evl.Ex.new hD, upd_same⟩ (fun i H1 _ h => hG H1 h.2.1) ?_ (fun H1 h => fin H1 h.2.1 h.2.2)
  rintro i x H1 H1' hi ⟨_, e1, d1⟩ ⟨rfl, hy⟩
  refine turn i x H1' _ _ hi hy e1 fun H4 e4 => ⟨_, e4 _ _ d1, ?_, hi, (e1.trans e4).mut hD, ?_⟩
  · rw [List.length_map, List.length_replicate]
    exact small1000 (by omega)
  · rw [upd_same, List.replicate_succ', List.map_append]
    rfl
theorem all_trues (n : Nat) : (List.replicate n true).all id = true := by
  induction n with
  | zero => rfl
  | succ n ih => rw [List.replicate_succ, List.all_cons, ih]; rfl
theorem sign_le {a b : Nat} (h : a ≤ b) : (!decide (([b] : List Nat) < [a])) = true := by
  have n : ¬ (([b] : List Nat) < [a]) := by
    rw [List.cons_lt_cons_iff]
    rintro (q | ⟨_, q⟩)
    · omega
    · exact absurd q (List.lt_irrefl _)
  rw [decide_eq_false n]
  rfl
/-- a list or a tuple of these texts -/
def SqS (K : PySem.W.Frag) (H : Hp) (a : Addr) (zs : List Str) : Prop := SqL K H a (zs.map V.str) ∨ SqT K H a (zs.map V.str)
theorem SqS.ex {K : PySem.W.Frag} {H H' : Hp} {a : Addr} {zs : List Str} (h : SqS K H a zs) (e : Evl.Ex H H') : SqS K H' a zs := h.imp (Evl.ex_l e) (Evl.ex_t e)
theorem SqS.sq {K : PySem.W.Frag} {H : Hp} {a : Addr} {zs : List Str} (h : SqS K H a zs) : SqL K H a (zs.map V.str) ∨ SqT K H a (zs.map V.str) := h
theorem ty_sl {K : PySem.W.Frag} {H : Hp} {a : Addr} {xs : List V} (h : SqL K H a xs) : TyX K H (.ref a) (.type "list") := by
  rcases h with (q | ⟨o, q⟩) | ⟨o, its, n, e, c, _⟩
  · exact .base (.lst q)
  · exact .base (.frz q)
  · exact .kList e c
theorem ty_st {K : PySem.W.Frag} {H : Hp} {a : Addr} {xs : List V} (h : SqT K H a xs) : TyX K H (.ref a) (.type "tuple") := by
  rcases h with (q | ⟨o, q⟩) | ⟨o, its, n, e, c, _⟩
  · exact .base (.tup q)
  · exact .fTuple q
  · exact .kTuple e c
/-- an answer True, all else as it was -/
def spYes (pre : List V → Hp → Prop) (n : Nat) : Sp := fun vs H Q _ => vs.length = n ∧ pre vs H ∧ ∀ H', Evl.Ex H H' → Q (.bl true) H'
/-- a list or a tuple of names that is tracked -/
def SqH (H : Hp) (a : Addr) (zs : List Str) : Prop := H a = some (.lst (zs.map V.str)) ∨ H a = some (.tup (zs.map V.str))
theorem SqH.ex {H H' : Hp} {a : Addr} {zs : List Str} (h : SqH H a zs) (e : Evl.Ex H H') : SqH H' a zs := h.imp (e _ _) (e _ _)
theorem SqH.k {K : PySem.W.Frag} {H : Hp} {a : Addr} {zs : List Str} (h : SqH H a zs) : SqS K H a zs := h.imp Evl.sq_of Evl.st_of
end Rw
end T_P0

section T_N0
set_option Elab.async false
set_option linter.all false
set_option maxRecDepth 100000
set_option maxHeartbeats 1000000
namespace Rw
open PySem PySem.Spec L2 PyProof.Rows
/-! ### one ascending order -/
def TLe (a b : Str) : Prop := a.cps.toList ≤ b.cps.toList
theorem rising_pair : ∀ (r : List Str) (p : Str), risingS p r = true → (p :: r).Pairwise TLe
  | [], p, _ => List.pairwise_singleton _ _
  | x :: r, p, h => by
    have h' : (!ltCps x.cps.toList p.cps.toList && risingS x r) = true := h
    rw [Bool.and_eq_true] at h'
    have ih := rising_pair r x h'.2
    have px : TLe p x := by
      have z := h'.1
      rw [ltCps_eq] at z
      show ¬ (x.cps.toList < p.cps.toList)
      intro q
      rw [decide_eq_true q] at z
      cases z
    refine List.pairwise_cons.mpr ⟨fun y hy => ?_, ih⟩
    rcases List.mem_cons.mp hy with rfl | hy
    · exact px
    · exact List.le_trans px ((List.pairwise_cons.mp ih).1 y hy)
theorem sorted_pair {l : List Str} (h : sortedS l = true) : l.Pairwise TLe := by
  cases l with
  | nil => exact List.Pairwise.nil
  | cons x r => exact rising_pair r x h
theorem sorted_uniq {xs ys : List Str} (hx : sortedS xs = true) (hy : sortedS ys = true) (hp : xs.Perm ys) : xs = ys :=
  List.Perm.eq_of_pairwise (le := TLe) (fun a b _ _ h1 h2 => by
    have e : a.cps.toList = b.cps.toList := List.le_antisymm h1 h2
    rw [← SX.S_tl a, ← SX.S_tl b, e]) (sorted_pair hx) (sorted_pair hy) hp
/-! ### nets -/
/-- a table in the order of these names -/
def canon (dots : List Str) (tb : List (Str × V)) : List (Str × V) := dots.map fun z => (z, (valV (tkv tb) (Sum.inr z)).getD .non)
theorem canon_keys (dots : List Str) (tb : List (Str × V)) : (canon dots tb).map (·.1) = dots := by
  unfold canon
  rw [List.map_map]
  exact List.map_id _
theorem canon_ok {dots : List Str} {e : Str} {tb : List (Str × V)} (h : TabOk dots e tb) : TabOk dots e (canon dots tb) := by
  refine ⟨by rw [canon_keys], fun q hq => ?_⟩
  unfold canon at hq
  obtain ⟨z, hz, rfl⟩ := List.mem_map.mp hq
  obtain ⟨v, hv, hm⟩ := tkv_some (tb := tb) (z := z) (h.ks.mem_iff.mpr hz)
  show PlaceOk dots e z ((valV (tkv tb) (Sum.inr z)).getD .non)
  rw [hv]
  exact h.ps _ hm
theorem canon_get {dots : List Str} {tb : List (Str × V)} {z : Str} (hz : z ∈ dots) : valV (tkv (canon dots tb)) (Sum.inr z) = some ((valV (tkv tb) (Sum.inr z)).getD .non) := by
  induction dots with
  | nil => cases hz
  | cons y r ih =>
    show valV ((Sum.inr y, (valV (tkv tb) (Sum.inr y)).getD .non) :: tkv (canon r tb)) (Sum.inr z) = _
    by_cases e : y = z
    · subst e
      exact valV_pos (p := ((Sum.inr y : Key), (valV (tkv tb) (Sum.inr y)).getD .non)) rfl
    · rw [valV_neg (fun w => e (Sum.inr.inj w))]
      exact ih ((List.mem_cons.mp hz).resolve_left fun w => e w.symm)
/-- the rows of a model, told by functions -/
def RowsAt (H : Hp) (ends dots : List Str) (rows : List (Str × V)) (o n : Str → List (Str × V)) : Prop :=
  ∀ e ∈ ends, ∃ p po pn : Addr, valV (tkv rows) (Sum.inr e) = some (.ref p) ∧ PairAt H dots e p po pn (o e) (n e)
theorem RowsAt.ex {H H' : Hp} {ends dots : List Str} {rows : List (Str × V)} {o n : Str → List (Str × V)} (h : RowsAt H ends dots rows o n) (x : Evl.Ex H H') : RowsAt H' ends dots rows o n := fun e he => by
  obtain ⟨p, po, pn, h1, h2⟩ := h e he
  exact ⟨p, po, pn, h1, h2.ex x⟩
theorem RowsAt.of {H : Hp} {ends dots : List Str} {rows : List (Str × V)} (h : RowsOk H dots rows) (hk : rows.map (·.1) = ends) : ∃ o n : Str → List (Str × V), RowsAt H ends dots rows o n := by
  have all : ∀ e : Str, ∃ t : List (Str × V) × List (Str × V), e ∈ ends → ∃ p po pn : Addr, valV (tkv rows) (Sum.inr e) = some (.ref p) ∧ PairAt H dots e p po pn t.1 t.2 := fun e => by
    by_cases he : e ∈ ends
    · obtain ⟨v, hv1, hv2⟩ := tkv_some (tb := rows) (z := e) (by rw [hk]; exact he)
      obtain ⟨p, po, pn, t1, t2, e1, pa⟩ := h _ hv2
      have e1' : v = .ref p := e1
      subst e1'
      exact ⟨(t1, t2), fun _ => ⟨p, po, pn, hv1, pa⟩⟩
    · exact ⟨([], []), fun q => absurd q he⟩
  refine ⟨fun e => (Classical.choose (all e)).1, fun e => (Classical.choose (all e)).2, fun e he => Classical.choose_spec (all e) he⟩
def nflds (T N S P : Addr) : List (Str × V) := [("_tables", .ref T), ("_nodes", .ref N), ("_sources", .ref S), ("_posts", .ref P)]
theorem nflds_tables (T N S P : Addr) : (nflds T N S P).lookup ("_tables" : Str) = some (.ref T) := by kernel_rfl
theorem nflds_nodes (T N S P : Addr) : (nflds T N S P).lookup ("_nodes" : Str) = some (.ref N) := by kernel_rfl
theorem nflds_sources (T N S P : Addr) : (nflds T N S P).lookup ("_sources" : Str) = some (.ref S) := by kernel_rfl
theorem nflds_posts (T N S P : Addr) : (nflds T N S P).lookup ("_posts" : Str) = some (.ref P) := by kernel_rfl
/-- a net stands at m -/
structure NetAt (C : Addr) (H : Hp) (m : Addr) (ends dots ss ps : List Str) (o n : Str → List (Str × V)) : Prop where
  ex : ∃ (dx T N S P : Addr) (rows : List (Str × V)), H m = some (.ins C dx (nflds T N S P)) ∧ H T = some (.dK (tkv rows)) ∧ H N = some (.tup (dots.map V.str)) ∧ H S = some (.tup (ss.map V.str)) ∧ H P = some (.tup (ps.map V.str)) ∧
    rows.map (·.1) = ends ∧ RowsAt H ends dots rows (fun e => canon dots (o e)) (fun e => canon dots (n e))
theorem NetAt.to {C : Addr} {H H' : Hp} {m : Addr} {ends dots ss ps : List Str} {o n : Str → List (Str × V)} (h : NetAt C H m ends dots ss ps o n) (x : Evl.Ex H H') : NetAt C H' m ends dots ss ps o n := by
  obtain ⟨dx, T, N, S, P, rows, h1, h2, h3, h4, h5, h6, h7⟩ := h
  exact ⟨dx, T, N, S, P, rows, x _ _ h1, x _ _ h2, x _ _ h3, x _ _ h4, x _ _ h5, h6, h7.ex x⟩
theorem ex_none {H H' : Hp} {p : Addr} (x : Evl.Ex H H') (h : H' p = none) : H p = none := by
  cases q : H p with
  | none => rfl
  | some u => rw [x _ _ q] at h; cases h
/-- what H' has behind H -/
def rest (H H' : Hp) : Hp := fun a => match H a with | none => H' a | some _ => none
theorem rest_of {H H' : Hp} {a : Addr} {o : HO} (h0 : H a = none) (h : H' a = some o) : rest H H' a = some o := by
  unfold rest
  rw [h0]
  exact h
theorem rest_ex (H H' : Hp) : Evl.Ex (rest H H') H' := fun a o h => by
  unfold rest at h
  cases e : H a with
  | none => rw [e] at h; exact h
  | some _ => rw [e] at h; cases h
theorem rest_off {d g c : Addr} {H H' : Hp} (D : DrawAt H d g c) : Evl.Ex (rest H H') (off d g H') := fun a o h => by
  have h' := rest_ex H H' a o h
  refine off_of h' (fun z => ?_) (fun z => ?_)
  · subst z
    obtain ⟨r, t, hd⟩ := D.ex
    unfold rest at h
    rw [hd] at h
    cases h
  · subst z
    obtain ⟨gs, hg⟩ := D.gl
    unfold rest at h
    rw [hg] at h
    cases h
theorem rest_mono {H H1 H2 : Hp} (e : Evl.Ex H1 H2) : Evl.Ex (rest H H1) (rest H H2) := fun a o h => by
  unfold rest at h ⊢
  cases q : H a with
  | none => rw [q] at h; exact e a o h
  | some _ => rw [q] at h; cases h
theorem nf1 (T : Addr) : putF "_tables" (.ref T) [] = ([("_tables", .ref T)] : List (Str × V)) := rfl
theorem nf2 (T N : Addr) : putF "_nodes" (.ref N) [("_tables", .ref T)] = ([("_tables", .ref T), ("_nodes", .ref N)] : List (Str × V)) := by kernel_rfl
theorem nf3 (T N S : Addr) : putF "_sources" (.ref S) [("_tables", .ref T), ("_nodes", .ref N)] = ([("_tables", .ref T), ("_nodes", .ref N), ("_sources", .ref S)] : List (Str × V)) := by kernel_rfl
theorem nf4 (T N S P : Addr) : putF "_posts" (.ref P) [("_tables", .ref T), ("_nodes", .ref N), ("_sources", .ref S)] = nflds T N S P := by kernel_rfl
theorem nf1_get (T : Addr) : ([("_tables", .ref T)] : List (Str × V)).lookup ("_tables" : Str) = some (.ref T) := by kernel_rfl
theorem canon_snoc (l : List Str) (z : Str) (tb : List (Str × V)) : canon (l ++ [z]) tb = canon l tb ++ [(z, (valV (tkv tb) (Sum.inr z)).getD .non)] := by
  unfold canon
  rw [List.map_append]
  rfl
/-- {node: table[node] for node in nodes}, the table in slot i -/
theorem dc_canon {K : PySem.W.Frag} {N po D : Addr} {dots : List Str} {e : Str} {tb : List (Str × V)} {σ : L2.St} {i j : Nat} {H : Hp} {Qd : Hp → Prop} (hN : H N = some (.tup (dots.map V.str))) (hpo : H po = some (.dK (tkv tb))) (ok : TabOk dots e tb) (nd : dots.Nodup) (few : dots.length ≤ 100) (hD : H D = none)
    (slot : ∀ x : V, ((wipe σ [j]).set j (some x))[i]? = some (some (.ref po))) (own : ∀ x : V, ((wipe σ [j]).set j (some x))[j]? = some (some x)) (wiped : ∀ x : V, wipe ((wipe σ [j]).set j (some x)) [j] = wipe σ [j]) (fin : Qd (upd H D (.dK (tkv (canon dots tb))))) :
    ∃ W : Nat → Nat → Hp → Prop, (∃ m, W 0 m (upd H D (.dK []))) ∧ ∀ k m H1, W k m H1 →
      ((Itt K N).stop k H1 ∧ Qd H1) ∨ ((Itt K N).go k H1 ∧ ∃ Nx : Hp → Prop, (∀ H', Nx H' → ∃ m', m' < m ∧ W (k + 1) m' H') ∧ ∀ x H', (Itt K N).yld k H1 x H' → gName j x (wipe σ [j]) H' fun σ2 H2 => wipe σ2 [j] = wipe σ [j] ∧ tYes σ2 H2 fun b H3 =>
        if b = true then tVar j σ2 H3 fun y H4 => tDGet (tVar i) (tVar j) σ2 H4 fun z H5 => ∃ kvs k, y = kV k ∧ H5 D = some (.dK kvs) ∧ kvs.length < sizeLine ∧ Nx (upd H5 D (.dK (putK kvs k z))) else Nx H3) := by
  refine dc_tup (K := K) (a := N) (xs := dots.map V.str) (fun k H' => H' = upd H D (.dK (tkv (canon (dots.take k) tb)))) rfl (fun k H' _ h => by rw [h]; exact Evl.st_of (Evl.Ex.new hD _ _ hN)) ?_ ?_
  · rintro k x H1 hk rfl
    obtain ⟨z, hz, rfl⟩ := str_at hk
    have hkl : k < dots.length := (List.getElem?_eq_some_iff.mp hz).1
    have et : dots.take (k + 1) = dots.take k ++ [z] := by rw [List.take_add_one, hz]; rfl
    have zn : z ∉ dots.take k := fun hm => by
      have h1 : (dots.take (k + 1)).Nodup := nd.sublist (List.take_sublist _ _)
      rw [et] at h1
      exact (List.nodup_append.mp h1).2.2 z hm z (List.mem_singleton.mpr rfl) rfl
    obtain ⟨v, hv, _⟩ := tkv_some (tb := tb) (z := z) (ok.ks.mem_iff.mpr (List.mem_of_getElem? hz))
    refine ⟨wiped _, ?_⟩
    refine yes_if ?_
    have gt : DGet (upd H D (.dK (tkv (canon (dots.take k) tb)))) po (.str z) (some v) := by
      have q := DGet.k (k := Sum.inr z) (Evl.Ex.new (o := .dK (tkv (canon (dots.take k) tb))) hD _ _ hpo)
      rw [hv] at q
      exact q
    refine ⟨.str z, own _, .ref po, slot _, .str z, own _, po, v, rfl, gt, tkv (canon (dots.take k) tb), Sum.inr z, rfl, upd_same, ?_, ?_⟩
    · rw [tkv_len]
      unfold canon
      rw [List.length_map, List.length_take]
      exact small1000 (by omega)
    · rw [upd_upd, tkv_new (by rw [canon_keys]; exact zn), et, canon_snoc, hv]
      rfl
  · rintro H1 rfl
    rw [List.length_map, List.take_length]
    exact fin
/-- Net.__init__ of a model's parts -/
def spInit (C : Addr) : Sp := fun vs H Q _ => ∃ (Hb : Hp) (m dx t s p : Addr) (ends dots ss ps : List Str) (rows : List (Str × V)) (o n : Str → List (Str × V)), vs = [.ref m, .ref t, .ref s, .ref p] ∧ Hb m = none ∧ Evl.Ex Hb H ∧ H m = some (.ins C dx []) ∧
  Hb t = some (.dK (tkv rows)) ∧ (rows.map (·.1)).Perm ends ∧ RowsOk Hb dots rows ∧ RowsAt Hb ends dots rows o n ∧ (∃ yz : List Str, SqH Hb s yz ∧ yz.Perm ss) ∧ SqH Hb p ps ∧ ModelOk ends dots ss ps ∧
  ∀ H', Evl.Ex Hb H' → (∀ Hz, Evl.Ex (rest Hb H') Hz → (Hb p = some (.tup (ps.map V.str)) → Hz p = some (.tup (ps.map V.str))) → NetAt C Hz m ends dots ss ps o n) → Q .non H'
end Rw
end T_N0

section T_V1
set_option Elab.async false
set_option linter.all false
set_option maxRecDepth 100000
set_option maxHeartbeats 2000000
namespace Rw
open PySem PySem.Spec PySem.W L2 PyProof.Rows
/-! ### tuple(d) of a dict: its keys -/
section
variable {prog : Program} {w : World} {A : Around} {EX : Value → Shared → Prop} {s : Shared} {r d : Addr} {T : String} {n : Nat} {Pk : Nat → Value → Prop} {Fine : Heap → Prop}
theorem collect_src {Q : List Value → Shared → Prop} (src : KdlSrc prog w T r d n Pk Fine) (calm : A.handled = none) (fine : Fine s.heap) (few : n ≤ sizeLine)
    (wish : ∀ (h' : Heap) (tk : Nat) (acc : Array Value), (∀ b o, s.heap.get? b = some o → h'.get? b = some o) → ItemsOf Pk acc n → Q acc.toList { s with heap := h', toks := tk }) :
    wpAny (model prog w) A (collect (.ref r)) Q EX s := by
  unfold collect
  refine wpAny_bind (wpAny_runValue (codeAny_builtin PySem.F.entry_proto_collect ?_))
  rw [Around.under_plainId PySem.F.plain_proto_collect _]
  show wpAny _ A.in1 (newList [] >>= fun l => again (.builtin "list.__iadd__" ⟨[l, .ref r], []⟩)) _ _ s
  refine wpAny_bind (wpAny_newObj_type ?_)
  refine wpAny_pure ⟨plainId_quiet PySem.F.plain_list_iadd _, codeAny_builtin PySem.F.entry_list_iadd ?_⟩
  rw [Around.under_plainId PySem.F.plain_list_iadd _]
  show wpAny _ A.in1 (Builtin.List.listExtendWith (.ref s.heap.objs.size) (.ref r) (.ref s.heap.objs.size)) _ _ _
  have made : (s.heap.push { cls := .type "list", data := .seq ([] : List Value).toArray }).get? s.heap.objs.size = some { cls := .type "list", data := .seq #[] 0 } := Heap.get?_push_size _ rfl
  have below := src.there _ fine
  refine wpAny_mono (kdl_extend (A := A) (R := fun rr s' => rr = .ok (.ret (.ref s.heap.objs.size)) ∧ ∃ (h' : Heap) (tk : Nat) (acc : Array Value) (c' : Nat), s' = { s with heap := h', toks := tk } ∧
      (∀ b o, s.heap.get? b = some o → h'.get? b = some o) ∧ h'.get? s.heap.objs.size = some { cls := .type "list", dict := none, data := .seq acc c', slots := #[] } ∧ ItemsOf Pk acc n)
    (s := { s with heap := s.heap.push { cls := .type "list", data := .seq ([] : List Value).toArray } }) src calm (src.keep _ _ fine fun b _ o e => Heap.get?_push_of_some _ e) s.heap.objs.size (Nat.ne_of_gt below.1) (Nat.ne_of_gt below.2) _ 0 made
    (fun h' tk acc c' keep at_l got => ⟨rfl, h', tk, acc, c', rfl, fun b o q => keep b o (Nat.ne_of_lt (Heap.lt_size q)) (Heap.get?_push_of_some _ q), at_l, got⟩) few) (fun fin s' got => ?_) (fun e s' got => ?_)
  · cases fin with
    | done f =>
      obtain ⟨e, h', tk, acc, c', rfl, keep, at_l, items⟩ := got
      cases e
      show wpAny _ A (load s.heap.objs.size >>= _) _ _ _
      exact wpAny_bind (wpAny_load at_l (wpAny_pure (wish h' tk acc keep items)))
    | again c' =>
      refine ⟨got.1, codeAny_mono got.2 fun rr s'' res => ?_⟩
      obtain ⟨rfl, h', tk, acc, c', rfl, keep, at_l, items⟩ := res
      show wpAny _ A (load s.heap.objs.size >>= _) _ _ _
      exact wpAny_bind (wpAny_load at_l (wpAny_pure (wish h' tk acc keep items)))
  · exact absurd got.1 (by simp)
theorem tuple_new_src {Q₁ : Value → Shared → Prop} (src : KdlSrc prog w T r d n Pk Fine) (calm : A.handled = none) (fine : Fine s.heap) (few : n ≤ sizeLine)
    (wish : ∀ (h' : Heap) (tk : Nat) (acc : Array Value), (∀ b o, s.heap.get? b = some o → h'.get? b = some o) → ItemsOf Pk acc n →
      Q₁ (.ref h'.objs.size) { s with heap := h'.push { cls := .type "tuple", data := .seq acc }, toks := tk }) :
    codeAny (model prog w) A (.call (.builtin "tuple.__new__") ⟨[.type "tuple", .ref r], []⟩) (wants Q₁ EX) s := by
  refine codeAny_of_tree ?_
  show wpAny _ A.in1 (do checkBuiltinCall "tuple.__new__" ⟨[.type "tuple", .ref r], []⟩; again (.builtin "tuple.__new__" ⟨[.type "tuple", .ref r], []⟩)) _ _ s
  refine wpAny_bind (wpAny_of_eq (PySem.F.newCall_tuple_1 _) (wpAny_pure ⟨plainId_quiet PySem.F.plain_tuple_new _, codeAny_builtin PySem.F.entry_tuple_new ?_⟩))
  rw [Around.under_plainId PySem.F.plain_tuple_new _]
  have self_sub := sub_tuple_self
  have no_init := init_tuple_lookup
  have here := madeHere_tuple
  have ty_is := src.type s fine
  have no_tup := src.notTuple
  have calm1 : A.in1.handled = none := calm
  wp_walk using wpAny_typeOf ty_is, collect_src (A := A.in1) src calm1 fine few
  intro h' tk acc keep items
  show wpAny _ _ (Builtin.Tuple.tupleExact acc.toList.toArray >>= fun v => ret v) _ _ _
  have back : acc.toList.toArray = acc := by simp
  rw [back]
  unfold Builtin.Tuple.tupleExact
  refine wpAny_bind (wpAny_newObj_type ?_ (by show acc.size ≤ sizeLine; rw [items.1]; exact few))
  exact wpAny_pure (wish h' tk acc keep items)
theorem tuple_src {Q : Value → Shared → Prop} (src : KdlSrc prog w T r d n Pk Fine) (calm : A.handled = none) (fine : Fine s.heap) (few : n ≤ sizeLine)
    (wish : ∀ (h' : Heap) (tk : Nat) (acc : Array Value), (∀ b o, s.heap.get? b = some o → h'.get? b = some o) → ItemsOf Pk acc n →
      Q (.ref h'.objs.size) { s with heap := h'.push { cls := .type "tuple", data := .seq acc }, toks := tk }) :
    wpAny (model prog w) A (call (.type "tuple") [.ref r]) Q EX s := by
  refine callType_codes (Q₁ := fun obj s₁ => s₁.TypeIs obj "tuple" ∧ Q obj s₁) PySem.F.called_tuple (PySem.F.typeCall_tuple_1 _) PySem.F.entry_object_init
    (tuple_new_src (A := A.in1) src calm fine few fun h' tk acc keep items => ⟨⟨_, Heap.get?_push_size _ rfl, rfl⟩, wish h' tk acc keep items⟩) fun obj s₁ got => ?_
  exact ⟨got.1, PySem.F.args_object_init_2 obj _, object_init_meets PySem.F.called_tuple.init.lookup PySem.F.called_tuple.made (by decide) prog w A.in1 _ s₁ ⟨got.1, rfl, got.2⟩⟩
end
/-- tuple(d) -/
theorem call_tupleD {X : Cx} (calm : X.calm = true) : CallR X (.type "tuple") (fun xs H Q => ∃ (a : Addr) (kvs : List (Key × V)), xs = [.ref a] ∧ Rd H a (.dK kvs) ∧ ∀ p, H p = none → Q (.ref p) (upd H p (.tup (kvs.map fun kv => kV kv.1)))) := by
  intro pins s σ H xs us Q I rel h
  obtain ⟨a, kvs, rfl, hd, q⟩ := h
  obtain ⟨u, rfl, ru⟩ := vals1 rel
  cases ru
  obtain ⟨few, low, vs, pairs, dd⟩ := dk_rd I.hok hd
  obtain ⟨ep, at_d⟩ := dd.dictAt
  have same : (kvs.map fun kv => kV kv.1) = vs.map fun p => kV p.1 := by
    have e := congrArg (List.map kV) pairs.keys
    rw [List.map_map, List.map_map] at e
    exact e
  have few' : vs.length ≤ sizeLine := by rw [← pairs.length]; exact few
  refine tuple_src (kdl_dict (knd := mixKind X.prog X.w) (kvs := vs) (ep := ep) low) (I.ok.hd calm) at_d few' fun h' tk acc keep items => ?_
  have got : Vals (vs.map fun p => kV p.1) acc.toList := keys_at (by rw [Array.length_toList]; exact items.1) fun j v e => items.2 j v (by rw [← Array.getElem?_toList]; exact e)
  have I1 : Inv X pins σ H { s with heap := h', toks := s.toks } := I.kept (t' := s.toks) keep
  have fresh : H h'.objs.size = none := I1.hok.fresh (Nat.le_refl _)
  refine ⟨.ref h'.objs.size, upd H h'.objs.size (.tup (kvs.map fun kv => kV kv.1)), I1.laid (t' := tk) (fun b o e => Heap.get?_push_of_some _ e) (Nat.le_refl _) ?_, rfl, q _ fresh⟩
  exact ⟨by rw [List.length_map]; exact few, acc.toList, by rw [same]; exact got, by simpa using IsTup.new _ _⟩
end Rw
end T_V1

section T_N2
set_option Elab.async false
set_option linter.all false
set_option maxRecDepth 100000
set_option maxHeartbeats 4000000
namespace Rw
open PySem L2 PyProof.Rows
/-- what the class Net is, whole -/
structure NetTxt (K : PySem.W.Frag) (C : Addr) : Prop where
  cl : Cls K C
  nT : NoAttr K C "_tables"
  nN : NoAttr K C "_nodes"
  nS : NoAttr K C "_sources"
  nP : NoAttr K C "_posts"
/-- a def by its name -/
structure Cal (P : Program) (w : World) (K : PySem.W.Frag) (mg : Str → Option Value) (base : Heap) (k : Nat) (x : Str) (ps : List Str) (sp : Sp) : Prop where
  ex : ∃ f fd, FnOk P w K mg base CX0 k f fd ps sp ∧ PySem.W.keepIn K (.ref f) = true ∧ Binds K fd ps [] ∧ mg x = some (.ref f)
/-- a property of the class -/
structure Prp (P : Program) (w : World) (K : PySem.W.Frag) (mg : Str → Option Value) (base : Heap) (C : Addr) (k : Nat) (x : Str) (sp : Sp) : Prop where
  ex : ∃ p g fd, PropOf K C x p g ∧ FnOk P w K mg base CX0 k g fd ["self"] sp ∧ Binds K fd ["self"] []
section
variable {P : Program} {w : World} {K : PySem.W.Frag} {mg : Str → Option Value} {base : Heap}
def spGoals (C : Addr) : Sp := fun vs H Q _ => ∃ (m : Addr) (ends dots ss ps : List Str) (o n : Str → List (Str × V)), vs = [.ref m] ∧ NetAt C H m ends dots ss ps o n ∧ ends.length ≤ 100 ∧ ∀ p, H p = none → Q (.ref p) (upd H p (.tup (ends.map V.str)))
def spDots (C : Addr) : Sp := fun vs H Q _ => ∃ (m : Addr) (ends dots ss ps : List Str) (o n : Str → List (Str × V)), vs = [.ref m] ∧ NetAt C H m ends dots ss ps o n ∧ ∀ p, H p = some (.tup (dots.map V.str)) → Q (.ref p) H
theorem sc_goals : FnScope ["self"] ["self"] (defScope c_Net_goals) := ⟨rfl, rfl, rfl, by decide +kernel, rfl, by decide +kernel, by decide +kernel⟩
theorem sc_dots : FnScope ["self"] ["self"] (defScope c_Net_nodes) := ⟨rfl, rfl, rfl, by decide +kernel, rfl, by decide +kernel, by decide +kernel⟩
theorem ok_goals {f C : Addr} {fd : FuncData} (F : Fun K "goals" "Net.goals" c_Net_goals f fd) (T : NetTxt K C) (mTup : mg "tuple" = none) : FnOk P w K mg base CX0 1 f fd ["self"] (spGoals C) := by
  refine F.ok sc_goals (fun vs H Q E h => ?_) (fun cdv A outer s H vs Q E hr h => ?_)
  · obtain ⟨m, ends, dots, ss, ps, o, n, rfl, _⟩ := h
    rfl
  · obtain ⟨m, ends, dots, ss, ps, o, n, rfl, N, few, k⟩ := h
    refine ⟨_, pss_one (ps_ret (pe_callTy (call_tupleD rfl) (by rfl) mTup (by decide +kernel) (pa_cons (pe_fld (pv 0) rfl) pa_nil))), ?_⟩
    obtain ⟨dx, T', N', S, Po, rows, h1, h2, h3, h4, h5, h6, h7⟩ := N.ex
    refine ⟨.ref m, rfl, m, C, dx, _, .ref T', rfl, h1, T.cl, T.nT, nflds_tables _ _ _ _, T', _, rfl, .inl h2, fun p hp => ?_⟩
    rw [tkv_keysV, h6]
    exact k p hp
theorem ok_dots {f C : Addr} {fd : FuncData} (F : Fun K "nodes" "Net.nodes" c_Net_nodes f fd) (T : NetTxt K C) : FnOk P w K mg base CX0 1 f fd ["self"] (spDots C) := by
  refine F.ok sc_dots (fun vs H Q E h => ?_) (fun cdv A outer s H vs Q E hr h => ?_)
  · obtain ⟨m, ends, dots, ss, ps, o, n, rfl, _⟩ := h
    rfl
  · obtain ⟨m, ends, dots, ss, ps, o, n, rfl, N, k⟩ := h
    refine ⟨_, pss_one (ps_ret (pe_fld (pv 0) rfl)), ?_⟩
    obtain ⟨dx, T', N', S, Po, rows, h1, h2, h3, h4, h5, h6, h7⟩ := N.ex
    exact ⟨.ref m, rfl, m, C, dx, _, .ref N', rfl, h1, T.cl, T.nN, nflds_nodes _ _ _ _, k N' h3⟩
/-! ### the checks -/
def spCheckGoal (C : Addr) : Sp := fun vs H Q _ => ∃ (m : Addr) (e : Str) (ends dots ss ps : List Str) (o n : Str → List (Str × V)), vs = [.ref m, .str e] ∧ NetAt C H m ends dots ss ps o n ∧ ends.length ≤ 100 ∧ e ∈ ends ∧ ∀ H', Evl.Ex H H' → Q .non H'
def spCheckDot (C : Addr) : Sp := fun vs H Q _ => ∃ (m : Addr) (z : Str) (ends dots ss ps : List Str) (o n : Str → List (Str × V)), vs = [.ref m, .str z] ∧ NetAt C H m ends dots ss ps o n ∧ z ∈ dots ∧ Q .non H
theorem sc_check_goal : FnScope ["net", "goal"] ["net", "goal"] (defScope p_check_goal) := ⟨rfl, rfl, rfl, by decide +kernel, rfl, by decide +kernel, by decide +kernel⟩
theorem sc_check_node : FnScope ["net", "node"] ["net", "node"] (defScope p_check_node) := ⟨rfl, rfl, rfl, by decide +kernel, rfl, by decide +kernel, by decide +kernel⟩
theorem ok_check_goal {f C : Addr} {fd : FuncData} (F : Fun K "check_goal" "check_goal" p_check_goal f fd) (T : NetTxt K C) (Pg : Prp P w K mg base C 1 "goals" (spGoals C)) : FnOk P w K mg base CX0 3 f fd ["net", "goal"] (spCheckGoal C) := by
  obtain ⟨p1, g1, fd1, at1, F1, b1⟩ := Pg.ex
  refine F.ok sc_check_goal (fun vs H Q E h => ?_) (fun cdv A outer s H vs Q E hr h => ?_)
  · obtain ⟨m, e, ends, dots, ss, ps, o, n, rfl, _⟩ := h
    rfl
  · obtain ⟨m, e, ends, dots, ss, ps, o, n, rfl, N, few, he, k⟩ := h
    refine ⟨_, pss_one (ps_if (pt_cmpR op_notIn_seq (pv 1) (pe_prop (pv 0) T.cl at1 F1 hr b1 .nil pass0 rfl) rfl) (pss_one ps_never) pss_nil), ?_⟩
    have N2 := N
    obtain ⟨dx, T', N', S, Po, rows, h1, h2, h3, h4, h5, h6, h7⟩ := N.ex
    refine ⟨.str e, rfl, .ref m, rfl, m, dx, _, rfl, h1, m, ends, dots, ss, ps, o, n, rfl, N2, few, fun p hp => ⟨p, ends.map V.str, rfl, .inr (Evl.st_of upd_same), rfl, flat_strs ends, ?_⟩⟩
    rw [inV_str, decide_eq_true he]
    exact ⟨false, rfl, k _ (Evl.Ex.new hp)⟩
theorem ok_check_node {f C : Addr} {fd : FuncData} (F : Fun K "check_node" "check_node" p_check_node f fd) (T : NetTxt K C) (Pg : Prp P w K mg base C 1 "nodes" (spDots C)) : FnOk P w K mg base CX0 3 f fd ["net", "node"] (spCheckDot C) := by
  obtain ⟨p1, g1, fd1, at1, F1, b1⟩ := Pg.ex
  refine F.ok sc_check_node (fun vs H Q E h => ?_) (fun cdv A outer s H vs Q E hr h => ?_)
  · obtain ⟨m, z, ends, dots, ss, ps, o, n, rfl, _⟩ := h
    rfl
  · obtain ⟨m, z, ends, dots, ss, ps, o, n, rfl, N, hz, k⟩ := h
    refine ⟨_, pss_one (ps_if (pt_cmpR op_notIn_seq (pv 1) (pe_prop (pv 0) T.cl at1 F1 hr b1 .nil pass0 rfl) rfl) (pss_one ps_never) pss_nil), ?_⟩
    have N2 := N
    obtain ⟨dx, T', N', S, Po, rows, h1, h2, h3, h4, h5, h6, h7⟩ := N.ex
    refine ⟨.str z, rfl, .ref m, rfl, m, dx, _, rfl, h1, m, ends, dots, ss, ps, o, n, rfl, N2, fun p hp => ⟨p, dots.map V.str, rfl, .inr (Evl.st_of hp), rfl, flat_strs dots, ?_⟩⟩
    rw [inV_str, decide_eq_true hz]
    exact ⟨false, rfl, k⟩
/-- what isinstance asks of the class -/
structure NetIsi (K : PySem.W.Frag) (C : Addr) : Prop where
  ha : PySem.W.findIn K (.ref C) "__class__" = some (some (.builtin "object.__class__"))
  hn : PySem.W.specialIn K (.builtin "object.__class__") "__get__" = some (some (.builtin "getset_descriptor.__get__"))
  hk : PySem.W.takesIn K (.builtin "object.__class__") = some true
  hm : PySem.W.mroIn K C (.type "object") = some true
  me : PySem.W.kitOne K (.ref C) (.ref C) = some true
def spCheckNet (C : Addr) : Sp := fun vs H Q _ => ∃ (m : Addr) (ends dots ss ps : List Str) (o n : Str → List (Str × V)), vs = [.ref m] ∧ NetAt C H m ends dots ss ps o n ∧ Q .non H
theorem sc_check_net : FnScope ["net"] ["net"] (defScope p_check_net) := ⟨rfl, rfl, rfl, by decide +kernel, rfl, by decide +kernel, by decide +kernel⟩
theorem ok_check_net {f C : Addr} {fd : FuncData} (F : Fun K "check_net" "check_net" p_check_net f fd) (T : NetTxt K C) (Is : NetIsi K C) (mIsi : mg "isinstance" = none) (mNet : mg "Net" = some (.ref C)) : FnOk P w K mg base CX0 1 f fd ["net"] (spCheckNet C) := by
  refine F.ok sc_check_net (fun vs H Q E h => ?_) (fun cdv A outer s H vs Q E hr h => ?_)
  · obtain ⟨m, ends, dots, ss, ps, o, n, rfl, _⟩ := h
    rfl
  · obtain ⟨m, ends, dots, ss, ps, o, n, rfl, N, k⟩ := h
    refine ⟨_, pss_one (ps_if (pt_not (pt_val (pe_callB call_isi (by rfl) mIsi (by decide +kernel) (pa_cons (pv 0) (pa_cons (pe_glob (v := .ref C) (by rfl) mNet rfl) pa_nil))))) (pss_one ps_never) pss_nil), ?_⟩
    obtain ⟨dx, T', N', S, Po, rows, h1, h2, h3, h4, h5, h6, h7⟩ := N.ex
    exact ⟨.ref m, rfl, .ref m, .ref C, _, _, true, rfl, .own C, .base (.ins h1 T.cl Is.ha Is.hn Is.hk Is.hm), Is.me, true, rfl, k⟩
end
end Rw
end T_N2

section T_P1
set_option Elab.async false
set_option linter.all false
set_option maxRecDepth 100000
set_option maxHeartbeats 4000000
namespace Rw
open PySem L2 PyProof.Rows
section
variable {P : Program} {w : World} {K : PySem.W.Frag} {mg : Str → Option Value} {base : Heap}
/-! ### is_list -/
def spIsList (K : PySem.W.Frag) : Sp := fun vs H Q _ => ∃ (a : Addr) (xs : List V), vs = [.ref a] ∧ (SqL K H a xs ∨ SqT K H a xs) ∧ ∀ H', Evl.Ex H H' → Q (.bl true) H'
theorem sc_is_list : FnScope ["value"] ["value"] (defScope p_is_list) := ⟨rfl, rfl, rfl, by decide +kernel, rfl, by decide +kernel, by decide +kernel⟩
theorem ok_is_list {f : Addr} {fd : FuncData} (F : Fun K "is_list" "is_list" p_is_list f fd) (mIsi : mg "isinstance" = none) (mList : mg "list" = none) (mTup : mg "tuple" = none) : FnOk P w K mg base CX0 1 f fd ["value"] (spIsList K) := by
  refine F.ok sc_is_list (fun vs H Q E h => ?_) (fun cdv A outer s H vs Q E hr h => ?_)
  · obtain ⟨a, zs, rfl, _⟩ := h
    rfl
  · obtain ⟨a, zs, rfl, hS, k⟩ := h
    refine ⟨_, pss_one (ps_ret (pe_callB call_isiT (by rfl) mIsi (by decide +kernel) (pa_cons (pv 0) (pa_cons (pe_tup (pa_cons (pe_bltn (v := .ty "list") (by rfl) mList (by decide +kernel) rfl) (pa_cons (pe_bltn (v := .ty "tuple") (by rfl) mTup (by decide +kernel) rfl) pa_nil))) pa_nil)))), ?_⟩
    refine ⟨.ref a, rfl, by show 2 ≤ sizeLine; decide, fun t ht => ?_⟩
    have e := Evl.Ex.new (o := .tup [.ty "list", .ty "tuple"]) ht
    rcases hS with hS | hS
    · exact ⟨.ref a, t, _, .type "list", _, true, rfl, upd_same, .cons (.ty _) (.cons (.ty _) .nil), ty_sl (Evl.ex_l e hS), kitAny_cons (b := true) (kit_ty (by decide +kernel)) (fun z => by cases z) (fun _ => rfl), k _ e⟩
    · exact ⟨.ref a, t, _, .type "tuple", _, true, rfl, upd_same, .cons (.ty _) (.cons (.ty _) .nil), ty_st (Evl.ex_t e hS), kitAny_cons (b := false) (kit_ty (by decide +kernel)) (fun _ => kitAny_cons (b := true) (kit_ty (by decide +kernel)) (fun z => by cases z) (fun _ => rfl)) (fun z => by cases z), k _ e⟩
/-! ### is_name -/
def spIsName : Sp := fun vs H Q _ => ∃ z : Str, vs = [.str z] ∧ Nm z ∧ ∀ H', Evl.Ex H H' → Q (.bl true) H'
abbrev nIsName : List Str := ["value", "sign"]
theorem sc_is_name : FnScope nIsName ["value"] (defScope p_is_name) := ⟨rfl, rfl, rfl, by decide +kernel, rfl, by decide +kernel, by decide +kernel⟩
theorem ok_is_name {f : Addr} {fd : FuncData} {tk : Tok} (F : Fun K "is_name" "is_name" p_is_name f fd) (mIsi : mg "isinstance" = none) (mStr : mg "str" = none) (mLen : mg "len" = none) (mAll : mg "all" = none) (mMost : mg "MOST_LETTERS" = some (.int 6 tk)) :
    FnOk P w K mg base CX0 1 f fd ["value"] spIsName := by
  refine F.ok sc_is_name (fun vs H Q E h => ?_) (fun cdv A outer s H vs Q E hr h => ?_)
  · obtain ⟨z, rfl, _⟩ := h
    rfl
  · obtain ⟨z, rfl, hz, k⟩ := h
    have nd := sc_is_name.nd
    refine ⟨_, pss_cons (ps_if (PW.pt (pw_or (pt_not (pt_val (pe_callB call_isi (by rfl) mIsi (by decide +kernel) (pa_cons (pv 0) (pa_cons (pe_bltn (v := .ty "str") (by rfl) mStr (by decide +kernel) rfl) pa_nil)))))
          (pw_or1 (pt_not (pt_chain op_le op_le pe_int (pe_callB call_len (by rfl) mLen PySem.boot_len (pa_cons (pv 0) pa_nil)) (pe_glob (v := .int 6) (by rfl) mMost ⟨_, rfl⟩))))))
        (pss_one (ps_ret pe_bl)) pss_nil)
      (pss_one (ps_ret (pe_callB (cr_all rfl) (by rfl) mAll (by decide +kernel) (pa_cons (pe_lc (own := [("sign", 1)]) (g := gName 1) (tt := tYes) rfl nd (pi_str (pv 0)) (blkOk_by (own := [("sign", 1)]) (N := nIsName) (sc := defScope p_is_name) (by decide +kernel))
        (fun _ _ _ _ _ => pg_name (i := 1) nd rfl (Or.inl rfl)) (fun _ _ _ _ _ => pts_nil) (fun _ _ _ _ _ => pe_chain op_le_str op_le_str pe_str (pv 1) pe_str)) pa_nil)))), ?_⟩
    obtain ⟨l, rfl, h1, h2, h3⟩ := hz
    have hl : (SX.S l).length = l.length := SX.S_len l
    refine ⟨.str (SX.S l), rfl, .str (SX.S l), .ty "str", _, _, true, rfl, .ty _, .base (.str _), kit_ty (by decide +kernel), true, rfl, ?_⟩
    refine ⟨.str (SX.S l), rfl, .str (SX.S l), l.length, rfl, ⟨Nat.le_of_lt (small1000 (by omega)), hl.symm⟩, 1, (l.length : Int), rfl, rfl, true, ?_, ?_⟩
    · exact congrArg V.bl (decide_eq_true (show (1 : Int) ≤ (l.length : Int) by omega))
    · refine ⟨_, 6, rfl, rfl, true, ?_, ?_⟩
      · exact congrArg V.bl (decide_eq_true (show (l.length : Int) ≤ 6 by omega))
      · refine ⟨.str (SX.S l), rfl, _, rfl, fun D hD => lc_it walk_str (fun i H' => i ≤ l.length ∧ H' = upd H D (.lst ((List.replicate i true).map V.bl))) ⟨Nat.zero_le _, rfl⟩ (fun _ _ _ _ => trivial) ?_ ?_⟩
        · rintro i x H1 H1' hi ⟨_, rfl⟩ ⟨rfl, ch, hch, rfl⟩
          have hil : i < l.length := by simpa using hi
          have hm : ch ∈ l := by
            have z : l[i]? = some ch := by simpa using hch
            exact List.mem_of_getElem? z
          refine ⟨rfl, ?_⟩
          refine yes_if ?_
          have hb := h3 ch hm
          refine ⟨_, rfl, _, _, rfl, rfl, true, congrArg V.bl (sign_le hb.1), ?_⟩
          refine ⟨_, _, rfl, rfl, ?_⟩
          have e2 : (V.bl (!decide (([122] : List Nat) < [ch]))) = .bl true := congrArg V.bl (sign_le hb.2)
          refine ⟨_, upd_same, by rw [List.length_map, List.length_replicate]; exact small1000 (by omega), hil, ?_⟩
          rw [upd_upd, List.replicate_succ', List.map_append]
          show upd H D (.lst (_ ++ [V.bl (!decide (([122] : List Nat) < [ch]))])) = _
          rw [e2]
          rfl
        · rintro H1 ⟨_, rfl⟩
          refine ⟨D, _, rfl, Evl.sq_of upd_same, ?_⟩
          rw [all_trues]
          exact k _ (Evl.Ex.new hD)
end
end Rw
end T_P1

section T_P2
set_option Elab.async false
set_option linter.all false
set_option maxRecDepth 100000
set_option maxHeartbeats 4000000
namespace Rw
open PySem L2 PyProof.Rows
section
variable {P : Program} {w : World} {K : PySem.W.Frag} {mg : Str → Option Value} {base : Heap}
/-! ### is_place -/
def spPlace (K : PySem.W.Frag) : Sp := fun vs H Q _ => ∃ (v : V) (z e : Str) (a : Addr) (zs : List Str), vs = [v, .str z, .ref a, .str e] ∧ SqS K H a zs ∧ PlaceOk zs e z v ∧ ∀ H', Evl.Ex H H' → Q (.bl true) H'
theorem sc_is_place : FnScope ["value", "node", "nodes", "goal"] ["value", "node", "nodes", "goal"] (defScope p_is_place) := ⟨rfl, rfl, rfl, by decide +kernel, rfl, by decide +kernel, by decide +kernel⟩
theorem ok_is_place {f : Addr} {fd : FuncData} (F : Fun K "is_place" "is_place" p_is_place f fd) : FnOk P w K mg base CX0 1 f fd ["value", "node", "nodes", "goal"] (spPlace K) := by
  refine F.ok sc_is_place (fun vs H Q E h => ?_) (fun cdv A outer s H vs Q E hr h => ?_)
  · obtain ⟨v, z, e, a, zs, rfl, _⟩ := h
    rfl
  · obtain ⟨v, z, e, a, zs, rfl, hS, hv, k⟩ := h
    have k0 := k H (Evl.Ex.refl H)
    refine ⟨_, pss_one (ps_ret (pe_or (pe_cmpR op_isN (pv 0) pe_non (nomark _)) (pe_or (pe_cmpR op_eq (pv 0) (pv 3) (nomark _)) (pe_one (pe_and (pe_cmpR op_in_seq (pv 0) (pv 2) rfl) (pe_one (pe_cmpR op_ne (pv 0) (pv 1) (nomark _)))))))), ?_⟩
    rcases hv with rfl | rfl | ⟨y, hy, hne, rfl⟩
    · exact ⟨.non, rfl, rfl, true, rfl, k0⟩
    · refine ⟨.str e, rfl, rfl, false, rfl, ?_⟩
      refine ⟨.str e, rfl, .str e, rfl, rfl, true, congrArg V.bl (decide_eq_true rfl), k0⟩
    · refine ⟨.str y, rfl, rfl, false, rfl, ?_⟩
      refine ⟨.str y, rfl, .str e, rfl, rfl, _, rfl, ite2 (fun _ => k0) (fun _ => ?_)⟩
      refine ⟨.str y, rfl, .ref a, rfl, a, zs.map V.str, rfl, (hS.sq : SqL K H a _ ∨ SqT K H a _), rfl, flat_strs zs, true, ?_, ?_⟩
      · rw [inV_str]
        exact congrArg V.bl (decide_eq_true hy)
      · refine ⟨.str y, rfl, .str z, rfl, rfl, ?_⟩
        have e1 : (!decide (V.str y = V.str z)) = true := by rw [decide_eq_false (fun q => hne (V.str.inj q))]; rfl
        rw [e1]
        exact k0
/-! ### is_table -/
def spTable : Sp := fun vs H Q _ => ∃ (t a : Addr) (e : Str) (zs : List Str) (tb : List (Str × V)), vs = [.ref t, .ref a, .str e] ∧ H t = some (.dK (tkv tb)) ∧ H a = some (.lst (zs.map V.str)) ∧ TabOk zs e tb ∧ zs.length ≤ 100 ∧ ∀ H', Evl.Ex H H' → Q (.bl true) H'
abbrev nIsTable : List Str := ["table", "nodes", "goal", "node"]
theorem sc_is_table : FnScope nIsTable ["table", "nodes", "goal"] (defScope p_is_table) := ⟨rfl, rfl, rfl, by decide +kernel, rfl, by decide +kernel, by decide +kernel⟩
theorem ok_is_table {f fI : Addr} {fd fdI : FuncData} (F : Fun K "is_table" "is_table" p_is_table f fd) (I_ : FnOk P w K mg base CX0 1 fI fdI ["value", "node", "nodes", "goal"] (spPlace K)) (kI : PySem.W.keepIn K (.ref fI) = true) (bI : Binds K fdI ["value", "node", "nodes", "goal"] []) (gI : mg "is_place" = some (.ref fI))
    (mLen : mg "len" = none) (mAll : mg "all" = none) : FnOk P w K mg base CX0 2 f fd ["table", "nodes", "goal"] spTable := by
  refine F.ok sc_is_table (fun vs H Q E h => ?_) (fun cdv A outer s H vs Q E hr h => ?_)
  · obtain ⟨t, a, e, zs, tb, rfl, _⟩ := h
    rfl
  · obtain ⟨t, a, e, zs, tb, rfl, ht, ha, hT, hzl, k⟩ := h
    have nd := sc_is_table.nd
    have hu := hu_of hr
    refine ⟨_, pss_cons (ps_if (pt_cmpR op_ne (pe_callB call_lenD (by rfl) mLen PySem.boot_len (pa_cons (pv 0) pa_nil)) (pe_callB call_len (by rfl) mLen PySem.boot_len (pa_cons (pv 1) pa_nil)) (nomark _)) (pss_one (ps_ret pe_bl)) pss_nil)
      (pss_one (ps_ret (pe_callB (cr_all rfl) (by rfl) mAll (by decide +kernel) (pa_cons (pe_lc (own := [("node", 3)]) (g := gName 3) (tt := tYes) (te := tAndV (tDIn (tVar 3) (tVar 0)) (tCall (spPlace K) [] E0 (tCons (tDGet (tVar 0) (tVar 3)) (tCons (tVar 3) (tCons (tVar 1) (tCons (tVar 2) tNil)))))) rfl nd (pi_list (pv 1)) (blkOk_by (own := [("node", 3)]) (N := nIsTable) (sc := defScope p_is_table) (by decide +kernel))
        (fun _ _ _ _ _ => pg_name (i := 3) nd rfl (Or.inl rfl)) (fun _ _ _ _ _ => pts_nil)
        (fun _ _ _ _ _ => pe_and (pe_cmp (pc_din hu (pv 3) (pv 0)) rfl) (pe_one (pe_call I_ hr rfl gI kI bI .nil pass0 (pa_cons (pe_dget hu (pv 0) (pv 3) (fun _ _ => rfl)) (pa_cons (pv 3) (pa_cons (pv 1) (pa_cons (pv 2) pa_nil)))))))) pa_nil)))), ?_⟩
    refine ⟨.ref t, rfl, t, _, rfl, ht, .ref a, rfl, .ref a, (zs.map V.str).length, rfl, .inl ⟨_, Evl.sq_of ha, rfl⟩, rfl, _, rfl, ?_⟩
    have el : (tkv tb).length = (zs.map V.str).length := by rw [tkv_len, List.length_map, ← hT.ks.length_eq, List.length_map]
    refine iteNS (by rw [el]) ?_
    refine ⟨.ref a, rfl, a, rfl, ⟨_, Evl.sq_of ha⟩, fun D hD => lc_trues (Evl.sq_of ha) hD (by rw [List.length_map]; omega) (fun i x H1 Q1 R hi e1 go => ?_) (fun H1 e1 d1 => ?_)⟩
    · obtain ⟨z, hz, rfl⟩ := str_at hi
      obtain ⟨v, hv1, hv2⟩ := tkv_some (tb := tb) (z := z) (hT.ks.mem_iff.mpr (List.mem_of_getElem? hz))
      refine ⟨rfl, ?_⟩
      refine yes_if ?_
      have gt : DGet H1 t (.str z) (some v) := by
        have q := DGet.k (k := Sum.inr z) (e1 _ _ ht)
        rw [hv1] at q
        exact q
      refine ⟨.str z, rfl, .ref t, rfl, t, some v, rfl, gt, true, rfl, ?_⟩
      refine ⟨.ref t, rfl, .str z, rfl, t, v, rfl, gt, .str z, rfl, .ref a, rfl, .str e, rfl, v, z, e, a, zs, rfl, .inl (Evl.sq_of (e1 _ _ ha)), hT.ps (z, v) hv2, fun H2 e2 => go H2 e2⟩
    · refine ⟨D, _, rfl, Evl.sq_of d1, ?_⟩
      rw [all_trues]
      exact k _ e1
end
end Rw
end T_P2

section T_S4
set_option Elab.async false
set_option linter.all false
set_option maxRecDepth 100000
set_option maxHeartbeats 4000000
namespace Rw
open PySem PySem.Spec L2 PyProof.Rows
/-! ### sorted(a tuple of texts) -/
section
variable {prog : Program} {w : World} {A : Around} {E : Value → Shared → Prop} {s : Shared}
theorem gather_tup {p : Addr} {us : List Value} {Q : List Value → Shared → Prop} (tup : IsTup s.heap p us.toArray) (fits : us.length ≤ sizeLine)
    (go : Q us { s with heap := (s.heap.push (seqObj "list" #[] 0)).update s.heap.objs.size (Obj.mapSeq fun x => x ++ us.toArray) }) : wpAny (model prog w) A (collect (.ref p)) Q E s := by
  obtain ⟨ob, at_p, is_t, k, dat⟩ := id tup
  unfold collect; refine wpAny_bind (wpAny_runValue (codeAny_builtin entry_proto_collect' ?_))
  show wpAny (model prog w) _ (do again (.builtin "list.__iadd__" ⟨[← newList [], .ref p], []⟩)) _ E s
  refine wpAny_bind (wpAny_newList (wpAny_pure (And.intro (Code.quiet_builtin _ (by decide +kernel)) (codeAny_builtin entry_list_iadd' ?_))))
  show wpAny (model prog w) _ (Builtin.List.listExtendWith (.ref s.heap.objs.size) (.ref p) (.ref s.heap.objs.size)) _ E { s with heap := s.heap.push (seqObj "list" #[] 0) }
  unfold Builtin.List.listExtendWith
  have at_p2 : (s.heap.push (seqObj "list" #[] 0)).get? p = some ob := Heap.get?_push_of_some _ at_p
  have at_new : (s.heap.push (seqObj "list" #[] 0)).get? s.heap.objs.size = some (seqObj "list" #[] 0) := Heap.get?_push_size _ rfl
  refine wpAny_bind (wpAny_typeOf (T := "tuple") ⟨ob, at_p2, is_t⟩ ?_)
  rw [if_pos (by rw [show (Value.type "tuple" == Value.type "tuple") = true by rfl]; simp)]
  refine wpAny_bind (listItems_at at_p2 dat (wpAny_bind (listItems_at (xs := #[]) (n := 0) at_new rfl ?_)))
  rw [if_neg (by simp)]
  refine wpAny_bind (listUpdate_at (xs := #[]) (n := 0) at_new rfl ?_ (Nat.zero_le _) (by show (#[] ++ us.toArray).size ≤ _; simp only [Array.size_append, List.size_toArray, List.length_nil]; omega))
  refine wpAny_pure (wpAny_bind (wpAny_load (get?_update_seq at_new _) ?_))
  show wpAny (model prog w) A (pure ((#[] : Array Value) ++ us.toArray).toList) Q E _
  rw [show ((#[] : Array Value) ++ us.toArray).toList = us by simp]
  exact wpAny_pure go
end
section
variable {X : Cx}
def rSortedU (K : PySem.W.Frag) : List V → Hp → VK → Prop := fun vs H Q => ∃ (a : Addr) (ks : List Str), vs = [.ref a] ∧ SqT K H a (ks.map V.str) ∧ ks.length < 64 ∧
  ∀ (ys : List Str) (p : Addr), ys.Perm ks → sortedS ys = true → H p = none → Q (.ref p) (upd H p (.lst (ys.map V.str)))
theorem cr_sortedU : CallR X (.builtin "sorted") (rSortedU X.K) := by
  intro pins s σ H vs us Q I r reading
  obtain ⟨a, ks, rfl, ha, h64, q⟩ := reading
  rw [Vals.ref1 r]
  obtain ⟨out, rel, tup, hz⟩ := I.tuple ha
  have texts : StrsAre out ks := Vals.strs rel
  have len : out.length = ks.length := texts.len_eq
  refine Calls.call_function_entry kind_sorted plain_sorted entry_sorted (args_sorted1 _) ?_
  unfold Builtin.«sorted»; refine wpAny_bind (m := checkCount "sorted" 1 1 _) (wpAny_pure ?_)
  refine wpAny_bind (gather_tup tup (by rw [len, sizeLine_eq]; omega) ?_)
  have grown : ((s.heap.push (seqObj "list" #[] 0)).update s.heap.objs.size (Obj.mapSeq fun x => x ++ out.toArray)).objs.size = s.heap.objs.size + 1 := by rw [Heap.size_update, size_push']
  have keep : ∀ b u, s.heap.get? b = some u → ((s.heap.push (seqObj "list" #[] 0)).update s.heap.objs.size (Obj.mapSeq fun x => x ++ out.toArray)).get? b = some u := fun b u e => by
    rw [Heap.get?_update_ne _ _ _ _ (Nat.ne_of_lt (Heap.lt_size e))]
    exact Heap.get?_push_of_some _ e
  generalize (s.heap.push (seqObj "list" #[] 0)).update s.heap.objs.size (Obj.mapSeq fun x => x ++ out.toArray) = h1 at grown keep
  refine wpAny_bind (wpAny_newList ?_ (by rw [len, sizeLine_eq]; omega))
  have at_l : (h1.push (seqObj "list" out.toArray 0)).get? h1.objs.size = some (seqObj "list" out.toArray 0) := Heap.get?_push_size _ rfl
  refine wpAny_bind (wpAny_holding (wpAny_call_entry slot_list_sort ⟨_, at_l, rfl⟩ entry_list_sort
    (list_sort_treeK strKind_oneLt (s := { s with heap := h1.push (seqObj "list" out.toArray 0) }) at_l texts.keysOf (fun v₁ v₂ rest e => keyKind_strs (by rw [← e]; exact texts)) (by rw [len]; exact h64) fun st' hp hs => ⟨_, rfl, ?_⟩)
    (args_list_sort _)))
  obtain ⟨ys, g1, g2, g3⟩ := sorted_out_str texts hp hs
  obtain ⟨c, at_out⟩ := sortedHeap_at (vs := out) (out := (arrOf st').map (·.2)) at_l
  have lenys : (ys.map V.str).length ≤ sizeLine := by rw [List.length_map, g2.length_eq, sizeLine_eq]; omega
  have keep2 : ∀ b u, s.heap.get? b = some u → (sortedHeap (h1.push (seqObj "list" out.toArray 0)) h1.objs.size out ((arrOf st').map (·.2))).get? b = some u := fun b u e => by
    have e1 := keep b u e
    have lt := Heap.lt_size e1
    rw [sortedHeap_old (Nat.ne_of_lt lt) (by rw [size_push']; exact Nat.lt_succ_of_lt lt)]
    exact Heap.get?_push_of_some _ e1
  have grow : s.heap.objs.size ≤ h1.objs.size := by omega
  have fresh : H h1.objs.size = none := I.hok.fresh grow
  exact wpAny_pure ⟨_, rfl, .ref h1.objs.size, upd H h1.objs.size (.lst (ys.map V.str)), I.laid (t' := s.toks) keep2 grow ⟨lenys, ((arrOf st').map (·.2)).toList, c, vals_of_strs g1, by rw [Array.toArray_toList]; exact at_out⟩, rfl, q ys _ g2 g3 fresh⟩
/-- of a list or a tuple -/
def rSortedLU (K : PySem.W.Frag) : List V → Hp → VK → Prop := fun vs H Q => ∃ (a : Addr) (ks : List Str), vs = [.ref a] ∧ (SqL K H a (ks.map V.str) ∨ SqT K H a (ks.map V.str)) ∧ ks.length < 64 ∧
  ∀ (ys : List Str) (p : Addr), ys.Perm ks → sortedS ys = true → H p = none → Q (.ref p) (upd H p (.lst (ys.map V.str)))
theorem cr_sortedLU : CallR X (.builtin "sorted") (rSortedLU X.K) := by
  intro pins s σ H vs us Q I r reading
  obtain ⟨a, ks, rfl, ha, h64, q⟩ := reading
  rcases ha with ha | ha
  · exact cr_sortedS pins s σ H _ us Q I r ⟨a, ks, rfl, ha, h64, q⟩
  · exact cr_sortedU pins s σ H _ us Q I r ⟨a, ks, rfl, ha, h64, q⟩
end
end Rw
end T_S4

section T_P3
set_option Elab.async false
set_option linter.all false
set_option maxRecDepth 100000
set_option maxHeartbeats 4000000
namespace Rw
open PySem L2 PyProof.Rows
section
variable {P : Program} {w : World} {K : PySem.W.Frag} {mg : Str → Option Value} {base : Heap}
/-! ### are_different, of a list -/
def spDiff (K : PySem.W.Frag) : Sp := fun vs H Q _ => ∃ (a n : Addr) (ss zs : List Str), vs = [.ref a, .ref n] ∧ SqS K H a ss ∧ SqS K H n zs ∧ ss.Nodup ∧ (∀ z ∈ ss, z ∈ zs) ∧ ss.length ≤ 100 ∧ ∀ H', Evl.Ex H H' → Q (.bl true) H'
abbrev nDiff : List Str := ["value", "nodes", "item"]
theorem sc_diff : FnScope nDiff ["value", "nodes"] (defScope p_are_different) := ⟨rfl, rfl, rfl, by decide +kernel, rfl, by decide +kernel, by decide +kernel⟩
theorem ok_diff {f fI : Addr} {fd fdI : FuncData} (F : Fun K "are_different" "are_different" p_are_different f fd) (I_ : FnOk P w K mg base CX0 1 fI fdI ["value"] (spIsList K)) (kI : PySem.W.keepIn K (.ref fI) = true) (bI : Binds K fdI ["value"] []) (gI : mg "is_list" = some (.ref fI))
    (mLen : mg "len" = none) (mAll : mg "all" = none) (mSet : mg "set" = none) : FnOk P w K mg base CX0 2 f fd ["value", "nodes"] (spDiff K) := by
  refine F.ok sc_diff (fun vs H Q E h => ?_) (fun cdv A outer s H vs Q E hr h => ?_)
  · obtain ⟨a, n, ss, zs, rfl, _⟩ := h
    rfl
  · obtain ⟨a, n, ss, zs, rfl, ha, hn, hnd, hsub, hl, k⟩ := h
    have nd := sc_diff.nd
    rcases ha with ha | ha
    · refine ⟨_, pss_one (ps_ret (pe_and (pe_call I_ hr rfl gI kI bI .nil pass0 (pa_cons (pv 0) pa_nil))
        (pe_and (pe_callB (cr_all rfl) (by rfl) mAll (by decide +kernel) (pa_cons (pe_lc (own := [("item", 2)]) (g := gName 2) (tt := tYes) (te := tOp (rIn K false) (tVar 2) (tVar 1)) rfl nd (pi_list (pv 0)) (blkOk_by (own := [("item", 2)]) (N := nDiff) (sc := defScope p_are_different) (by decide +kernel))
            (fun _ _ _ _ _ => pg_name (i := 2) nd rfl (Or.inl rfl)) (fun _ _ _ _ _ => pts_nil) (fun _ _ _ _ _ => pe_cmpR op_in_seq (pv 2) (pv 1) rfl)) pa_nil))
          (pe_one (pe_cmpR op_eq (pe_callB cr_lenX (by rfl) mLen PySem.boot_len (pa_cons (pe_callTy (cr_setX rfl) (by rfl) mSet (by decide +kernel) (pa_cons (pv 0) pa_nil)) pa_nil)) (pe_callB call_len (by rfl) mLen PySem.boot_len (pa_cons (pv 0) pa_nil)) (nomark _)))))), ?_⟩
      refine ⟨.ref a, rfl, a, _, rfl, .inl ha, fun H1 e1 => ⟨true, rfl, ?_⟩⟩
      refine iteT ?_
      refine ⟨.ref a, rfl, a, rfl, ⟨_, Evl.ex_l e1 ha⟩, fun D hD => lc_trues (Evl.ex_l e1 ha) hD (by rw [List.length_map]; omega) (fun i x H2 Q1 R hi e2 go => ?_) (fun H2 e2 d2 => ?_)⟩
      · obtain ⟨z, hz, rfl⟩ := str_at hi
        refine ⟨rfl, ?_⟩
        refine yes_if ?_
        refine ⟨.str z, rfl, .ref n, rfl, n, zs.map V.str, rfl, (hn.ex (e1.trans e2)).sq, rfl, flat_strs zs, ?_⟩
        rw [inV_str, decide_eq_true (hsub z (List.mem_of_getElem? hz))]
        exact go _ (Evl.Ex.refl _)
      · refine ⟨D, _, rfl, Evl.sq_of d2, ?_⟩
        rw [all_trues]
        refine ⟨true, rfl, ?_⟩
        refine iteT ?_
        have e12 := e1.trans e2
        refine ⟨.ref a, rfl, a, ss, rfl, .inl (Evl.ex_l e12 ha), by omega, fun p hp => ?_⟩
        have e3 := Evl.Ex.new (o := SetXO w p (seen ss)) hp
        refine ⟨p, seen ss, rfl, upd_same, .ref a, rfl, .ref a, (ss.map V.str).length, rfl, .inl ⟨_, Evl.ex_l (e12.trans e3) ha, rfl⟩, rfl, ?_⟩
        rw [seen_len hnd, List.length_map, decide_eq_true rfl]
        exact k _ (e12.trans e3)
    · refine ⟨_, pss_one (ps_ret (pe_and (pe_call I_ hr rfl gI kI bI .nil pass0 (pa_cons (pv 0) pa_nil))
        (pe_and (pe_callB (cr_all rfl) (by rfl) mAll (by decide +kernel) (pa_cons (pe_lc (own := [("item", 2)]) (g := gName 2) (tt := tYes) (te := tOp (rIn K false) (tVar 2) (tVar 1)) rfl nd (pi_tup (pv 0)) (blkOk_by (own := [("item", 2)]) (N := nDiff) (sc := defScope p_are_different) (by decide +kernel))
            (fun _ _ _ _ _ => pg_name (i := 2) nd rfl (Or.inl rfl)) (fun _ _ _ _ _ => pts_nil) (fun _ _ _ _ _ => pe_cmpR op_in_seq (pv 2) (pv 1) rfl)) pa_nil))
          (pe_one (pe_cmpR op_eq (pe_callB cr_lenX (by rfl) mLen PySem.boot_len (pa_cons (pe_callTy (cr_setX rfl) (by rfl) mSet (by decide +kernel) (pa_cons (pv 0) pa_nil)) pa_nil)) (pe_callB call_len (by rfl) mLen PySem.boot_len (pa_cons (pv 0) pa_nil)) (nomark _)))))), ?_⟩
      refine ⟨.ref a, rfl, a, _, rfl, .inr ha, fun H1 e1 => ⟨true, rfl, ?_⟩⟩
      refine iteT ?_
      refine ⟨.ref a, rfl, a, rfl, ⟨_, Evl.ex_t e1 ha⟩, fun D hD => lc_truesT (Evl.ex_t e1 ha) hD (by rw [List.length_map]; omega) (fun i x H2 Q1 R hi e2 go => ?_) (fun H2 e2 d2 => ?_)⟩
      · obtain ⟨z, hz, rfl⟩ := str_at hi
        refine ⟨rfl, ?_⟩
        refine yes_if ?_
        refine ⟨.str z, rfl, .ref n, rfl, n, zs.map V.str, rfl, (hn.ex (e1.trans e2)).sq, rfl, flat_strs zs, ?_⟩
        rw [inV_str, decide_eq_true (hsub z (List.mem_of_getElem? hz))]
        exact go _ (Evl.Ex.refl _)
      · refine ⟨D, _, rfl, Evl.sq_of d2, ?_⟩
        rw [all_trues]
        refine ⟨true, rfl, ?_⟩
        refine iteT ?_
        have e12 := e1.trans e2
        refine ⟨.ref a, rfl, a, ss, rfl, .inr (Evl.ex_t e12 ha), by omega, fun p hp => ?_⟩
        have e3 := Evl.Ex.new (o := SetXO w p (seen ss)) hp
        refine ⟨p, seen ss, rfl, upd_same, .ref a, rfl, .ref a, (ss.map V.str).length, rfl, .inr ⟨_, Evl.ex_t (e12.trans e3) ha, rfl⟩, rfl, ?_⟩
        rw [seen_len hnd, List.length_map, decide_eq_true rfl]
        exact k _ (e12.trans e3)
/-! ### are_nodes -/
def spNodes : Sp := fun vs H Q _ => ∃ (a b : Addr) (zs es : List Str), vs = [.ref a, .ref b] ∧ H a = some (.lst (zs.map V.str)) ∧ H b = some (.lst (es.map V.str)) ∧ 1 ≤ zs.length ∧ zs.length ≤ 6 ∧ (∀ z ∈ zs, Nm z ∧ z ∉ es) ∧ ∀ H', Evl.Ex H H' → Q (.bl true) H'
abbrev nNodes : List Str := ["names", "goals", "name"]
theorem sc_nodes : FnScope nNodes ["names", "goals"] (defScope p_are_nodes) := ⟨rfl, rfl, rfl, by decide +kernel, rfl, by decide +kernel, by decide +kernel⟩
theorem ok_nodes {f fI : Addr} {fd fdI : FuncData} {tk : Tok} (F : Fun K "are_nodes" "are_nodes" p_are_nodes f fd) (I_ : FnOk P w K mg base CX0 1 fI fdI ["value"] spIsName) (kI : PySem.W.keepIn K (.ref fI) = true) (bI : Binds K fdI ["value"] []) (gI : mg "is_name" = some (.ref fI))
    (mLen : mg "len" = none) (mAll : mg "all" = none) (mMost : mg "MOST_NODES" = some (.int 6 tk)) : FnOk P w K mg base CX0 2 f fd ["names", "goals"] spNodes := by
  refine F.ok sc_nodes (fun vs H Q E h => ?_) (fun cdv A outer s H vs Q E hr h => ?_)
  · obtain ⟨a, b, zs, es, rfl, _⟩ := h
    rfl
  · obtain ⟨a, b, zs, es, rfl, ha, hb, h1, h6, hz, k⟩ := h
    have nd := sc_nodes.nd
    refine ⟨_, pss_one (ps_ret (pe_and (pe_chain op_le op_le pe_int (pe_callB call_len (by rfl) mLen PySem.boot_len (pa_cons (pv 0) pa_nil)) (pe_glob (v := .int 6) (by rfl) mMost ⟨_, rfl⟩))
      (pe_one (pe_callB (cr_all rfl) (by rfl) mAll (by decide +kernel) (pa_cons (pe_lc (own := [("name", 2)]) (g := gName 2) (tt := tYes) (te := tAndV (tCall spIsName [] E0 (tCons (tVar 2) tNil)) (tOp (rIn K true) (tVar 2) (tVar 1))) rfl nd (pi_list (pv 0)) (blkOk_by (own := [("name", 2)]) (N := nNodes) (sc := defScope p_are_nodes) (by decide +kernel))
          (fun _ _ _ _ _ => pg_name (i := 2) nd rfl (Or.inl rfl)) (fun _ _ _ _ _ => pts_nil) (fun _ _ _ _ _ => pe_and (pe_call I_ hr rfl gI kI bI .nil pass0 (pa_cons (pv 2) pa_nil)) (pe_one (pe_cmpR op_notIn_seq (pv 2) (pv 1) rfl)))) pa_nil))))), ?_⟩
    refine ⟨.ref a, rfl, .ref a, (zs.map V.str).length, rfl, .inl ⟨_, Evl.sq_of ha, rfl⟩, 1, ((zs.map V.str).length : Int), rfl, rfl, true, congrArg V.bl (decide_eq_true (show (1 : Int) ≤ ((zs.map V.str).length : Int) by rw [List.length_map]; omega)), ?_⟩
    refine iteT ?_
    refine ⟨_, 6, rfl, rfl, true, congrArg V.bl (decide_eq_true (show ((zs.map V.str).length : Int) ≤ 6 by rw [List.length_map]; omega)), ?_⟩
    refine iteT ?_
    refine ⟨.ref a, rfl, a, rfl, ⟨_, Evl.sq_of ha⟩, fun D hD => lc_trues (Evl.sq_of ha) hD (by rw [List.length_map]; omega) (fun i x H2 Q1 R hi e2 go => ?_) (fun H2 e2 d2 => ?_)⟩
    · obtain ⟨z, hz', rfl⟩ := str_at hi
      have hh := hz z (List.mem_of_getElem? hz')
      refine ⟨rfl, ?_⟩
      refine yes_if ?_
      refine ⟨.str z, rfl, z, rfl, hh.1, fun H3 e3 => ⟨true, rfl, ?_⟩⟩
      refine iteT ?_
      refine ⟨.str z, rfl, .ref b, rfl, b, es.map V.str, rfl, .inl (Evl.sq_of ((e2.trans e3) _ _ hb)), rfl, flat_strs es, ?_⟩
      rw [inV_str, decide_eq_false hh.2]
      exact go _ e3
    · refine ⟨D, _, rfl, Evl.sq_of d2, ?_⟩
      rw [all_trues]
      exact k _ e2
/-! ### is_pair_of_dicts -/
def spPairD : Sp := fun vs H Q _ => ∃ (p po pn : Addr) (k1 k2 : List (Key × V)), vs = [.ref p] ∧ H p = some (.tup [.ref po, .ref pn]) ∧ H po = some (.dK k1) ∧ H pn = some (.dK k2) ∧ ∀ H', Evl.Ex H H' → Q (.bl true) H'
abbrev nPairD : List Str := ["value", "part"]
theorem sc_pairD : FnScope nPairD ["value"] (defScope p_is_pair_of_dicts) := ⟨rfl, rfl, rfl, by decide +kernel, rfl, by decide +kernel, by decide +kernel⟩
theorem ok_pairD {f : Addr} {fd : FuncData} (F : Fun K "is_pair_of_dicts" "is_pair_of_dicts" p_is_pair_of_dicts f fd) (mIsi : mg "isinstance" = none) (mTup : mg "tuple" = none) (mDict : mg "dict" = none) (mLen : mg "len" = none) (mAll : mg "all" = none) : FnOk P w K mg base CX0 1 f fd ["value"] spPairD := by
  refine F.ok sc_pairD (fun vs H Q E h => ?_) (fun cdv A outer s H vs Q E hr h => ?_)
  · obtain ⟨p, po, pn, k1, k2, rfl, _⟩ := h
    rfl
  · obtain ⟨p, po, pn, k1, k2, rfl, hp, ho, hn, k⟩ := h
    have nd := sc_pairD.nd
    refine ⟨_, pss_one (ps_ret (pe_and (pe_callB call_isi (by rfl) mIsi (by decide +kernel) (pa_cons (pv 0) (pa_cons (pe_bltn (v := .ty "tuple") (by rfl) mTup (by decide +kernel) rfl) pa_nil)))
      (pe_and (pe_cmpR op_eq (pe_callB call_len (by rfl) mLen PySem.boot_len (pa_cons (pv 0) pa_nil)) pe_int (nomark _))
        (pe_one (pe_callB (cr_all rfl) (by rfl) mAll (by decide +kernel) (pa_cons (pe_lc (own := [("part", 1)]) (g := gName 1) (tt := tYes) (te := tCB (rIsi K) (tCons (tVar 1) (tCons (tC (.ty "dict")) tNil))) rfl nd (pi_tup (pv 0)) (blkOk_by (own := [("part", 1)]) (N := nPairD) (sc := defScope p_is_pair_of_dicts) (by decide +kernel))
          (fun _ _ _ _ _ => pg_name (i := 1) nd rfl (Or.inl rfl)) (fun _ _ _ _ _ => pts_nil) (fun _ _ _ _ _ => pe_callB call_isi (by rfl) mIsi (by decide +kernel) (pa_cons (pv 1) (pa_cons (pe_bltn (v := .ty "dict") (by rfl) mDict (by decide +kernel) rfl) pa_nil)))) pa_nil)))))), ?_⟩
    refine ⟨.ref p, rfl, .ref p, .ty "tuple", _, _, true, rfl, .ty _, .base (.tup hp), kit_ty (by decide +kernel), true, rfl, ?_⟩
    refine iteT ?_
    refine ⟨.ref p, rfl, .ref p, 2, rfl, .inr ⟨_, Evl.st_of hp, rfl⟩, rfl, true, rfl, ?_⟩
    refine iteT ?_
    refine ⟨.ref p, rfl, p, rfl, ⟨_, Evl.st_of hp⟩, fun D hD => lc_truesT (Evl.st_of hp) hD (by show 2 < 1000; decide) (fun i x H2 Q1 R hi e2 go => ?_) (fun H2 e2 d2 => ?_)⟩
    · refine ⟨rfl, ?_⟩
      refine yes_if ?_
      match i, hi with
      | 0, hi =>
        cases hi
        exact ⟨.ref po, rfl, .ref po, .ty "dict", _, _, true, rfl, .ty _, .base (.dK (e2 _ _ ho)), kit_ty (by decide +kernel), go _ (Evl.Ex.refl _)⟩
      | 1, hi =>
        cases hi
        exact ⟨.ref pn, rfl, .ref pn, .ty "dict", _, _, true, rfl, .ty _, .base (.dK (e2 _ _ hn)), kit_ty (by decide +kernel), go _ (Evl.Ex.refl _)⟩
      | n + 2, hi => simp at hi
    · refine ⟨D, _, rfl, Evl.sq_of d2, ?_⟩
      rw [all_trues]
      exact k _ e2
end
end Rw
end T_P3

section T_P4
set_option Elab.async false
set_option linter.all false
set_option maxRecDepth 100000
set_option maxHeartbeats 4000000
namespace Rw
open PySem L2 PyProof.Rows
section
variable {P : Program} {w : World} {K : PySem.W.Frag} {mg : Str → Option Value} {base : Heap}
/-! ### are_tables -/
def spTables : Sp := fun vs H Q _ => ∃ (t : Addr) (ends dots : List Str) (rows : List (Str × V)), vs = [.ref t] ∧ H t = some (.dK (tkv rows)) ∧ rows.map (·.1) = ends ∧ RowsOk H dots rows ∧ 0 < ends.length ∧ ends.length ≤ 2 ∧ (∀ z ∈ ends, Nm z) ∧
  0 < dots.length ∧ dots.length ≤ 6 ∧ (∀ z ∈ dots, Nm z ∧ z ∉ ends) ∧ ∀ H', Evl.Ex H H' → Q (.bl true) H'
abbrev nTables : List Str := ["value", "goals", "nodes", "goal", "table"]
theorem sc_tables : FnScope nTables ["value"] (defScope p_are_tables) := ⟨rfl, rfl, rfl, by decide +kernel, rfl, by decide +kernel, by decide +kernel⟩
theorem ok_tables {f f1 f2 f3 f4 : Addr} {fd fd1 fd2 fd3 fd4 : FuncData} {tk : Tok} (F : Fun K "are_tables" "are_tables" p_are_tables f fd)
    (F1 : FnOk P w K mg base CX0 1 f1 fd1 ["value"] spIsName) (k1 : PySem.W.keepIn K (.ref f1) = true) (b1 : Binds K fd1 ["value"] []) (g1 : mg "is_name" = some (.ref f1))
    (F2 : FnOk P w K mg base CX0 1 f2 fd2 ["value"] spPairD) (k2 : PySem.W.keepIn K (.ref f2) = true) (b2 : Binds K fd2 ["value"] []) (g2 : mg "is_pair_of_dicts" = some (.ref f2))
    (F3 : FnOk P w K mg base CX0 2 f3 fd3 ["names", "goals"] spNodes) (k3 : PySem.W.keepIn K (.ref f3) = true) (b3 : Binds K fd3 ["names", "goals"] []) (g3 : mg "are_nodes" = some (.ref f3))
    (F4 : FnOk P w K mg base CX0 2 f4 fd4 ["table", "nodes", "goal"] spTable) (k4 : PySem.W.keepIn K (.ref f4) = true) (b4 : Binds K fd4 ["table", "nodes", "goal"] []) (g4 : mg "is_table" = some (.ref f4))
    (mIsi : mg "isinstance" = none) (mDict : mg "dict" = none) (mList : mg "list" = none) (mLen : mg "len" = none) (mAll : mg "all" = none) (mMost : mg "MOST_GOALS" = some (.int 2 tk)) :
    FnOk P w K mg base CX0 3 f fd ["value"] spTables := by
  refine F.ok sc_tables (fun vs H Q E h => ?_) (fun cdv A outer s H vs Q E hr h => ?_)
  · obtain ⟨t, ends, dots, rows, rfl, _⟩ := h
    rfl
  · obtain ⟨t, ends, dots, rows, rfl, ht, hk, hro, e0, e2, he, d0, d6, hd, k⟩ := h
    have nd := sc_tables.nd
    have hu := hu_of hr
    have hr1 : Room 1 _ := hr.mono (by decide)
    refine ⟨_, pss_cons (ps_if (PW.pt (pw_or (pt_not (pt_val (pe_callB call_isi (by rfl) mIsi (by decide +kernel) (pa_cons (pv 0) (pa_cons (pe_bltn (v := .ty "dict") (by rfl) mDict (by decide +kernel) rfl) pa_nil)))))
          (pw_or1 (pt_not (pt_chain op_le op_le pe_int (pe_callB call_lenD (by rfl) mLen PySem.boot_len (pa_cons (pv 0) pa_nil)) (pe_glob (v := .int 2) (by rfl) mMost ⟨_, rfl⟩)))))) (pss_one (ps_ret pe_bl)) pss_nil)
      (pss_cons (ps_if (pt_not (pt_val (pe_callB (cr_all rfl) (by rfl) mAll (by decide +kernel) (pa_cons (pe_lock (pe_lc (own := [("goal", 3)]) (g := gName 3) (tt := tYes) (te := tAndV (tCall spIsName [] E0 (tCons (tVar 3) tNil)) (tCall spPairD [] E0 (tCons (tDGet (tVar 0) (tVar 3)) tNil))) rfl nd (pi_keys (pv 0)) (blkOk_by (own := [("goal", 3)]) (N := nTables) (sc := defScope p_are_tables) (by decide +kernel))
          (fun _ _ _ _ _ => pg_name (i := 3) nd rfl (Or.inl rfl)) (fun _ _ _ _ _ => pts_nil) (fun _ _ _ _ _ => pe_and (pe_call F1 hr1 rfl g1 k1 b1 .nil pass0 (pa_cons (pv 3) pa_nil)) (pe_one (pe_call F2 hr1 rfl g2 k2 b2 .nil pass0 (pa_cons (pe_dget hu (pv 0) (pv 3) (fun _ _ => rfl)) pa_nil)))))) pa_nil)))) (pss_one (ps_ret pe_bl)) pss_nil)
      (pss_cons (ps_set (i := 1) nd rfl (.inl rfl) (pe_callTy (call_listD rfl) (by rfl) mList (by decide +kernel) (pa_cons (pv 0) pa_nil)))
      (pss_cons (ps_set (i := 2) nd rfl (.inr rfl) (pe_callTy (call_listD rfl) (by rfl) mList (by decide +kernel) (pa_cons (pe_ix ix_tup (pe_dget hu (pv 0) (pe_ix ix_list (pv 1) pe_int (fun _ _ => rfl)) (fun _ _ => rfl)) pe_int (fun _ _ => rfl)) pa_nil)))
      (pss_cons (ps_if (pt_not (pt_val (pe_call F3 hr rfl g3 k3 b3 .nil pass0 (pa_cons (pv 2) (pa_cons (pv 1) pa_nil))))) (pss_one (ps_ret pe_bl)) pss_nil)
      (pss_one (ps_ret (pe_callB (cr_all rfl) (by rfl) mAll (by decide +kernel) (pa_cons
        (pe_lc2 (own := [("goal", 3), ("table", 4)]) (vs1 := [4]) (g := gName 3) (tt := tYes) (g1 := gName 4) (tt1 := tYes) (wi1 := iTup K (tDGet (tVar 0) (tVar 3))) (te := tCall spTable [] E0 (tCons (tVar 4) (tCons (tVar 2) (tCons (tVar 3) tNil)))) rfl nd (pi_list (pv 1)) (blkOk_by (own := [("goal", 3), ("table", 4)]) (N := nTables) (sc := defScope p_are_tables) (by decide +kernel)) (by decide)
          (fun _ _ _ _ _ => pg_name (i := 3) nd rfl (Or.inl rfl)) (fun _ _ _ _ _ => pts_nil) (fun _ _ _ _ _ => pi_tup (pe_dget hu (pv 0) (pv 3) (fun _ _ => rfl))) (fun _ _ _ _ _ => pg_name (i := 4) nd rfl (Or.inl rfl)) (fun _ _ _ _ _ => pts_nil)
          (fun _ _ _ _ _ => pe_call F4 hr rfl g4 k4 b4 .nil pass0 (pa_cons (pv 4) (pa_cons (pv 2) (pa_cons (pv 3) pa_nil))))) pa_nil)))))))), ?_⟩
    have rl : rows.length = ends.length := by rw [← hk, List.length_map]
    have rne : rows ≠ [] := fun z => by rw [z] at rl; simp at rl; omega
    have tl : (tkv rows).length = ends.length := by rw [tkv_len, rl]
    -- a row by its goal, where t may be locked
    have row : ∀ z ∈ ends, ∃ (p po pn : Addr) (t1 t2 : List (Str × V)), valV (tkv rows) (Sum.inr z) = some (.ref p) ∧ PairAt H dots z p po pn t1 t2 ∧ p ≠ t ∧ po ≠ t ∧ pn ≠ t := fun z hz => by
      obtain ⟨v, hv1, hv2⟩ := tkv_some (tb := rows) (z := z) (by rw [hk]; exact hz)
      obtain ⟨p, po, pn, t1, t2, e1, pa⟩ := hro _ hv2
      have e1' : v = .ref p := e1
      subst e1'
      exact ⟨p, po, pn, t1, t2, hv1, pa, ne_of pa.hp ht (by intro z; cases z), tab_ne ht hro rne pa.ho pa.o1, tab_ne ht hro rne pa.hn pa.o2⟩
    -- if not isinstance(value, dict) or not ..
    refine ⟨.ref t, rfl, .ref t, .ty "dict", _, _, true, rfl, .ty _, .base (.dK ht), kit_ty (by decide +kernel), true, rfl, ?_⟩
    refine ⟨.ref t, rfl, t, _, rfl, ht, 1, ((tkv rows).length : Int), rfl, rfl, true, congrArg V.bl (decide_eq_true (show (1 : Int) ≤ ((tkv rows).length : Int) by omega)), ?_⟩
    refine ⟨_, 2, rfl, rfl, true, congrArg V.bl (decide_eq_true (show ((tkv rows).length : Int) ≤ 2 by omega)), ?_⟩
    -- if not all([.. for goal in value])
    refine ⟨t, .dK (tkv rows), ht, trivial, fun od => ⟨.ref t, rfl, t, od, rfl, .inl ⟨tkv rows, upd_same, fun D hD => lc_truesW (Yx := fun i x => ∃ k v, (tkv rows)[i]? = some (k, v) ∧ x = kV k) walk_keys (fun H1 e1 => e1 _ _ upd_same) hD (by omega) (fun i x H1 Q1 R hi hx e1 go => ?_) (fun H1 e1 d1 => ?_)⟩⟩⟩
    · obtain ⟨kk, v, hkv, rfl⟩ := hx
      obtain ⟨z, rfl, hz⟩ : ∃ z : Str, kk = Sum.inr z ∧ z ∈ ends := by
        unfold tkv at hkv
        rw [List.getElem?_map] at hkv
        cases q : rows[i]? with
        | none => rw [q] at hkv; cases hkv
        | some q' =>
          rw [q] at hkv
          have := congrArg Prod.fst (Option.some.inj hkv)
          refine ⟨q'.1, this.symm, ?_⟩
          rw [← hk]
          exact List.mem_map_of_mem (List.mem_of_getElem? q)
      obtain ⟨p, po, pn, t1, t2, hv, pa, n1, n2, n3⟩ := row z hz
      refine ⟨rfl, ?_⟩
      refine yes_if ?_
      refine ⟨.str z, rfl, z, rfl, he z hz, fun H2 e2' => ⟨true, rfl, ?_⟩⟩
      refine iteT ?_
      have e12 := e1.trans e2'
      have gt : DGet H2 t (.str z) (some (.ref p)) := .inl ⟨tkv rows, Sum.inr z, .inr ⟨od, e12 _ _ upd_same⟩, rfl, hv.symm⟩
      have up : ∀ {a : Addr} {o : HO}, H a = some o → a ≠ t → H2 a = some o := fun {a o} h ne => e12 _ _ (by rw [upd_ne ne]; exact h)
      exact ⟨.ref t, rfl, .str z, rfl, t, .ref p, rfl, gt, p, po, pn, _, _, rfl, up pa.hp n1, up pa.ho n2, up pa.hn n3, fun H3 e3 => go H3 (e2'.trans e3)⟩
    · have ft : H1 t = some (.frz od (.dK (tkv rows))) := e1 _ _ upd_same
      have nDt : D ≠ t := (ne_of_none (show (upd H t (.frz od (.dK (tkv rows)))) t = some _ from upd_same) hD).symm
      refine ⟨ft, ?_⟩
      have x1 : Evl.Ex H (upd H1 t (.dK (tkv rows))) := fun a o h => by
        by_cases e : a = t
        · subst e
          rw [upd_same, ← ht, h]
        · rw [upd_ne e]
          exact e1 _ _ (by rw [upd_ne e]; exact h)
      have d2 : (upd H1 t (.dK (tkv rows))) D = some (.lst ((List.replicate (tkv rows).length true).map V.bl)) := by rw [upd_ne nDt]; exact d1
      generalize upd H1 t (.dK (tkv rows)) = H2 at x1 d2
      refine ⟨D, _, rfl, Evl.sq_of d2, ?_⟩
      rw [all_trues]
      refine ⟨true, rfl, ?_⟩
      -- goals = list(value)
      refine ⟨.ref t, rfl, t, _, rfl, .inl (x1 _ _ ht), fun gl hgl => ?_⟩
      rw [tkv_keysV, hk]
      have x2 : Evl.Ex H (upd H2 gl (.lst (ends.map V.str))) := x1.trans (Evl.Ex.new hgl)
      have eg : (upd H2 gl (.lst (ends.map V.str))) gl = some (.lst (ends.map V.str)) := upd_same
      generalize upd H2 gl (.lst (ends.map V.str)) = H3 at x2 eg
      -- nodes = list(value[goals[0]][0])
      obtain ⟨z0, r0, ez0⟩ : ∃ z0 r0, ends = z0 :: r0 := by
        cases q : ends with
        | nil => rw [q] at e0; simp at e0
        | cons z0 r0 => exact ⟨z0, r0, rfl⟩
      obtain ⟨p, po, pn, t1, t2, hv, pa, n1, n2, n3⟩ := row z0 (by rw [ez0]; exact List.mem_cons_self)
      have at0 : (ends.map V.str)[0]? = some (.str z0) := by rw [ez0]; rfl
      have dg : ∀ {Hx : Hp} {z : Str} {p : Addr}, Evl.Ex H Hx → valV (tkv rows) (Sum.inr z) = some (.ref p) → DGet Hx t (.str z) (some (.ref p)) := fun {Hx z p} x hv => by
        have q := DGet.k (k := Sum.inr z) (x _ _ ht)
        rw [hv] at q
        exact q
      refine ⟨.ref t, rfl, .ref gl, rfl, gl, _, 0, .str z0, rfl, rfl, Evl.sq_of eg, atI_nat (j := 0) at0, t, .ref p, rfl, dg x2 hv, p, _, 0, .ref po, rfl, rfl, Evl.st_of (x2 _ _ pa.hp), atI_nat (j := 0) rfl, po, _, rfl, .inl (x2 _ _ pa.ho), fun nl hnl => ?_⟩
      rw [tkv_keysV]
      have x3 : Evl.Ex H3 (upd H3 nl (.lst ((t1.map (·.1)).map V.str))) := Evl.Ex.new hnl
      have en : (upd H3 nl (.lst ((t1.map (·.1)).map V.str))) nl = some (.lst ((t1.map (·.1)).map V.str)) := upd_same
      generalize upd H3 nl (.lst ((t1.map (·.1)).map V.str)) = H4 at x3 en
      have pk := pa.o1.ks
      -- if not are_nodes(nodes, goals)
      refine ⟨.ref nl, rfl, .ref gl, rfl, nl, gl, t1.map (·.1), ends, rfl, en, x3 _ _ eg, by rw [pk.length_eq]; omega, by rw [pk.length_eq]; exact d6, fun z hz => hd z (pk.subset hz), fun H5 x4 => ⟨true, rfl, ?_⟩⟩
      have x5 : Evl.Ex H H5 := (x2.trans x3).trans x4
      have en5 := x4 _ _ en
      have eg5 := (x3.trans x4) _ _ eg
      -- the tables
      refine ⟨.ref gl, rfl, gl, rfl, ⟨_, Evl.sq_of eg5⟩, fun D2 hD2 => ⟨fun i m H6 => m = ends.length - i ∧ i ≤ ends.length ∧ Evl.Ex H5 H6 ∧ ∃ n, n ≤ 2 * i ∧ H6 D2 = some (.lst ((List.replicate n true).map V.bl)), ⟨ends.length, rfl, Nat.zero_le _, Evl.Ex.new hD2, 0, Nat.le_refl _, upd_same⟩, ?_⟩⟩
      rintro i m H6 ⟨rfl, hi, x6, n, hn, d6'⟩
      by_cases hlt : i < ends.length
      · have gi : (ends.map V.str)[i]? = some (.str ends[i]) := by rw [List.getElem?_map, List.getElem?_eq_getElem hlt]; rfl
        refine .inr ⟨⟨_, _, Evl.sq_of (x6 _ _ eg5), gi⟩, fun H' => i + 1 ≤ ends.length ∧ Evl.Ex H5 H' ∧ ∃ n, n ≤ 2 * (i + 1) ∧ H' D2 = some (.lst ((List.replicate n true).map V.bl)), fun H' h => ⟨ends.length - (i + 1), by omega, rfl, h⟩, fun x H' hy => ?_⟩
        obtain ⟨rfl, fv⟩ := hy
        have ex : x = .str ends[i] := Option.some.inj ((fv _ (Evl.sq_of (x6 _ _ eg5))).symm.trans gi)
        subst ex
        obtain ⟨p2, po2, pn2, t3, t4, hv2, pa2, m1, m2, m3⟩ := row ends[i] (List.getElem_mem hlt)
        have pa6 := pa2.ex x5
        refine ⟨rfl, ?_⟩
        refine yes_if ?_
        refine ⟨.ref t, rfl, .str ends[i], rfl, t, .ref p2, rfl, dg (x5.trans x6) hv2, p2, rfl, ⟨_, Evl.st_of (x6 _ _ pa6.hp)⟩, fun j k' H7 => k' = 2 - j ∧ j ≤ 2 ∧ Evl.Ex H5 H7 ∧ ∃ n, n ≤ 2 * i + j ∧ H7 D2 = some (.lst ((List.replicate n true).map V.bl)), ⟨2, rfl, Nat.zero_le _, x6, n, hn, d6'⟩, ?_⟩
        rintro j k' H7 ⟨rfl, hj, x7, n', hn', d7⟩
        by_cases hjl : j < 2
        · obtain ⟨tt, tbx, gj, htx, otx⟩ : ∃ (tt : Addr) (tbx : List (Str × V)), ([V.ref po2, V.ref pn2] : List V)[j]? = some (.ref tt) ∧ H7 tt = some (.dK (tkv tbx)) ∧ TabOk dots ends[i] tbx := by
            match j, hjl with
            | 0, _ => exact ⟨po2, t3, rfl, x7 _ _ pa6.ho, pa6.o1⟩
            | 1, _ => exact ⟨pn2, t4, rfl, x7 _ _ pa6.hn, pa6.o2⟩
          refine .inr ⟨⟨_, _, Evl.st_of (x7 _ _ pa6.hp), gj⟩, fun H8 => j + 1 ≤ 2 ∧ Evl.Ex H5 H8 ∧ ∃ n, n ≤ 2 * i + (j + 1) ∧ H8 D2 = some (.lst ((List.replicate n true).map V.bl)), fun H8 h => ⟨2 - (j + 1), by omega, rfl, h⟩, fun x H8 hy => ?_⟩
          obtain ⟨rfl, fv2⟩ := hy
          have ex2 : x = .ref tt := Option.some.inj ((fv2 _ (Evl.st_of (x7 _ _ pa6.hp))).symm.trans gj)
          subst ex2
          refine ⟨rfl, ?_⟩
          refine yes_if ?_
          refine ⟨.ref tt, rfl, .ref nl, rfl, .str ends[i], rfl, tt, nl, ends[i], t1.map (·.1), tbx, rfl, htx, x7 _ _ en5, otx.perm pk.symm, by rw [pk.length_eq]; omega, fun H9 x9 => ?_⟩
          refine ⟨_, x9 _ _ d7, by rw [List.length_map, List.length_replicate]; exact small1000 (by omega), by omega, (x7.trans x9).mut hD2, n' + 1, by omega, ?_⟩
          · rw [upd_same, List.replicate_succ', List.map_append]
            rfl
        · refine .inl ⟨⟨_, Evl.st_of (x7 _ _ pa6.hp), by show 2 ≤ j; omega⟩, by omega, x7, n', by omega, d7⟩
      · refine .inl ⟨⟨_, Evl.sq_of (x6 _ _ eg5), by rw [List.length_map]; omega⟩, D2, _, rfl, Evl.sq_of d6', ?_⟩
        rw [all_trues]
        exact k _ (x5.trans x6)
end
end Rw
end T_P4

section T_N1
set_option Elab.async false
set_option linter.all false
set_option maxRecDepth 100000
set_option maxHeartbeats 4000000
namespace Rw
open PySem L2 PyProof.Rows
section
variable {P : Program} {w : World} {K : PySem.W.Frag} {mg : Str → Option Value} {base : Heap}
abbrev nInit : List Str := ["self", "tables", "sources", "posts", "first_old", "_", "nodes", "goal", "old", "new", "node"]
theorem sc_init : FnScope nInit ["self", "tables", "sources", "posts"] (defScope c_Net_init) := ⟨rfl, rfl, rfl, by decide +kernel, rfl, by decide +kernel, by decide +kernel⟩
theorem ok_init {f f1 f2 C : Addr} {fd fd1 fd2 : FuncData} {tk : Tok} {dvs : List V} (F : FunD K "__init__" "Net.__init__" (defArgs c_Net_init) (defBody c_Net_init) (defScope c_Net_init) dvs [] f fd) (T : NetTxt K C)
    (F1 : FnOk P w K mg base CX0 3 f1 fd1 ["value"] spTables) (k1 : PySem.W.keepIn K (.ref f1) = true) (b1 : Binds K fd1 ["value"] []) (g1 : mg "are_tables" = some (.ref f1))
    (F2 : FnOk P w K mg base CX0 2 f2 fd2 ["value", "nodes"] (spDiff K)) (k2 : PySem.W.keepIn K (.ref f2) = true) (b2 : Binds K fd2 ["value", "nodes"] []) (g2 : mg "are_different" = some (.ref f2))
    (mList : mg "list" = none) (mTup : mg "tuple" = none) (mSorted : mg "sorted" = none) (mLen : mg "len" = none) (mMost : mg "MOST_POSTS" = some (.int 2 tk)) :
    FnOk P w K mg base CX0 4 f fd ["self", "tables", "sources", "posts"] (spInit C) := by
  refine F.ok sc_init (fun vs H Q E h => ?_) (fun cdv A outer s H vs Q E hr h => ?_)
  · obtain ⟨Hb, m, dx, t, s, p, ends, dots, ss, ps, rows, o, n, rfl, _⟩ := h
    rfl
  · obtain ⟨Hb, m, dx, t, s', p, ends, dots, ss, ps, rows, o, n, rfl, hm0, x0, hm, ht, hk, hro, hra, ⟨yz, hs, hyz⟩, hp, ok, k⟩ := h
    have nd := sc_init.nd
    have hu := hu_of hr
    have hr2 : Room 2 _ := hr.mono (by decide)
    refine ⟨_, PSs.nox (pss_cons (ps_if (pt_not (pt_val (pe_call F1 hr rfl g1 k1 b1 .nil pass0 (pa_cons (pv 1) pa_nil)))) (pss_one ps_never) pss_nil)
      (pss_cons (ps_asg (pe_ix ix_list (pe_listVals rfl (pv 1) (by rfl) mList) pe_int (fun _ _ => rfl)) (pg_tup rfl (pgs_cons (pg_name (i := 4) nd rfl (.inl rfl)) (pgs_cons (pg_name (i := 5) nd rfl (.inl rfl)) pgs_nil))))
      (pss_cons (ps_set (i := 6) nd rfl (.inl rfl) (pe_callTy call_tuple_of (by rfl) mTup (by decide +kernel) (pa_cons (pe_callB (call_sortedD rfl) (by rfl) mSorted (by decide +kernel) (pa_cons (pv 4) pa_nil)) pa_nil)))
      (pss_cons (ps_if (pt_not (pt_val (pe_call F2 hr2 rfl g2 k2 b2 .nil pass0 (pa_cons (pv 2) (pa_cons (pv 6) pa_nil))))) (pss_one ps_never) pss_nil)
      (pss_cons (ps_if (PW.pt (pw_or (pt_not (pt_val (pe_call F2 hr2 rfl g2 k2 b2 .nil pass0 (pa_cons (pv 3) (pa_cons (pv 6) pa_nil))))) (pw_or1 (pt_cmpR op_gt (pe_callB call_len (by rfl) mLen PySem.boot_len (pa_cons (pv 3) pa_nil)) (pe_glob (v := .int 2) (by rfl) mMost ⟨_, rfl⟩) (nomark _))))) (pss_one ps_never) pss_nil)
      (pss_cons (ps_fld (pv 0) pe_dnewK rfl)
      (pss_cons (ps_for PassesOwn.never rfl (pi_list (pe_callB (call_sortedD rfl) (by rfl) mSorted (by decide +kernel) (pa_cons (pv 1) pa_nil))) (pg_name (i := 7) nd rfl (.inl rfl))
        (pss_cons (ps_asg (pe_dget hu (pv 1) (pv 7) (fun _ _ => rfl)) (pg_tup rfl (pgs_cons (pg_name (i := 8) nd rfl (.inr rfl)) (pgs_cons (pg_name (i := 9) nd rfl (.inr rfl)) pgs_nil))))
        (pss_one (ps_dput hu (pe_fld (pv 0) rfl) (pv 7) (pe_tup (pa_cons
            (pe_dc (own := [("node", 10)]) (g := gName 10) (tt := tYes) (tk := tVar 10) (tv := tDGet (tVar 8) (tVar 10)) rfl nd (pi_tup (pv 6)) (blkOk_by (own := [("node", 10)]) (N := nInit) (sc := defScope c_Net_init) (by decide +kernel)) (fun _ _ _ _ _ => pg_name (i := 10) nd rfl (Or.inl rfl)) (fun _ _ _ _ _ => pts_nil) (fun _ _ _ _ _ => pv 10) (fun _ _ _ _ _ => pe_dget hu (pv 8) (pv 10) (fun _ _ => rfl)))
            (pa_cons (pe_dc (own := [("node", 10)]) (g := gName 10) (tt := tYes) (tk := tVar 10) (tv := tDGet (tVar 9) (tVar 10)) rfl nd (pi_tup (pv 6)) (blkOk_by (own := [("node", 10)]) (N := nInit) (sc := defScope c_Net_init) (by decide +kernel)) (fun _ _ _ _ _ => pg_name (i := 10) nd rfl (Or.inl rfl)) (fun _ _ _ _ _ => pts_nil) (fun _ _ _ _ _ => pv 10) (fun _ _ _ _ _ => pe_dget hu (pv 9) (pv 10) (fun _ _ => rfl))) pa_nil))) rfl))))
      (pss_cons (ps_fld (pv 0) (pv 6) rfl)
      (pss_cons (ps_fld (pv 0) (pe_callTy call_tuple_of (by rfl) mTup (by decide +kernel) (pa_cons (pe_callB cr_sortedLU (by rfl) mSorted (by decide +kernel) (pa_cons (pv 2) pa_nil)) pa_nil)) rfl)
      (pss_one (ps_fld (pv 0) (pe_callTy call_tuple_of (by rfl) mTup (by decide +kernel) (pa_cons (pv 3) pa_nil)) rfl))))))))))), ?_⟩
    have rl : rows.length = ends.length := by rw [← hk.length_eq, List.length_map]
    have rne : rows ≠ [] := fun z => by
      have := ok.e0
      rw [z] at rl
      simp at rl
      omega
    have d6 := ok.d6
    have e2 := ok.e2
    -- if not are_tables(tables)
    refine ⟨.ref t, rfl, t, rows.map (·.1), dots, rows, rfl, x0 _ _ ht, rfl, hro.ex x0, by rw [hk.length_eq]; exact ok.e0, by rw [hk.length_eq]; exact ok.e2, fun z hz => ok.em z (hk.mem_iff.mp hz), ok.d0, ok.d6, fun z hz => ⟨ok.dm z hz, fun he => ok.ed z (hk.mem_iff.mp he) hz⟩, fun H1 x1 => ⟨true, rfl, ?_⟩⟩
    have y1 := x0.trans x1
    have hm1 := x1 _ _ hm
    -- first_old, _ = list(tables.values())[0]
    refine ⟨.ref t, rfl, t, tkv rows, rfl, .inl (y1 _ _ ht), fun l hl => ?_⟩
    obtain ⟨q0, r0, er⟩ : ∃ q0 r0, rows = q0 :: r0 := by
      cases q : rows with
      | nil => exact absurd q rne
      | cons q0 r0 => exact ⟨q0, r0, rfl⟩
    obtain ⟨p0, po0, pn0, t1, t2, eq0, pa0⟩ := hro q0 (by rw [er]; exact List.mem_cons_self)
    have at0 : ((tkv rows).map (·.2))[0]? = some (.ref p0) := by rw [er, ← eq0]; rfl
    have x2 : Evl.Ex H1 (upd H1 l (.lst ((tkv rows).map (·.2)))) := Evl.Ex.new hl
    have el : (upd H1 l (.lst ((tkv rows).map (·.2)))) l = some (.lst ((tkv rows).map (·.2))) := upd_same
    generalize upd H1 l (.lst ((tkv rows).map (·.2))) = H2 at x2 el
    have y2 := y1.trans x2
    refine ⟨l, _, 0, .ref p0, rfl, rfl, Evl.sq_of el, atI_nat (j := 0) at0, p0, _, rfl, Evl.st_of (y2 _ _ pa0.hp), rfl, _, _, rfl, _, [], rfl, rfl, ?_⟩
    -- nodes = tuple(sorted(first_old))
    refine ⟨.ref po0, rfl, po0, tkv t1, t1.map (·.1), rfl, .inl (y2 _ _ pa0.ho), ?_, ?_, fun ys sl hys hsort hsl => ⟨sl, ys.map V.str, rfl, .inl ⟨Evl.sq_of upd_same, fun N hN => ?_⟩⟩⟩
    · unfold tkv
      rw [List.map_map, List.map_map]
      rfl
    · rw [pa0.o1.ks.length_eq]
      omega
    have eys : ys = dots := sorted_uniq hsort ok.ds (hys.trans pa0.o1.ks)
    subst eys
    have x3 : Evl.Ex H2 (upd (upd H2 sl (.lst (ys.map V.str))) N (.tup (ys.map V.str))) := (Evl.Ex.new hsl).trans (Evl.Ex.new hN)
    have eN : (upd (upd H2 sl (.lst (ys.map V.str))) N (.tup (ys.map V.str))) N = some (.tup (ys.map V.str)) := upd_same
    have fN : Hb N = none := by
      cases q : Hb N with
      | none => rfl
      | some o => rw [Evl.Ex.new hsl _ _ (y2 _ _ q)] at hN; cases hN
    generalize upd (upd H2 sl (.lst (ys.map V.str))) N (.tup (ys.map V.str)) = H3 at x3 eN
    have y3 := y2.trans x3
    have lss : ss.length ≤ ys.length := nodup_le ss ys ok.sn ok.sd
    have lps : ps.length ≤ ys.length := nodup_le ps ys ok.pn ok.pd
    -- if not are_different(sources, nodes)
    refine ⟨.ref s', rfl, .ref N, rfl, s', N, yz, ys, rfl, (hs.ex y3).k, .inr (Evl.st_of eN), hyz.nodup_iff.mpr ok.sn, fun z hz => ok.sd z (hyz.subset hz), by rw [hyz.length_eq]; omega, fun H4 x4 => ⟨true, rfl, ?_⟩⟩
    have y4 := y3.trans x4
    -- if not are_different(posts, nodes) or ..
    refine ⟨.ref p, rfl, .ref N, rfl, p, N, ps, ys, rfl, (hp.ex y4).k, .inr (Evl.st_of (x4 _ _ eN)), ok.pn, ok.pd, by omega, fun H5 x5 => ⟨true, rfl, ?_⟩⟩
    have y5 := y4.trans x5
    have hp2 := ok.p2
    refine ⟨.ref p, rfl, .ref p, (ps.map V.str).length, rfl, (hp.ex y5).elim (fun q => .inl ⟨_, Evl.sq_of q, rfl⟩) (fun q => .inr ⟨_, Evl.st_of q, rfl⟩), ((ps.map V.str).length : Int), 2, rfl, rfl, false, congrArg V.bl (decide_eq_false (show ¬ (2 : Int) < ((ps.map V.str).length : Int) by rw [List.length_map]; omega)), ?_⟩
    have hm5 : H5 m = some (.ins C dx []) := (((x2.trans x3).trans x4).trans x5) _ _ hm1
    have eN5 : H5 N = some (.tup (ys.map V.str)) := (x4.trans x5) _ _ eN
    -- self._tables = {}
    refine fun T' hT => ⟨.ref m, rfl, m, C, dx, [], rfl, Evl.Ex.new hT _ _ hm5, T.cl, T.nT, by decide, ?_⟩
    rw [nf1]
    have nTm : T' ≠ m := (ne_of_none hm5 hT).symm
    have nNm : N ≠ m := ne_of eN5 hm5 (by intro z; cases z)
    have fT : Hb T' = none := by
      cases q : Hb T' with
      | none => rfl
      | some o => rw [y5 _ _ q] at hT; cases hT
    have y6 : Evl.Ex Hb (upd (upd H5 T' (.dK [])) m (.ins C dx [("_tables", .ref T')])) := (y5.trans (Evl.Ex.new hT)).mut hm0
    have hm6 : (upd (upd H5 T' (.dK [])) m (.ins C dx [("_tables", .ref T')])) m = some (.ins C dx [("_tables", .ref T')]) := upd_same
    have hT6 : (upd (upd H5 T' (.dK [])) m (.ins C dx [("_tables", .ref T')])) T' = some (.dK (tkv [])) := by rw [upd_ne nTm, upd_same]; rfl
    have hN6 : (upd (upd H5 T' (.dK [])) m (.ins C dx [("_tables", .ref T')])) N = some (.tup (ys.map V.str)) := by rw [upd_ne nNm]; exact Evl.Ex.new hT _ _ eN5
    generalize upd (upd H5 T' (.dK [])) m (.ins C dx [("_tables", .ref T')]) = H6 at y6 hm6 hT6 hN6
    -- for goal in sorted(tables)
    refine ⟨.ref t, rfl, t, tkv rows, rows.map (·.1), rfl, .inl (y6 _ _ ht), ?_, by rw [hk.length_eq]; omega, fun ys2 gl hys2 hsort2 hgl => ⟨gl, rfl, ⟨_, Evl.sq_of upd_same⟩, ?_⟩⟩
    · unfold tkv
      rw [List.map_map, List.map_map]
      rfl
    have eys2 : ys2 = ends := sorted_uniq hsort2 ok.es (hys2.trans hk)
    subst eys2
    have x7 : Evl.Ex H6 (upd H6 gl (.lst (ys2.map V.str))) := Evl.Ex.new hgl
    refine for_list (K := K) (a := gl) (xs := ys2.map V.str)
      (fun i σ H' => ∃ (x7 x8 x9 : Option V) (nr : List (Str × V)), σ = [some (.ref m), some (.ref t), some (.ref s'), some (.ref p), some (.ref po0), some (.ref pn0), some (.ref N), x7, x8, x9, none] ∧ nr.map (·.1) = ys2.take i ∧
        (∀ e ∈ ys2.take i, ∃ q qo qn : Addr, valV (tkv nr) (Sum.inr e) = some (.ref q) ∧ PairAt H' ys e q qo qn (canon ys (o e)) (canon ys (n e)) ∧ Hb q = none ∧ Hb qo = none ∧ Hb qn = none ∧ qo ≠ T' ∧ qn ≠ T') ∧
        H' m = some (.ins C dx [("_tables", .ref T')]) ∧ H' T' = some (.dK (tkv nr)) ∧ H' N = some (.tup (ys.map V.str)) ∧ H' gl = some (.lst (ys2.map V.str)) ∧ Evl.Ex Hb H')
      ⟨none, none, none, [], rfl, rfl, (fun e he => by cases he), x7 _ _ hm6, x7 _ _ hT6, x7 _ _ hN6, upd_same, y6.trans x7⟩ (fun i σ H' _ ⟨_, _, _, _, _, _, _, _, _, _, h, _⟩ => Evl.sq_of h) ?_ ?_
    · rintro i x σ H7 hi ⟨x7', x8', x9', nr, rfl, hnr, hpr, hm7, hT7, hN7, hg7, y7⟩
      obtain ⟨z, hz, rfl⟩ := str_at hi
      have hil : i < ys2.length := (List.getElem?_eq_some_iff.mp hz).1
      have hzm := List.mem_of_getElem? hz
      have etake : ys2.take (i + 1) = ys2.take i ++ [z] := by rw [List.take_add_one, hz]; rfl
      have zn : z ∉ ys2.take i := fun hm => by
        have h1 : (ys2.take (i + 1)).Nodup := ok.en.sublist (List.take_sublist _ _)
        rw [etake] at h1
        exact (List.nodup_append.mp h1).2.2 z hm z (List.mem_singleton.mpr rfl) rfl
      obtain ⟨p1, po1, pn1, hv1, pa1⟩ := hra z hzm
      have gt : DGet H7 t (.str z) (some (.ref p1)) := by
        have q := DGet.k (k := Sum.inr z) (y7 _ _ ht)
        rw [hv1] at q
        exact q
      -- old, new = tables[goal]
      refine ⟨.ref t, rfl, .str z, rfl, t, .ref p1, rfl, gt, p1, _, rfl, Evl.st_of (y7 _ _ pa1.hp), rfl, _, _, rfl, _, [], rfl, rfl, ?_⟩
      -- the two new dicts
      refine ⟨.ref N, rfl, N, rfl, ⟨_, Evl.st_of hN7⟩, fun D1 hD1 => dc_canon (e := z) hN7 (y7 _ _ pa1.ho) pa1.o1 ok.dn (by omega) hD1 (fun _ => rfl) (fun _ => rfl) (fun _ => rfl) ?_⟩
      have w1 : Evl.Ex H7 (upd H7 D1 (.dK (tkv (canon ys (o z))))) := Evl.Ex.new hD1
      have d1 : (upd H7 D1 (.dK (tkv (canon ys (o z))))) D1 = some (.dK (tkv (canon ys (o z)))) := upd_same
      have fr : ∀ {a : Addr}, H7 a = none → Hb a = none := fun {a} h => by
        cases q : Hb a with
        | none => rfl
        | some o => rw [y7 _ _ q] at h; cases h
      have fD1 := fr hD1
      have nD1 : D1 ≠ T' := (ne_of_none hT7 hD1).symm
      generalize upd H7 D1 (.dK (tkv (canon ys (o z)))) = H8 at w1 d1
      refine ⟨.ref N, rfl, N, rfl, ⟨_, Evl.st_of (w1 _ _ hN7)⟩, fun D2 hD2 => dc_canon (e := z) (w1 _ _ hN7) (w1 _ _ (y7 _ _ pa1.hn)) pa1.o2 ok.dn (by omega) hD2 (fun _ => rfl) (fun _ => rfl) (fun _ => rfl) ?_⟩
      have w2 : Evl.Ex H8 (upd H8 D2 (.dK (tkv (canon ys (n z))))) := Evl.Ex.new hD2
      have d2 : (upd H8 D2 (.dK (tkv (canon ys (n z))))) D2 = some (.dK (tkv (canon ys (n z)))) := upd_same
      have fr8 : ∀ {a : Addr}, H8 a = none → Hb a = none := fun {a} h => by
        cases q : Hb a with
        | none => rfl
        | some o => rw [w1 _ _ (y7 _ _ q)] at h; cases h
      have fD2 := fr8 hD2
      have nD2 : D2 ≠ T' := (ne_of_none (w1 _ _ hT7) hD2).symm
      generalize upd H8 D2 (.dK (tkv (canon ys (n z)))) = H9 at w2 d2
      have w12 := w1.trans w2
      refine ⟨by show 2 ≤ sizeLine; decide, fun q hq => ?_⟩
      have w3 : Evl.Ex H9 (upd H9 q (.tup [.ref D1, .ref D2])) := Evl.Ex.new hq
      have d3 : (upd H9 q (.tup [.ref D1, .ref D2])) q = some (.tup [.ref D1, .ref D2]) := upd_same
      have fq : Hb q = none := by
        cases q' : Hb q with
        | none => rfl
        | some o => rw [w12 _ _ (y7 _ _ q')] at hq; cases hq
      generalize upd H9 q (.tup [.ref D1, .ref D2]) = H10 at w3 d3
      have w := w12.trans w3
      have hT10 := w _ _ hT7
      have nrl : nr.length ≤ 2 := by
        have := congrArg List.length hnr
        rw [List.length_map, List.length_take] at this
        omega
      refine ⟨.ref m, rfl, m, C, dx, _, _, rfl, w _ _ hm7, T.cl, T.nT, nf1_get T', .str z, rfl, T', _, rfl, DPut.k (k := Sum.inr z) hT10 (by rw [tkv_len]; exact small1000 (by omega)), ?_⟩
      rw [tkv_new (by rw [hnr]; exact zn)]
      have keep : ∀ {a : Addr} {u : HO}, H10 a = some u → a ≠ T' → (upd H10 T' (.dK (tkv (nr ++ [(z, V.ref q)])))) a = some u := fun {a u} h ne => by rw [upd_ne ne]; exact h
      have mT : m ≠ T' := nTm.symm
      have gT : gl ≠ T' := ne_of hg7 hT7 (by intro z; cases z)
      have NT : N ≠ T' := ne_of hN7 hT7 (by intro z; cases z)
      refine ⟨_, _, _, nr ++ [(z, .ref q)], rfl, ?_, ?_, keep (w _ _ hm7) mT, upd_same, keep (w _ _ hN7) NT, keep (w _ _ hg7) gT, (y7.trans w).mut fT⟩
      · rw [List.map_append, hnr, etake]
        rfl
      · intro e he
        rw [etake] at he
        have vget : ∀ e', valV (tkv (nr ++ [(z, V.ref q)])) (Sum.inr e') = if (Sum.inr e' : Key) = Sum.inr z then some (.ref q) else valV (tkv nr) (Sum.inr e') := fun e' => by
          have h1 := tkv_none (tb := nr) (z := z) (by rw [hnr]; exact zn)
          have h2 := valV_snoc (Sum.inr z : Key) (Sum.inr e') (V.ref q) (tkv nr) h1
          unfold tkv at h2 ⊢
          rw [List.map_append]
          exact h2
        rcases List.mem_append.mp he with he | he
        · obtain ⟨q', qo, qn, v1, pa, f1, f2, f3, n2, n3⟩ := hpr e he
          have ne : e ≠ z := fun w => zn (w ▸ he)
          have pw := pa.ex w
          refine ⟨q', qo, qn, by rw [vget, if_neg (fun w => ne (Sum.inr.inj w))]; exact v1, ⟨keep pw.hp (ne_of pw.hp hT10 (by intro z; cases z)), keep pw.ho n2, keep pw.hn n3, pw.o1, pw.o2⟩, f1, f2, f3, n2, n3⟩
        · rw [List.mem_singleton.mp he]
          refine ⟨q, D1, D2, by rw [vget, if_pos rfl], ⟨keep d3 (ne_of d3 hT10 (by intro z; cases z)), keep (w3 _ _ (w2 _ _ d1)) nD1, keep (w3 _ _ d2) nD2, canon_ok pa1.o1, canon_ok pa1.o2⟩, fq, fD1, fD2, nD1, nD2⟩
    · rintro σ H7 ⟨x7', x8', x9', nr, rfl, hnr, hpr, hm7, hT7, hN7, hg7, y7⟩
      rw [List.length_map, List.take_length] at hnr hpr
      -- self._nodes = nodes
      refine ⟨.ref N, rfl, .ref m, rfl, m, C, dx, _, rfl, hm7, T.cl, T.nN, by show 1 < 1000; decide, ?_⟩
      rw [nf2]
      have up : ∀ {Hx : Hp} {a : Addr} {u v : HO}, Hx a = some u → a ≠ m → (upd Hx m v) a = some u := fun {Hx a u v} h ne => by rw [upd_ne ne]; exact h
      have y8 : Evl.Ex Hb (upd H7 m (.ins C dx [("_tables", .ref T'), ("_nodes", .ref N)])) := y7.mut hm0
      -- self._sources = tuple(sorted(sources))
      refine ⟨.ref s', rfl, s', yz, rfl, (hs.ex y8).k, by rw [hyz.length_eq]; omega, fun ys3 sl3 hys3 hsort3 hsl3 => ⟨sl3, ys3.map V.str, rfl, .inl ⟨Evl.sq_of upd_same, fun S hS => ?_⟩⟩⟩
      have eys3 : ys3 = ss := sorted_uniq hsort3 ok.sss (hys3.trans hyz)
      subst eys3
      have w4 : Evl.Ex (upd H7 m (.ins C dx [("_tables", .ref T'), ("_nodes", .ref N)])) (upd (upd (upd H7 m (.ins C dx [("_tables", .ref T'), ("_nodes", .ref N)])) sl3 (.lst (ys3.map V.str))) S (.tup (ys3.map V.str))) := (Evl.Ex.new hsl3).trans (Evl.Ex.new hS)
      have hS8 : (upd (upd (upd H7 m (.ins C dx [("_tables", .ref T'), ("_nodes", .ref N)])) sl3 (.lst (ys3.map V.str))) S (.tup (ys3.map V.str))) S = some (.tup (ys3.map V.str)) := upd_same
      have fS : Hb S = none := by
        cases q : Hb S with
        | none => rfl
        | some o => rw [Evl.Ex.new hsl3 _ _ (y8 _ _ q)] at hS; cases hS
      have hm8 := w4 _ _ upd_same
      have old8 : ∀ {a : Addr} {u : HO}, H7 a = some u → a ≠ m → (upd (upd (upd H7 m (.ins C dx [("_tables", .ref T'), ("_nodes", .ref N)])) sl3 (.lst (ys3.map V.str))) S (.tup (ys3.map V.str))) a = some u := fun {a u} h ne => w4 _ _ (up h ne)
      have y9 := y8.trans w4
      generalize upd (upd (upd H7 m (.ins C dx [("_tables", .ref T'), ("_nodes", .ref N)])) sl3 (.lst (ys3.map V.str))) S (.tup (ys3.map V.str)) = H9 at hS8 hm8 old8 y9
      have nSm : S ≠ m := ne_of hS8 hm8 (by intro z; cases z)
      refine ⟨.ref m, rfl, m, C, dx, _, rfl, hm8, T.cl, T.nS, by show 2 < 1000; decide, ?_⟩
      rw [nf3]
      have y10 : Evl.Ex Hb (upd H9 m (.ins C dx [("_tables", .ref T'), ("_nodes", .ref N), ("_sources", .ref S)])) := y9.mut hm0
      -- self._posts = tuple(posts)
      have last : ∀ (Po : Addr) (H11 : Hp), Evl.Ex (upd H9 m (.ins C dx [("_tables", .ref T'), ("_nodes", .ref N), ("_sources", .ref S)])) H11 → H11 Po = some (.tup (ps.map V.str)) → (Hb Po = none ∨ (Po = p ∧ Hb p = some (.tup (ps.map V.str)))) →
          H11 m = some (.ins C dx [("_tables", .ref T'), ("_nodes", .ref N), ("_sources", .ref S)]) ∧ Q .non (upd H11 m (.ins C dx (nflds T' N S Po))) := by
        intro Po H11 w5 hP10 src
        have hm10 := w5 _ _ upd_same
        have old10 : ∀ {a : Addr} {u : HO}, H9 a = some u → a ≠ m → H11 a = some u := fun {a u} h ne => w5 _ _ (up h ne)
        have y11 := y10.trans w5
        have nPm : Po ≠ m := ne_of hP10 hm10 (by intro z; cases z)
        refine ⟨hm10, ?_⟩
        have y12 : Evl.Ex Hb (upd H11 m (.ins C dx (nflds T' N S Po))) := y11.mut hm0
        have fin : ∀ {a : Addr} {u : HO}, H7 a = some u → a ≠ m → Hb a = none → rest Hb (upd H11 m (.ins C dx (nflds T' N S Po))) a = some u := fun {a u} h ne f => rest_of f (up (old10 (old8 h ne) ne) ne)
        refine k _ y12 fun Hz xz pz => ⟨dx, T', N, S, Po, nr, xz _ _ (rest_of hm0 upd_same), xz _ _ (fin hT7 nTm fT), xz _ _ (fin hN7 nNm fN), xz _ _ (rest_of fS (up (old10 hS8 nSm) nSm)), ?_, hnr, fun e he => ?_⟩
        · rcases src with f | ⟨rfl, f⟩
          · exact xz _ _ (rest_of f (up hP10 nPm))
          · exact pz f
        · obtain ⟨q, qo, qn, v1, pa, f1, f2, f3, n2, n3⟩ := hpr e he
          exact ⟨q, qo, qn, v1, ⟨xz _ _ (fin pa.hp (ne_of pa.hp hm7 (by intro z; cases z)) f1), xz _ _ (fin pa.ho (ne_of pa.ho hm7 (by intro z; cases z)) f2), xz _ _ (fin pa.hn (ne_of pa.hn hm7 (by intro z; cases z)) f3), pa.o1, pa.o2⟩⟩
      rcases hp with hp | hp
      · refine ⟨.ref p, rfl, p, ps.map V.str, rfl, .inl ⟨Evl.sq_of (y10 _ _ hp), fun Po hPo => ?_⟩⟩
        have fP : Hb Po = none := by
          cases q : Hb Po with
          | none => rfl
          | some o => rw [y10 _ _ q] at hPo; cases hPo
        obtain ⟨h1, h2⟩ := last Po _ (Evl.Ex.new hPo) upd_same (.inl fP)
        refine ⟨.ref m, rfl, m, C, dx, _, rfl, h1, T.cl, T.nP, by show 3 < 1000; decide, ?_⟩
        rw [nf4]
        exact h2
      · refine ⟨.ref p, rfl, p, ps.map V.str, rfl, .inr ⟨Evl.st_of (y10 _ _ hp), ?_⟩⟩
        obtain ⟨h1, h2⟩ := last p _ (Evl.Ex.refl _) (y10 _ _ hp) (.inr ⟨rfl, hp⟩)
        refine ⟨.ref m, rfl, m, C, dx, _, rfl, h1, T.cl, T.nP, by show 3 < 1000; decide, ?_⟩
        rw [nf4]
        exact h2
end
end Rw
end T_N1

section T_N3
set_option Elab.async false
set_option linter.all false
set_option maxRecDepth 100000
set_option maxHeartbeats 4000000
namespace Rw
open PySem L2 PyProof.Rows
/-- the way of z by a table -/
def look (tb : List (Str × V)) (z : Str) : V := (valV (tkv tb) (Sum.inr z)).getD .non
/-- where old and new ways of z differ -/
def diffB (ends : List Str) (o n : Str → List (Str × V)) (z : Str) : List Bool := ends.map fun e => !decide (look (o e) z = look (n e) z)
/-- the nodes that change -/
def moving (ends dots : List Str) (o n : Str → List (Str × V)) : List Str := dots.filter fun z => (diffB ends o n z).any id
theorem look_ok {zs : List Str} {e z : Str} {tb : List (Str × V)} (h : TabOk zs e tb) (hz : z ∈ zs) : PlaceOk zs e z (look tb z) ∧ valV (tkv tb) (Sum.inr z) = some (look tb z) := by
  obtain ⟨v, h1, h2⟩ := tkv_some (tb := tb) (z := z) (h.ks.mem_iff.mpr hz)
  unfold look
  rw [h1]
  exact ⟨h.ps _ h2, rfl⟩
theorem look_canon {dots : List Str} {tb : List (Str × V)} {z : Str} (hz : z ∈ dots) : look (canon dots tb) z = look tb z := by
  unfold look
  rw [canon_get hz]
  rfl
theorem scal_place {zs ys : List Str} {e f z y : Str} {u v : V} (h1 : PlaceOk zs e z u) (h2 : PlaceOk ys f y v) : scal u v = true := by
  rcases h1 with rfl | rfl | ⟨_, _, _, rfl⟩ <;> rcases h2 with rfl | rfl | ⟨_, _, _, rfl⟩ <;> rfl
abbrev scOuter : Scope := { kind := .function, names := [(".0", .local), ("node", .cell), ("any", .globalImplicit), ("pairs", .cell)], isGenerator := false, isCoroutine := false }
theorem tkv_at : ∀ {rows : List (Str × V)} {ends : List Str} {i : Nat} {e : Str} {v : V}, rows.map (·.1) = ends → ends.Nodup → ends[i]? = some e → valV (tkv rows) (Sum.inr e) = some v → ((tkv rows).map (·.2))[i]? = some v := by
  intro rows ends i e v hk nd he hv
  have hi : i < rows.length := by
    have := (List.getElem?_eq_some_iff.mp he).1
    rw [← hk, List.length_map] at this
    exact this
  obtain ⟨u, hu, hm⟩ := tkv_some (tb := rows) (z := e) (by rw [hk]; exact List.mem_of_getElem? he)
  rw [hv] at hu
  obtain ⟨j, hj, hj'⟩ := List.getElem_of_mem hm
  have ej : ends[j]? = some e := by rw [← hk, List.getElem?_map, List.getElem?_eq_getElem hj, hj']; rfl
  have hie : i < ends.length := (List.getElem?_eq_some_iff.mp he).1
  have ij : i = j := (List.getElem?_inj hie nd).mp (he.trans ej.symm)
  subst ij
  unfold tkv
  rw [List.map_map, List.getElem?_map, List.getElem?_eq_getElem hj, hj', Option.some.inj hu]
  rfl
theorem diffB_snoc (l : List Str) (e : Str) (o n : Str → List (Str × V)) (z : Str) : diffB (l ++ [e]) o n z = diffB l o n z ++ [!decide (look (o e) z = look (n e) z)] := by
  unfold diffB
  rw [List.map_append]
  rfl
section
variable {P : Program} {w : World} {K : PySem.W.Frag} {mg : Str → Option Value} {base : Heap}
def spChanging (C : Addr) : Sp := fun vs H Q _ => ∃ (m : Addr) (ends dots ss ps : List Str) (o n : Str → List (Str × V)), vs = [.ref m] ∧ NetAt C H m ends dots ss ps o n ∧ ends.length ≤ 100 ∧ dots.length ≤ 100 ∧ ends.Nodup ∧
  ∀ p H', Evl.Ex H H' → H p = none → H' p = some (.tup ((moving ends dots o n).map V.str)) → Q (.ref p) H'
abbrev nChanging : List Str := ["self", "pairs", "node", "old", "new"]
theorem sc_changing : FnScope nChanging ["self"] (defScope c_Net_changing) := ⟨rfl, rfl, rfl, by decide +kernel, rfl, by decide +kernel, by decide +kernel⟩
theorem ok_changing {f C : Addr} {fd : FuncData} (F : Fun K "changing" "Net.changing" c_Net_changing f fd) (T : NetTxt K C) (mTup : mg "tuple" = none) (mList : mg "list" = none) (mAny : mg "any" = none) : FnOk P w K mg base CX0 2 f fd ["self"] (spChanging C) := by
  refine F.ok sc_changing (fun vs H Q E h => ?_) (fun cdv A outer s H vs Q E hr h => ?_)
  · obtain ⟨m, ends, dots, ss, ps, o, n, rfl, _⟩ := h
    rfl
  · obtain ⟨m, ends, dots, ss, ps, o, n, rfl, N, few, few2, en, k⟩ := h
    have nd := sc_changing.nd
    have hu := hu_of hr
    refine ⟨_, pss_cons (ps_set (i := 1) nd rfl (.inr rfl) (pe_listVals rfl (pe_fld (pv 0) rfl) (by rfl) mList))
      (pss_one (ps_ret (pe_callTy call_tuple_of (by rfl) mTup (by decide +kernel) (pa_cons
        (pe_lc (own := [("node", 2)]) (g := gName 2) (tt := tB (tCB (rAny K) (tCons (tLc (iList K (tVar 1)) (gTup K 2 (gCons (gName 3) (gCons (gName 4) gNil))) tYes (tOp rNe (tDGet (tVar 3) (tVar 2)) (tDGet (tVar 4) (tVar 2))) [3, 4]) tNil))) rfl nd (pi_tup (pe_fld (pv 0) rfl)) (blkOk_by (own := [("node", 2)]) (N := nChanging) (sc := defScope c_Net_changing) (by decide +kernel))
          (fun _ _ _ _ _ => pg_name (i := 2) nd rfl (Or.inr rfl))
          (fun _ _ _ _ _ => pts_one (pt_val (pe_callB (cr_any rfl) (by rfl) mAny (by decide +kernel) (pa_cons
            (pe_lc (own := [("old", 3), ("new", 4)]) (g := gTup K 2 (gCons (gName 3) (gCons (gName 4) gNil))) (tt := tYes) (te := tOp rNe (tDGet (tVar 3) (tVar 2)) (tDGet (tVar 4) (tVar 2))) rfl nd (pi_list (pv 1)) (by
              have q : ∀ {sc : Scope}, blkC nChanging scOuter sc [("old", 3), ("new", 4)] = true → BlkOk nChanging scOuter sc [("old", 3), ("new", 4)] := fun h => blkOk_by h
              refine q ?_
              decide +kernel)
              (fun _ _ _ _ _ => pg_tup rfl (pgs_cons (pg_name (i := 3) nd rfl (Or.inl rfl)) (pgs_cons (pg_name (i := 4) nd rfl (Or.inl rfl)) pgs_nil))) (fun _ _ _ _ _ => pts_nil) (fun _ _ _ _ _ => pe_cmpR op_ne (pe_dget hu (pv 3) (pv 2) (fun _ _ => rfl)) (pe_dget hu (pv 4) (pv 2) (fun _ _ => rfl)) (nomark _))) pa_nil))))
          (fun _ _ _ _ _ => pv 2)) pa_nil)))), ?_⟩
    obtain ⟨dx, T', N', S, Po, rows, h1, h2, h3, h4, h5, h6, h7⟩ := N.ex
    have rl : rows.length = ends.length := by rw [← h6, List.length_map]
    refine ⟨.ref m, rfl, m, C, dx, _, .ref T', rfl, h1, T.cl, T.nT, nflds_tables _ _ _ _, T', _, rfl, .inl h2, fun l hl => ?_⟩
    have x1 : Evl.Ex H (upd H l (.lst ((tkv rows).map (·.2)))) := Evl.Ex.new hl
    have el : (upd H l (.lst ((tkv rows).map (·.2)))) l = some (.lst ((tkv rows).map (·.2))) := upd_same
    generalize upd H l (.lst ((tkv rows).map (·.2))) = H1 at x1 el
    refine ⟨.ref m, rfl, m, C, dx, _, .ref N', rfl, x1 _ _ h1, T.cl, T.nN, nflds_nodes _ _ _ _, N', rfl, ⟨_, Evl.st_of (x1 _ _ h3)⟩, fun D hD => lc_tup (K := K) (a := N') (xs := dots.map V.str)
      (fun i H' => i ≤ dots.length ∧ Evl.Ex H1 H' ∧ H' D = some (.lst ((moving ends (dots.take i) o n).map V.str))) ⟨Nat.zero_le _, Evl.Ex.new hD, upd_same⟩ (fun i H' _ h => Evl.st_of (h.2.1 _ _ (x1 _ _ h3))) ?_ ?_⟩
    · rintro j x H3 hj ⟨_, x3, d3⟩
      obtain ⟨z, hz, rfl⟩ := str_at hj
      have hjl : j < dots.length := (List.getElem?_eq_some_iff.mp hz).1
      have zd := List.mem_of_getElem? hz
      have et : moving ends (dots.take (j + 1)) o n = moving ends (dots.take j) o n ++ if (diffB ends o n z).any id then [z] else [] := by
        unfold moving
        rw [List.take_add_one, hz, List.filter_append]
        show _ ++ List.filter _ [z] = _
        rw [List.filter_cons]
        rfl
      have dl : (moving ends (dots.take j) o n).length ≤ 100 := Nat.le_trans (List.length_filter_le _ _) (by rw [List.length_take]; omega)
      refine ⟨rfl, ?_⟩
      refine ⟨.ref l, rfl, l, rfl, ⟨_, Evl.sq_of (x3 _ _ el)⟩, fun D2 hD2 => lc_list (K := K) (a := l) (xs := (tkv rows).map (·.2))
        (fun i H' => i ≤ ends.length ∧ Evl.Ex H3 H' ∧ H' D2 = some (.lst ((diffB (ends.take i) o n z).map V.bl))) ⟨Nat.zero_le _, Evl.Ex.new hD2, upd_same⟩ (fun i H' _ h => Evl.sq_of (h.2.1 _ _ (x3 _ _ el))) ?_ ?_⟩
      · rintro i y H4 hi ⟨_, x4, d4⟩
        have hil : i < ends.length := by
          have := (List.getElem?_eq_some_iff.mp hi).1
          rw [List.length_map, tkv_len] at this
          omega
        have gi : ends[i]? = some ends[i] := List.getElem?_eq_getElem hil
        obtain ⟨p, po, pn, hv, pa⟩ := h7 ends[i] (List.getElem_mem hil)
        have ey : y = .ref p := Option.some.inj (hi.symm.trans (tkv_at h6 en gi hv))
        subst ey
        have pa4 := pa.ex (x1.trans (x3.trans x4))
        have c1 := (look_ok pa.o1 zd)
        have c2 := (look_ok pa.o2 zd)
        have g1 : DGet H4 po (.str z) (some (look (o ends[i]) z)) := by
          have q := DGet.k (k := Sum.inr z) pa4.ho
          rw [c1.2, look_canon zd] at q
          exact q
        have g2 : DGet H4 pn (.str z) (some (look (n ends[i]) z)) := by
          have q := DGet.k (k := Sum.inr z) pa4.hn
          rw [c2.2, look_canon zd] at q
          exact q
        have sc := scal_place c1.1 c2.1
        rw [look_canon zd, look_canon zd] at sc
        refine ⟨p, _, rfl, Evl.st_of pa4.hp, rfl, _, _, rfl, _, [], rfl, rfl, rfl, ?_⟩
        refine yes_if ?_
        refine ⟨.ref po, rfl, .str z, rfl, po, _, rfl, g1, .ref pn, rfl, .str z, rfl, pn, _, rfl, g2, sc, _, d4, ?_, hil, x4.mut hD2, ?_⟩
        · rw [List.length_map]
          unfold diffB
          rw [List.length_map, List.length_take]
          exact small1000 (by omega)
        · rw [upd_same, List.take_add_one, gi]
          show some (HO.lst _) = some (HO.lst (List.map V.bl (diffB (_ ++ [_]) o n z)))
          rw [diffB_snoc, List.map_append]
          rfl
      · rintro H4 ⟨_, x4, d4⟩
        rw [List.length_map, tkv_len, rl, List.take_length] at d4
        refine ⟨D2, _, rfl, Evl.sq_of d4, _, rfl, ?_⟩
        by_cases q : (diffB ends o n z).any id = true
        · rw [if_pos q] at et ⊢
          refine ⟨.str z, rfl, _, x4 _ _ d3, by rw [List.length_map]; exact small1000 (by omega), hjl, (x3.trans x4).mut hD, ?_⟩
          rw [upd_same, et, List.map_append]
          rfl
        · rw [if_neg q] at et ⊢
          refine ⟨hjl, x3.trans x4, ?_⟩
          rw [et, List.append_nil]
          exact x4 _ _ d3
    · rintro H3 ⟨_, x3, d3⟩
      rw [List.length_map, List.take_length] at d3
      refine ⟨D, _, rfl, .inl ⟨Evl.sq_of d3, fun p hp => k p _ ((x1.trans x3).trans (Evl.Ex.new hp)) ?_ upd_same⟩⟩
      cases q : H p with
      | none => rfl
      | some u => rw [(x1.trans x3) _ _ q] at hp; cases hp
end
end Rw
end T_N3

section T_D1
set_option Elab.async false
set_option linter.all false
set_option maxRecDepth 100000
set_option maxHeartbeats 4000000
namespace Rw
open PySem L2 PyProof.Rows
section
variable {P : Program} {w : World} {K : PySem.W.Frag} {mg : Str → Option Value} {base : Heap}
theorem sc_blend : FnScope ["draw", "turn", "found", "prime", "blend", "cell"] ["draw"] (defScope s_blend) := ⟨rfl, rfl, rfl, by decide +kernel, rfl, by decide +kernel, by decide +kernel⟩
theorem ok_blend {f : Addr} {fd : FuncData} (F : Fun K "_law_blend" "_law_blend" s_blend f fd) (mInt : mg "int" = none) : FnOk P w K mg base CX0 1 f fd ["draw"] spBlend := by
  refine F.ok sc_blend (fun vs H Q E h => ?_) (fun cdv A outer s H vs Q E hr h => ?_)
  · obtain ⟨d, g, c, rfl, _⟩ := h
    rfl
  · obtain ⟨d, g, c, rfl, D, k⟩ := h
    have hu := hu_of hr
    have nd := sc_blend.nd
    refine ⟨_, pss_cons (ps_set (i := 1) nd rfl (.inl rfl) (pe_op op_add (pe_dget hu (pv 0) pe_str (fun _ _ => rfl)) pe_int))
      (pss_cons (ps_dput hu (pv 0) pe_str (pv 1) rfl)
      (pss_cons (ps_set (i := 2) nd rfl (.inl rfl) pe_int)
      (pss_cons (ps_for PassesOwn.never rfl (pi_list (pe_lst (pa_cons pe_int (pa_cons pe_int (pa_cons pe_int (pa_cons pe_int pa_nil)))))) (pg_name (i := 3) nd rfl (.inl rfl))
        (pss_cons (ps_set (i := 4) nd rfl (.inl rfl) (pe_op op_mod (pe_callTy call_int1 (by rfl) mInt boot_int (pa_cons (pe_op op_add (pe_op op_mul (pv 1) pe_int) (pe_op op_fdiv (pv 3) pe_int)) pa_nil)) (pv 3)))
        (pss_cons (ps_for PassesOwn.never rfl (pi_list (pe_dget hu (pv 0) pe_str (fun _ _ => rfl))) (pg_name (i := 5) nd rfl (.inl rfl))
          (pss_one (ps_set (i := 4) nd rfl (.inl rfl) (pe_op op_mod (pe_callTy call_int1 (by rfl) mInt boot_int (pa_cons (pe_op op_add (pe_op op_mul (pv 4) pe_int) (pv 5)) pa_nil)) (pv 3)))))
        (pss_one (ps_set (i := 2) nd rfl (.inl rfl) (pe_op op_add (pe_op op_mul (pv 2) pe_int) (pe_op op_mod (pe_callTy call_int1 (by rfl) mInt boot_int (pa_cons (pe_op op_pow (pv 4) pe_int) pa_nil)) (pv 3))))))))
      (pss_one (ps_ret (pv 2)))))), ?_⟩
    obtain ⟨⟨r, t, hd⟩, ⟨gs, hg⟩, ⟨cs, hc⟩, ncg⟩ := id D
    have ndg : d ≠ g := ne_of hd hg (by intro z; cases z)
    have ndc : d ≠ c := ne_of hd hc (by intro z; cases z)
    -- turn = draw['turn'] + 1
    refine ⟨.ref d, rfl, d, _, rfl, by have := DGet.k (k := Sum.inr "turn") hd; rw [dkv_turn] at this; exact this, t, 1, rfl, rfl, ?_⟩
    -- draw['turn'] = turn
    refine ⟨_, rfl, _, rfl, d, _, rfl, DPut.k (k := Sum.inr "turn") hd (by show 4 < sizeLine; decide), ?_⟩
    rw [dkv_put_turn]
    have hc1 : SqL K (upd H d (.dK (dkv g c r (t + 1)))) c (cs.map V.int) := .inl (.inl (by rw [upd_ne ndc.symm]; exact hc))
    have hd1 : (upd H d (.dK (dkv g c r (t + 1)))) d = some (.dK (dkv g c r (t + 1))) := upd_same
    generalize hH1 : upd H d (.dK (dkv g c r (t + 1))) = H1 at hc1 hd1 ⊢
    have kp : ∀ a o, H a = some o → a ≠ d → H1 a = some o := fun a o e ne => by rw [← hH1, upd_ne ne]; exact e
    -- found = 0; the primes
    refine ⟨by show 4 ≤ sizeLine; decide, fun p hp => ?_⟩
    have npd : d ≠ p := ne_of_none hd1 hp
    have hp2 : (upd H1 p (.lst ([2147483629, 2147483587, 2147483579, 2147483563].map V.int))) p = some (.lst ([2147483629, 2147483587, 2147483579, 2147483563].map V.int)) := upd_same
    have hd2 : (upd H1 p (.lst ([2147483629, 2147483587, 2147483579, 2147483563].map V.int))) d = some (.dK (dkv g c r (t + 1))) := by rw [upd_ne npd]; exact hd1
    have s12 : Same H1 (upd H1 p (.lst ([2147483629, 2147483587, 2147483579, 2147483563].map V.int))) := fun b o e => by rw [upd_ne (ne_of_none e hp)]; exact e
    refine ⟨p, rfl, ⟨_, .inl (.inl hp2)⟩, for_list (K := K) (a := p) (xs := [2147483629, 2147483587, 2147483579, 2147483563].map V.int)
      (fun i σ H2 => H2 = upd H1 p (.lst ([2147483629, 2147483587, 2147483579, 2147483563].map V.int)) ∧ ∃ (fo : Int) (x3 x4 x5 : Option V), σ = [some (.ref d), some (.int (t + 1)), some (.int fo), x3, x4, x5])
      ⟨rfl, 0, none, none, none, rfl⟩ (fun i σ H2 _ h => h.1 ▸ .inl (.inl hp2)) ?_ ?_⟩
    · rintro i x σ H2 hi ⟨rfl, fo, x3, x4, x5, rfl⟩
      obtain ⟨q, rfl, hq0, hq1⟩ : ∃ q : Int, x = .int q ∧ 0 < q ∧ q < 2147483648 := by
        match i, hi with
        | 0, hi => exact ⟨_, (Option.some.inj hi).symm, by decide, by decide⟩
        | 1, hi => exact ⟨_, (Option.some.inj hi).symm, by decide, by decide⟩
        | 2, hi => exact ⟨_, (Option.some.inj hi).symm, by decide, by decide⟩
        | 3, hi => exact ⟨_, (Option.some.inj hi).symm, by decide, by decide⟩
        | n + 4, hi => exact absurd hi (by simp)
      refine ⟨_, rfl, t + 1, 69621, rfl, rfl, .inr ⟨by decide, by decide⟩, _, rfl, q, 7, rfl, rfl, ⟨by decide, by decide⟩, _, _, rfl, rfl, .inl ⟨_, rfl, ?_⟩⟩
      refine ⟨_, rfl, _, q, rfl, rfl, hq0, ?_⟩
      -- the cells
      refine ⟨.ref d, rfl, d, _, rfl, by have := DGet.k (k := Sum.inr "cells") hd2; rw [dkv_cells] at this; exact this, c, rfl, ⟨_, s12.seq hc1⟩, for_list (K := K) (a := c) (xs := cs.map V.int)
        (fun j σ H3 => H3 = upd H1 p (.lst ([2147483629, 2147483587, 2147483579, 2147483563].map V.int)) ∧ ∃ (bl : Int) (x5 : Option V), 0 ≤ bl ∧ bl < q ∧ σ = [some (.ref d), some (.int (t + 1)), some (.int fo), some (.int q), some (.int bl), x5])
        ⟨rfl, _, x5, Int.emod_nonneg _ (by omega), Int.emod_lt_of_pos _ hq0, rfl⟩ (fun j σ H3 _ h => h.1 ▸ s12.seq hc1) ?_ ?_⟩
      · rintro j y σ H3 hj ⟨rfl, bl, x5', hb0, hb1, rfl⟩
        obtain ⟨z, rfl⟩ : ∃ z, y = V.int z := by
          rw [List.getElem?_map] at hj
          cases e : cs[j]? with
          | none => rw [e] at hj; cases hj
          | some z => rw [e] at hj; exact ⟨z, (Option.some.inj hj).symm⟩
        refine ⟨_, rfl, bl, 48271, rfl, rfl, .inr ⟨by decide, by decide⟩, _, rfl, _, z, rfl, rfl, .inl ⟨_, rfl, ?_⟩⟩
        refine ⟨_, rfl, _, q, rfl, rfl, hq0, ?_⟩
        exact ⟨rfl, _, _, Int.emod_nonneg _ (by omega), Int.emod_lt_of_pos _ hq0, rfl⟩
      · rintro σ H3 ⟨rfl, bl, x5', hb0, hb1, rfl⟩
        refine ⟨_, rfl, fo, 2147483647, rfl, rfl, .inr ⟨by decide, by decide⟩, _, rfl, bl, 5, rfl, rfl, ⟨by decide, by decide, by omega⟩, .inl ⟨_, rfl, ?_⟩⟩
        refine ⟨_, rfl, _, q, rfl, rfl, hq0, _, _, rfl, rfl, ?_⟩
        exact ⟨rfl, _, _, _, _, rfl⟩
    · rintro σ H2 ⟨rfl, fo, x3, x4, x5, rfl⟩
      refine ⟨_, rfl, k fo _ ⟨⟨r, t + 1, hd2⟩, ⟨gs, s12 _ _ (kp _ _ hg ndg.symm)⟩, ⟨cs, s12 _ _ (kp _ _ hc ndc.symm)⟩, ncg⟩ (fun a o e n1 _ => s12 _ _ (kp a o e n1))⟩
theorem sc_take : FnScope ["draw", "size", "found"] ["draw", "size"] (defScope s_take) := ⟨rfl, rfl, rfl, by decide +kernel, rfl, by decide +kernel, by decide +kernel⟩
theorem ok_take {f fB : Addr} {fd fdB : FuncData} (F : Fun K "_law_take" "_law_take" s_take f fd) (FB : Fun K "_law_blend" "_law_blend" s_blend fB fdB) (bB : Binds K fdB ["draw"] []) (gB : mg "_law_blend" = some (.ref fB)) (mInt : mg "int" = none) :
    FnOk P w K mg base CX0 2 f fd ["draw", "size"] spTake := by
  have GB : FnOk P w K mg base CX0 1 fB fdB ["draw"] spBlend := ok_blend FB mInt
  refine F.ok sc_take (fun vs H Q E h => ?_) (fun cdv A outer s H vs Q E hr h => ?_)
  · obtain ⟨d, g, c, n, rfl, _⟩ := h
    rfl
  · obtain ⟨d, g, c, n, rfl, hn0, hn1, D, k⟩ := h
    have hu := hu_of hr
    have nd := sc_take.nd
    refine ⟨_, C8.pss_cut (ps_if (PW.pt (pw_and (pt_cmpR op_eq (pe_dget hu (pv 0) pe_str (fun _ _ => rfl)) pe_int (nomark _)) (pw_and1 (pt_cmpR (op_neD hr.units) (pe_dget hu (pv 0) pe_str (fun _ _ => rfl)) (pe_lst pa_nil) (nomark _)))))
        (pss_one (ps_dput hu (pv 0) pe_str (pe_bm PySem.F.plainAttrs_list PySem.F.slot_list_pop PySem.F.type_list_pop mt_popAt (pe_dget hu (pv 0) pe_str (fun _ _ => rfl)) (pa_cons pe_int pa_nil)) rfl)) pss_nil)
      (C8.pss_cut (ps_if (pt_cmpR op_eq (pe_dget hu (pv 0) pe_str (fun _ _ => rfl)) pe_int (nomark _))
        (pss_one (ps_dput hu (pv 0) pe_str (pe_call GB hr rfl gB FB.kp bB .nil pass0 (pa_cons (pv 0) pa_nil)) rfl)) pss_nil)
      (pss_cons (ps_set (i := 2) nd rfl (.inl rfl) (pe_op op_mod (pe_callTy call_int1 (by rfl) mInt boot_int (pa_cons (pe_dget hu (pv 0) pe_str (fun _ _ => rfl)) pa_nil)) (pv 1)))
      (pss_cons (ps_dput hu (pv 0) pe_str (pe_op op_fdiv (pe_dget hu (pv 0) pe_str (fun _ _ => rfl)) (pv 1)) rfl)
      (pss_one (ps_ret (pv 2)))))), ?_⟩
    have gr : ∀ {H1 : Hp} {r t : Int}, H1 d = some (.dK (dkv g c r t)) → DGet H1 d (.str "rest") (some (.int r)) := fun {H1 r t} e => by
      have := DGet.k (k := Sum.inr "rest") e
      rw [dkv_rest] at this
      exact this
    have gg : ∀ {H1 : Hp} {r t : Int}, H1 d = some (.dK (dkv g c r t)) → DGet H1 d (.str "great") (some (.ref g)) := fun {H1 r t} e => by
      have := DGet.k (k := Sum.inr "great") e
      rw [dkv_great] at this
      exact this
    have pr : ∀ {H1 : Hp} {r t : Int} (x : Int), H1 d = some (.dK (dkv g c r t)) → DPut H1 d (.str "rest") (.int x) (upd H1 d (.dK (dkv g c x t))) := fun {H1 r t} x e => by
      have := DPut.k (k := Sum.inr "rest") (v := .int x) e (by show 4 < sizeLine; decide)
      rw [dkv_put_rest] at this
      exact this
    -- what is stored at d leaves the draws
    have st : ∀ {H1 : Hp} {r t : Int}, DrawAt H1 d g c → SameD d g H H1 → DrawAt (upd H1 d (.dK (dkv g c r t))) d g c ∧ SameD d g H (upd H1 d (.dK (dkv g c r t))) := fun {H1 r t} D1 S1 => by
      obtain ⟨⟨r', t', hd'⟩, ⟨gs', hg'⟩, ⟨cs', hc'⟩, ncg'⟩ := D1
      exact ⟨⟨⟨r, t, upd_same⟩, ⟨gs', by rw [upd_ne (ne_of hd' hg' (by intro z; cases z)).symm]; exact hg'⟩, ⟨cs', by rw [upd_ne (ne_of hd' hc' (by intro z; cases z)).symm]; exact hc'⟩, ncg'⟩, fun a o e n1 n2 => by rw [upd_ne n1]; exact S1 a o e n1 n2⟩
    have s0 : SameD d g H H := fun a o e _ _ => e
    obtain ⟨⟨r, t, hd⟩, ⟨gs, hg⟩, ⟨cs, hc⟩, ncg⟩ := id D
    have ndg : d ≠ g := ne_of hd hg (by intro z; cases z)
    -- if draw['rest'] == 0 and draw['great'] != []
    refine ⟨fun σ' H' => σ' = [some (.ref d), some (.int n), none] ∧ DrawAt H' d g c ∧ SameD d g H H', ?_, ?_⟩
    · refine ⟨.ref d, rfl, d, _, rfl, gr hd, rfl, _, rfl, ite2 (fun _ => ?_) (fun _ => ?_)⟩
      · refine ⟨.ref d, rfl, d, _, rfl, gg hd, Nat.zero_le _, fun p hp => ?_⟩
        have npg : g ≠ p := ne_of_none hg hp
        have npd : d ≠ p := ne_of_none hd hp
        have hg1 : (upd H p (.lst [])) g = some (.lst (gs.map V.int)) := by rw [upd_ne npg]; exact hg
        have hd1 : (upd H p (.lst [])) d = some (.dK (dkv g c r t)) := by rw [upd_ne npd]; exact hd
        have hc1 : (upd H p (.lst [])) c = some (.lst (cs.map V.int)) := by rw [upd_ne (ne_of_none hc hp)]; exact hc
        have S1 : SameD d g H (upd H p (.lst [])) := fun a o e _ _ => by rw [upd_ne (ne_of_none e hp)]; exact e
        have D1 : DrawAt (upd H p (.lst [])) d g c := ⟨⟨r, t, hd1⟩, ⟨gs, hg1⟩, ⟨cs, hc1⟩, ncg⟩
        refine ⟨_, _, .lst (.inl (.inl hg1)) (dp_ints gs), .lst (.inl (.inl upd_same)) .nil, shaped_ints gs, shaped_ints [], _, rfl, ?_⟩
        rw [eqv_nil]
        cases gs with
        | nil => exact ⟨rfl, D1, S1⟩
        | cons x gs =>
          refine iteT ?_
          generalize upd H p (.lst []) = H1 at hg1 hd1 hc1 S1 D1
          refine ⟨.ref d, rfl, d, _, rfl, gg hd1, .inl ⟨rfl, _, .inl (.inl hg1)⟩, g, _, 0, 0, .int x, rfl, rfl, hg1, by decide, by decide, ?_, rfl, .ref d, rfl, d, _, rfl, pr x (r := r) (t := t) (by rw [upd_ne ndg]; exact hd1), ?_⟩
          · simp [seqIndex?]
          · have D2 : DrawAt (upd H1 g (.lst (((x :: gs).map V.int).eraseIdx 0))) d g c := ⟨⟨r, t, by rw [upd_ne ndg]; exact hd1⟩, ⟨gs, upd_same⟩, ⟨cs, by
              rw [upd_ne (show c ≠ g from fun z => ncg z)]
              exact hc1⟩, ncg⟩
            have S2 : SameD d g H (upd H1 g (.lst (((x :: gs).map V.int).eraseIdx 0))) := fun a o e n1 n2 => by rw [upd_ne n2]; exact S1 a o e n1 n2
            have z := st (r := x) (t := t) D2 S2
            exact ⟨rfl, z.1, z.2⟩
      · exact ⟨rfl, D, s0⟩
    · rintro σ' H' ⟨rfl, D1, S1⟩
      obtain ⟨⟨r1, t1, hd1⟩, _, _⟩ := id D1
      -- if draw['rest'] == 0
      refine ⟨fun σ' H' => σ' = [some (.ref d), some (.int n), none] ∧ DrawAt H' d g c ∧ SameD d g H H', ?_, ?_⟩
      · refine ⟨.ref d, rfl, d, _, rfl, gr hd1, rfl, _, rfl, ite2 (fun _ => ?_) (fun _ => ⟨rfl, D1, S1⟩)⟩
        refine ⟨.ref d, rfl, d, g, c, rfl, D1, fun x H2 D2 S2 => ?_⟩
        obtain ⟨⟨r2, t2, hd2⟩, _, _⟩ := id D2
        have S3 : SameD d g H H2 := fun a o e n1 n2 => S2 a o (S1 a o e n1 n2) n1 n2
        have z := st (r := x) (t := t2) D2 S3
        exact ⟨.ref d, rfl, d, _, rfl, pr x hd2, rfl, z.1, z.2⟩
      · rintro σ' H2 ⟨rfl, D2, S2⟩
        obtain ⟨⟨r2, t2, hd2⟩, _, _⟩ := id D2
        refine ⟨.ref d, rfl, d, _, rfl, gr hd2, .inl ⟨r2, rfl, _, rfl, r2, n, rfl, rfl, hn0, ?_⟩⟩
        refine ⟨.ref d, rfl, d, _, rfl, gr hd2, _, rfl, r2, n, rfl, rfl, ⟨hn0, hn1⟩, .ref d, rfl, d, _, rfl, pr _ hd2, _, rfl, ?_⟩
        have z := st (r := r2 / n) (t := t2) D2 S2
        exact k _ _ (Int.emod_nonneg _ (by omega)) (Int.emod_lt_of_pos _ hn0) z.1 (off_same z.2)
theorem sc_pick : FnScope ["draw", "some"] ["draw", "some"] (defScope s_pick) := ⟨rfl, rfl, rfl, by decide +kernel, rfl, by decide +kernel, by decide +kernel⟩
theorem ok_pickL {f fT : Addr} {fd fdT : FuncData} (F : Fun K "_law_pick" "_law_pick" s_pick f fd) (T : FnOk P w K mg base CX0 2 fT fdT ["draw", "size"] spTake) (kT : PySem.W.keepIn K (.ref fT) = true) (bT : Binds K fdT ["draw", "size"] []) (gT : mg "_law_take" = some (.ref fT)) (mLen : mg "len" = none) :
    FnOk P w K mg base CX0 3 f fd ["draw", "some"] (spPickL K) := by
  refine F.ok sc_pick (fun vs H Q E h => ?_) (fun cdv A outer s H vs Q E hr h => ?_)
  · obtain ⟨d, g, c, a, xs, rfl, _⟩ := h
    rfl
  · obtain ⟨d, g, c, a, xs, rfl, D, hS, h0, h1, k⟩ := h
    refine ⟨_, pss_one (ps_ret (pe_ix ix_list (pv 1) (pe_call T hr rfl gT kT bT .nil pass0 (pa_cons (pv 0) (pa_cons (pe_callB call_len (by rfl) mLen PySem.boot_len (pa_cons (pv 1) pa_nil)) pa_nil))) (fun _ _ => rfl))), ?_⟩
    refine ⟨.ref a, rfl, .ref d, rfl, .ref a, rfl, .ref a, xs.length, rfl, .inl ⟨xs, Evl.ex_l (ex_off d g H) hS, rfl⟩, ?_⟩
    refine ⟨d, g, c, (xs.length : Int), rfl, by omega, by omega, D, fun i H1 i0 i1 D1 e1 => ?_⟩
    have hi : i.toNat < xs.length := by omega
    have ei : xs[i.toNat]? = some xs[i.toNat] := List.getElem?_eq_getElem hi
    refine ⟨a, xs, i, xs[i.toNat], rfl, rfl, Evl.ex_l ((e1).trans (ex_off d g H1)) hS, ?_, k i.toNat _ H1 ei D1 e1⟩
    have z := atI_nat ei
    rw [show ((i.toNat : Nat) : Int) = i by omega] at z
    exact z
theorem ok_pickS {f fT : Addr} {fd fdT : FuncData} (F : Fun K "_law_pick" "_law_pick" s_pick f fd) (T : FnOk P w K mg base CX0 2 fT fdT ["draw", "size"] spTake) (kT : PySem.W.keepIn K (.ref fT) = true) (bT : Binds K fdT ["draw", "size"] []) (gT : mg "_law_take" = some (.ref fT)) (mLen : mg "len" = none) :
    FnOk P w K mg base CX0 3 f fd ["draw", "some"] spPickS := by
  refine F.ok sc_pick (fun vs H Q E h => ?_) (fun cdv A outer s H vs Q E hr h => ?_)
  · obtain ⟨d, g, c, z, rfl, _⟩ := h
    rfl
  · obtain ⟨d, g, c, z, rfl, D, h0, h1, k⟩ := h
    refine ⟨_, pss_one (ps_ret (pe_ix ix_str (pv 1) (pe_call T hr rfl gT kT bT .nil pass0 (pa_cons (pv 0) (pa_cons (pe_callB call_len (by rfl) mLen PySem.boot_len (pa_cons (pv 1) pa_nil)) pa_nil))) (fun _ _ => rfl))), ?_⟩
    refine ⟨.str z, rfl, .ref d, rfl, .str z, rfl, .str z, z.length, rfl, ⟨Nat.le_of_lt (small1000 h1), rfl⟩, ?_⟩
    refine ⟨d, g, c, (z.length : Int), rfl, by omega, by omega, D, fun i H1 i0 i1 D1 e1 => ?_⟩
    have hz : z.length = z.cps.toList.length := rfl
    have hi : i.toNat < z.cps.toList.length := by omega
    have ei : z.cps.toList[i.toNat]? = some z.cps.toList[i.toNat] := List.getElem?_eq_getElem hi
    refine ⟨z, i, z.cps.toList[i.toNat], rfl, rfl, Nat.le_of_lt (small1000 h1), ?_, k i.toNat _ H1 ei D1 e1⟩
    have y := atI_nat ei
    rw [show ((i.toNat : Nat) : Int) = i by omega] at y
    exact y
end
end Rw
end T_D1

section T_B9
set_option Elab.async false
set_option linter.all false
set_option maxRecDepth 100000
set_option maxHeartbeats 4000000
namespace Rw
open PySem L2 PyProof.Rows
section
variable {P : Program} {w : World} {K : PySem.W.Frag} {mg : Str → Option Value} {base : Heap}
theorem cut_take (xs : List V) (n : Nat) : cutV xs none (some (n : Int)) = xs.take n := by
  unfold cutV
  rw [show HT.sIx xs.length 0 none = 0 from rfl, HT.sIx_nat, List.drop_zero, Nat.sub_zero]
  by_cases h : n ≤ xs.length
  · rw [Nat.min_eq_left h]
  · rw [Nat.min_eq_right (by omega), List.take_length, List.take_of_length_le (by omega)]
theorem cut_drop (xs : List V) (n : Nat) : cutV xs (some (n : Int)) none = xs.drop n := by
  unfold cutV
  rw [HT.sIx_nat, HT.sIx_none]
  by_cases h : n ≤ xs.length
  · rw [Nat.min_eq_left h]
    exact List.take_of_length_le (by rw [List.length_drop]; exact Nat.le_refl _)
  · rw [Nat.min_eq_right (by omega), Nat.sub_self, List.take_zero, List.drop_of_length_le (by omega)]
abbrev nModel : List Str := ["draw", "ends", "most", "count_here", "size", "names", "dots", "rows", "end", "begins", "stops"]
theorem sc_model : FnScope nModel ["draw", "ends", "most"] (defScope s_model) := ⟨rfl, rfl, rfl, by decide +kernel, rfl, by decide +kernel, by decide +kernel⟩
theorem ok_model {f fT fP fM fW fR : Addr} {fd fdT fdP fdM fdW fdR : FuncData} (F : Fun K "_law_model" "_law_model" s_model f fd)
    (T : FnOk P w K mg base CX0 2 fT fdT ["draw", "size"] spTake) (kT : PySem.W.keepIn K (.ref fT) = true) (bT : Binds K fdT ["draw", "size"] []) (gT : mg "_law_take" = some (.ref fT))
    (PL : FnOk P w K mg base CX0 3 fP fdP ["draw", "some"] (spPickL K)) (kP : PySem.W.keepIn K (.ref fP) = true) (bP : Binds K fdP ["draw", "some"] []) (gP : mg "_law_pick" = some (.ref fP))
    (M : FnOk P w K mg base CX0 3 fM fdM ["draw", "some"] (spMixed K)) (kM : PySem.W.keepIn K (.ref fM) = true) (bM : Binds K fdM ["draw", "some"] []) (gM : mg "_law_mixed" = some (.ref fM))
    (W : FnOk P w K mg base CX0 4 fW fdW ["draw", "count"] (spWords K)) (kW : PySem.W.keepIn K (.ref fW) = true) (bW : Binds K fdW ["draw", "count"] []) (gW : mg "_law_words" = some (.ref fW))
    (R : FnOk P w K mg base CX0 5 fR fdR ["draw", "some", "end"] (spPair K)) (kR : PySem.W.keepIn K (.ref fR) = true) (bR : Binds K fdR ["draw", "some", "end"] []) (gR : mg "_law_pair" = some (.ref fR))
    (mSorted : mg "sorted" = none) (mMin : mg "min" = none) :
    FnOk P w K mg base CX0 6 f fd ["draw", "ends", "most"] spModel := by
  refine F.ok sc_model (fun vs H Q E h => ?_) (fun cdv A outer s H vs Q E hr h => ?_)
  · obtain ⟨d, g, c, e, n, rfl, _⟩ := h
    rfl
  · obtain ⟨d, g, c, e, n, rfl, D, e0, e1, n0, n1, k⟩ := h
    have nd := sc_model.nd
    have hu := hu_of hr
    have hr2 : Room 2 _ := hr.mono (by decide)
    have hr3 : Room 3 _ := hr.mono (by decide)
    have hr4 : Room 4 _ := hr.mono (by decide)
    refine ⟨_, pss_cons (ps_par (i := 3) (j := 4) (by rfl) nd rfl rfl (by decide) rfl rfl (pa_cons (pe_op op_add pe_int (pe_call T hr2 rfl gT kT bT .nil pass0 (pa_cons (pv 0) (pa_cons (pv 1) pa_nil)))) (pa_cons (pe_op op_add pe_int (pe_call T hr2 rfl gT kT bT .nil pass0 (pa_cons (pv 0) (pa_cons (pv 2) pa_nil)))) pa_nil)) (by rfl))
      (pss_cons (ps_set (i := 5) nd rfl (.inl rfl) (pe_call W hr4 rfl gW kW bW .nil pass0 (pa_cons (pv 0) (pa_cons (pe_op op_add (pv 3) (pv 4)) pa_nil))))
      (pss_cons (ps_par (i := 6) (j := 7) (by rfl) nd rfl rfl (by decide) rfl rfl (pa_cons (pe_callB cr_sortedS (by rfl) mSorted (by decide +kernel) (pa_cons (pe_slice sl_list (pv 5) (po_some (pv 3)) po_none) pa_nil)) (pa_cons pe_dnewK pa_nil)) (by rfl))
      (pss_cons (ps_for PassesOwn.never rfl (pi_list (pe_callB cr_sortedS (by rfl) mSorted (by decide +kernel) (pa_cons (pe_slice sl_list (pv 5) po_none (po_some (pv 3))) pa_nil))) (pg_name (i := 8) nd rfl (.inl rfl))
        (pss_one (ps_dput hu (pv 7) (pv 8) (pe_call R hr rfl gR kR bR .nil pass0 (pa_cons (pv 0) (pa_cons (pv 6) (pa_cons (pv 8) pa_nil)))) rfl)))
      (pss_cons (ps_set (i := 9) nd rfl (.inl rfl) (pe_callB cr_sortedS (by rfl) mSorted (by decide +kernel) (pa_cons (pe_slice sl_list (pe_call M hr3 rfl gM kM bM .nil pass0 (pa_cons (pv 0) (pa_cons (pv 6) pa_nil))) po_none
          (po_some (pe_call T hr2 rfl gT kT bT .nil pass0 (pa_cons (pv 0) (pa_cons (pe_op op_add (pe_callB (call_min2 rfl) (by rfl) mMin (by decide +kernel) (pa_cons pe_int (pa_cons (pv 4) pa_nil))) pe_int) pa_nil))))) pa_nil)))
      (pss_cons (ps_set (i := 10) nd rfl (.inl rfl) (pe_slice sl_list (pe_call M hr3 rfl gM kM bM .nil pass0 (pa_cons (pv 0) (pa_cons (pv 6) pa_nil))) po_none
          (po_some (pe_call PL hr3 rfl gP kP bP .nil pass0 (pa_cons (pv 0) (pa_cons (pe_lst (pa_cons pe_int (pa_cons pe_int (pa_cons pe_int (pa_cons pe_int (pa_cons pe_int pa_nil)))))) pa_nil))))))
      (pss_one (ps_ret (pe_disp (pps_cons pe_str (pv 7) (pps_cons pe_str (pv 6) (pps_cons pe_str (pv 9) (pps_cons pe_str (pv 10) pps_nil)))) (by rfl) (by rfl) (fun z => by cases z) (by decide))))))))), ?_⟩
    -- many, size
    refine ⟨.ref d, rfl, .int e, rfl, d, g, c, e, rfl, e0, by omega, D, fun a H1 a0 a1 D1 x1 => ⟨1, a, rfl, rfl, .ref d, rfl, .int n, rfl, d, g, c, n, rfl, n0, by omega, D1, fun b H2 b0 b1 D2 x2 => ⟨1, b, rfl, rfl, _, _, rfl, ?_⟩⟩⟩
    obtain ⟨a', rfl⟩ := Int.eq_ofNat_of_zero_le a0
    obtain ⟨b', rfl⟩ := Int.eq_ofNat_of_zero_le b0
    have eN : (1 + (a' : Int) + (1 + (b' : Int))) = ((1 + a' + (1 + b') : Nat) : Int) := by omega
    have eM : (1 + (a' : Int)) = ((1 + a' : Nat) : Int) := by omega
    -- names
    refine ⟨.ref d, rfl, .int (1 + (a' : Int)), rfl, .int (1 + (b' : Int)), rfl, _, _, rfl, rfl, d, g, c, 1 + a' + (1 + b'), by rw [← eN]; rfl, D2, by omega, fun nm zs H3 zl znd znm D3 x3 _ hnm => ?_⟩
    have hnm' := off_some hnm
    -- dots, rows = (sorted(names[many:]), {})
    refine ⟨.ref nm, rfl, .int (1 + (a' : Int)), rfl, _, rfl, nm, _, rfl, Evl.sq_of hnm'.2.2, fun sl hsl => ?_⟩
    rw [eM, cut_drop, ← List.map_drop]
    refine ⟨sl, zs.drop (1 + a'), rfl, Evl.sq_of upd_same, by rw [List.length_drop]; omega, fun dots db dperm dsort hdb tb htb => ⟨_, _, rfl, ?_⟩⟩
    have x4 : Evl.Ex H3 (upd (upd (upd H3 sl (.lst ((zs.drop (1 + a')).map V.str))) db (.lst (dots.map V.str))) tb (.dK [])) := ((Evl.Ex.new hsl).trans (Evl.Ex.new hdb)).trans (Evl.Ex.new htb)
    have D4 := D3.ext x4
    have ndb := (D3.new hsl).ned hdb
    have ntb := ((D3.new hsl).new hdb).ned htb
    have q1 : off d g (upd (upd (upd H3 sl (.lst ((zs.drop (1 + a')).map V.str))) db (.lst (dots.map V.str))) tb (.dK [])) db = some (.lst (dots.map V.str)) := off_of (Evl.Ex.new htb _ _ upd_same) ndb.1 ndb.2.1
    have q2 : (upd (upd (upd H3 sl (.lst ((zs.drop (1 + a')).map V.str))) db (.lst (dots.map V.str))) tb (.dK [])) tb = some (.dK (tkv [])) := upd_same
    have q3 := off_ex (d := d) (g := g) x4 _ _ hnm
    have y4 := (x1.trans x2).trans (x3.trans (off_ex (d := d) (g := g) x4))
    have tb0 : H tb = none := by
      refine ex_free (((x1.trans x2).trans x3).trans (off_ex (d := d) (g := g) ((Evl.Ex.new hsl).trans (Evl.Ex.new hdb)))) ntb.1 ntb.2.1 htb
    generalize upd (upd (upd H3 sl (.lst ((zs.drop (1 + a')).map V.str))) db (.lst (dots.map V.str))) tb (.dK []) = H4 at D4 q1 q2 q3 y4
    have dl : dots.length = 1 + b' := by rw [dperm.length_eq, List.length_drop]; omega
    have dnd : dots.Nodup := dperm.nodup_iff.mpr (znd.sublist (List.drop_sublist _ _))
    have dnm : ∀ z ∈ dots, Nm z := fun z hz => znm z (List.mem_of_mem_drop (dperm.subset hz))
    have q3' := off_some q3
    -- for end in sorted(names[:many])
    refine ⟨.ref nm, rfl, .int (1 + (a' : Int)), rfl, _, rfl, nm, _, rfl, Evl.sq_of q3'.2.2, fun s2 hs2 => ?_⟩
    rw [eM, cut_take, ← List.map_take]
    refine ⟨s2, zs.take (1 + a'), rfl, Evl.sq_of upd_same, by rw [List.length_take]; omega, fun ends eb eperm esort heb => ?_⟩
    have x5 : Evl.Ex H4 (upd (upd H4 s2 (.lst ((zs.take (1 + a')).map V.str))) eb (.lst (ends.map V.str))) := (Evl.Ex.new hs2).trans (Evl.Ex.new heb)
    have D5 := D4.ext x5
    have neb := (D4.new hs2).ned heb
    have r1 := off_ex (d := d) (g := g) x5 _ _ q1
    have r2 := x5 _ _ q2
    have r3 : off d g (upd (upd H4 s2 (.lst ((zs.take (1 + a')).map V.str))) eb (.lst (ends.map V.str))) eb = some (.lst (ends.map V.str)) := off_of upd_same neb.1 neb.2.1
    have y5 := y4.trans (off_ex (d := d) (g := g) x5)
    have nte : tb ≠ eb := ne_of_none (Evl.Ex.new hs2 _ _ q2) heb
    generalize upd (upd H4 s2 (.lst ((zs.take (1 + a')).map V.str))) eb (.lst (ends.map V.str)) = H5 at D5 r1 r2 r3 y5
    have el : ends.length = 1 + a' := by rw [eperm.length_eq, List.length_take]; omega
    have endd : ends.Nodup := eperm.nodup_iff.mpr (znd.sublist (List.take_sublist _ _))
    have ennm : ∀ z ∈ ends, Nm z := fun z hz => znm z (List.mem_of_mem_take (eperm.subset hz))
    have edis : ∀ z ∈ ends, z ∉ dots := fun z hz hd => by
      have h1 := eperm.subset hz
      have h2 := dperm.subset hd
      have h3 : (zs.take (1 + a') ++ zs.drop (1 + a')).Nodup := by rw [List.take_append_drop]; exact znd
      exact (List.nodup_append.mp h3).2.2 z h1 z h2 rfl
    have ntd : tb ≠ db := (ne_of_none (Evl.Ex.refl _ _ _ upd_same) htb).symm
    refine ⟨eb, rfl, ⟨_, Evl.sq_of (off_some r3).2.2⟩, for_list (K := K) (a := eb) (xs := ends.map V.str)
      (fun i σ H' => ∃ (x8 : Option V) (rows : List (Str × V)), σ = [some (.ref d), some (.int e), some (.int n), some (.int ((1 + a' : Nat) : Int)), some (.int (1 + (b' : Int))), some (.ref nm), some (.ref db), some (.ref tb), x8, none, none] ∧ rows.map (·.1) = ends.take i ∧
        (∀ q ∈ rows, ∃ (p po pn : Addr) (t1 t2 : List (Str × V)), q.2 = .ref p ∧ PairAt (off d g H') dots q.1 p po pn t1 t2 ∧ p ≠ tb ∧ po ≠ tb ∧ pn ≠ tb) ∧
        H' tb = some (.dK (tkv rows)) ∧ off d g H' db = some (.lst (dots.map V.str)) ∧ off d g H' eb = some (.lst (ends.map V.str)) ∧ DrawAt H' d g c ∧ Evl.Ex (off d g H) (off d g H'))
      ⟨none, [], by rw [← eM]; rfl, rfl, (fun q hq => by cases hq), r2, r1, r3, D5, y5⟩ (fun i σ H' _ ⟨_, _, _, _, _, _, _, h, _⟩ => Evl.sq_of (off_some h).2.2) ?_ ?_⟩
    · rintro i y σ H6 hi ⟨x8, rows, rfl, hk, hro, f1, f2, f3, D6, y6⟩
      obtain ⟨z, hz, rfl⟩ := str_at hi
      have hil : i < ends.length := (List.getElem?_eq_some_iff.mp hz).1
      have etake : ends.take (i + 1) = ends.take i ++ [z] := by rw [List.take_add_one, hz]; rfl
      have hzm := List.mem_of_getElem? hz
      have hzn : z ∉ ends.take i := fun hm => by
        have h1 : (ends.take (i + 1)).Nodup := endd.sublist (List.take_sublist _ _)
        rw [etake] at h1
        exact (List.nodup_append.mp h1).2.2 z hm z (List.mem_singleton.mpr rfl) rfl
      refine ⟨.ref d, rfl, .ref db, rfl, .str z, rfl, d, g, c, db, dots, z, rfl, D6, Evl.sq_of f2, dnd, dnm, ennm z hzm, edis z hzm, by omega, by omega, fun p po pn t1 t2 H7 D7 x7 hpa w1 w2 w3 => ?_⟩
      have g1 : H7 tb = some (.dK (tkv rows)) := ex_off d g H7 _ _ (x7 _ _ (off_of f1 ntb.1 ntb.2.1))
      have g2 := x7 _ _ f2
      have g3 := x7 _ _ f3
      have rl : rows.length ≤ 2 := by
        have := congrArg List.length hk
        rw [List.length_map, List.length_take] at this
        omega
      refine ⟨.ref tb, rfl, .str z, rfl, tb, _, rfl, DPut.k (k := Sum.inr z) g1 (by rw [tkv_len]; exact small1000 (by omega)), ?_⟩
      rw [tkv_new (by rw [hk]; exact hzn)]
      have keep : ∀ {a : Addr} {o : HO}, off d g H7 a = some o → a ≠ tb → off d g (upd H7 tb (.dK (tkv (rows ++ [(z, V.ref p)])))) a = some o := fun {a o} h ne => by
        have h' := off_some h
        exact off_of (by rw [upd_ne ne]; exact h'.2.2) h'.1 h'.2.1
      have mv : ∀ {zz : Str} {p po pn : Addr} {t1 t2 : List (Str × V)}, PairAt (off d g H7) dots zz p po pn t1 t2 → p ≠ tb → po ≠ tb → pn ≠ tb → PairAt (off d g (upd H7 tb (.dK (tkv (rows ++ [(z, V.ref p)])))) ) dots zz p po pn t1 t2 := fun {zz p po pn t1 t2} h n1 n2 n3 => by
        have q1 := off_some h.hp
        have q2 := off_some h.ho
        have q3 := off_some h.hn
        exact ⟨off_of (by rw [upd_ne n1]; exact q1.2.2) q1.1 q1.2.1, off_of (by rw [upd_ne n2]; exact q2.2.2) q2.1 q2.2.1, off_of (by rw [upd_ne n3]; exact q3.2.2) q3.1 q3.2.1, h.o1, h.o2⟩
      have mv2 : ∀ {zz : Str} {p' po pn : Addr} {t1 t2 : List (Str × V)}, PairAt (off d g H7) dots zz p' po pn t1 t2 → p' ≠ tb → po ≠ tb → pn ≠ tb → PairAt (off d g (upd H7 tb (.dK (tkv (rows ++ [(z, V.ref p)])))) ) dots zz p' po pn t1 t2 := fun {zz p' po pn t1 t2} h n1 n2 n3 =>
        ⟨keep h.hp n1, keep h.ho n2, keep h.hn n3, h.o1, h.o2⟩
      refine ⟨_, rows ++ [(z, .ref p)], rfl, ?_, ?_, upd_same, keep g2 ntd.symm, keep g3 nte.symm, D7.mut ntb.1 ntb.2.1 ntb.2.2, off_mut (y6.trans x7) (off_free tb0)⟩
      · rw [List.map_append, hk, etake]
        rfl
      · intro q hq
        rcases List.mem_append.mp hq with hq | hq
        · obtain ⟨p', po', pn', t1', t2', e', pa, n1, n2, n3⟩ := hro q hq
          exact ⟨p', po', pn', t1', t2', e', mv2 (pa.ex x7) n1 n2 n3, n1, n2, n3⟩
        · rw [List.mem_singleton.mp hq]
          have n1 : p ≠ tb := (ne_of_none f1 w1).symm
          have n2 : po ≠ tb := (ne_of_none f1 w2).symm
          have n3 : pn ≠ tb := (ne_of_none f1 w3).symm
          exact ⟨p, po, pn, t1, t2, rfl, mv2 hpa n1 n2 n3, n1, n2, n3⟩
    · rintro σ H6 ⟨x8, rows, rfl, hk, hro, f1, f2, f3, D6, y6⟩
      rw [List.length_map, List.take_length] at hk
      have hro' : RowsOk (off d g H6) dots rows := fun q hq => by
        obtain ⟨p', po', pn', t1', t2', e', pa, _⟩ := hro q hq
        exact ⟨p', po', pn', t1', t2', e', pa⟩
      have f1' : off d g H6 tb = some (.dK (tkv rows)) := off_of f1 ntb.1 ntb.2.1
      have ddat : ∀ {Hx : Hp}, ∀ v ∈ dots.map V.str, DataV K Hx v := fun {Hx} v hv => by
        obtain ⟨z, hz, rfl⟩ := List.mem_map.mp hv
        exact nm_data (dnm z hz)
      -- begins
      refine ⟨.ref d, rfl, .ref db, rfl, d, g, c, db, dots.map V.str, rfl, D6, .inl (Evl.sq_of f2), by rw [List.length_map]; omega, ddat, fun ml ys H7 mperm D7 x7 _ hml => ?_⟩
      obtain ⟨ws, rfl, hws⟩ := perm_strs mperm
      refine ⟨.ref d, rfl, .int (1 + (b' : Int)), rfl, 3, _, rfl, _, 1, rfl, rfl, d, g, c, _, rfl, ?_, ?_, D7, fun t H8 t0 t1 D8 x8' => ?_⟩
      · by_cases h : 1 + (b' : Int) < 3
        · rw [if_pos h]; omega
        · rw [if_neg h]; omega
      · by_cases h : 1 + (b' : Int) < 3
        · rw [if_pos h]; omega
        · rw [if_neg h]; omega
      obtain ⟨t', rfl⟩ := Int.eq_ofNat_of_zero_le t0
      have m8 := off_some (x8' _ _ hml)
      refine ⟨_, rfl, ml, _, rfl, Evl.sq_of m8.2.2, fun sl2 hsl2 => ?_⟩
      rw [cut_take, ← List.map_take]
      refine ⟨sl2, ws.take t', rfl, Evl.sq_of upd_same, by rw [List.length_take, hws.length_eq]; omega, fun ss sb sperm ssort hsb => ?_⟩
      have x9 : Evl.Ex H8 (upd (upd H8 sl2 (.lst ((ws.take t').map V.str))) sb (.lst (ss.map V.str))) := (Evl.Ex.new hsl2).trans (Evl.Ex.new hsb)
      have D9 := D8.ext x9
      have nsb := (D8.new hsl2).ned hsb
      have u1 : off d g (upd (upd H8 sl2 (.lst ((ws.take t').map V.str))) sb (.lst (ss.map V.str))) sb = some (.lst (ss.map V.str)) := off_of upd_same nsb.1 nsb.2.1
      have y9 := (x7.trans x8').trans (off_ex (d := d) (g := g) x9)
      generalize upd (upd H8 sl2 (.lst ((ws.take t').map V.str))) sb (.lst (ss.map V.str)) = H9 at D9 u1 y9
      -- stops
      refine ⟨.ref d, rfl, .ref db, rfl, d, g, c, db, dots.map V.str, rfl, D9, .inl (Evl.sq_of (y9 _ _ f2)), by rw [List.length_map]; omega, ddat, fun ml2 ys2 H10 mperm2 D10 x10 _ hml2 => ?_⟩
      obtain ⟨vs2, rfl, hvs⟩ := perm_strs mperm2
      refine ⟨.ref d, rfl, by show 5 ≤ sizeLine; decide, fun l5 hl5 => ?_⟩
      have n5 := D10.ned hl5
      refine ⟨d, g, c, l5, _, rfl, D10.new hl5, Evl.sq_of (off_of upd_same n5.1 n5.2.1), by decide, by decide, fun j v H11 hv D11 x11 => ?_⟩
      obtain ⟨t5, rfl, ht5⟩ : ∃ t5 : Nat, v = .int (t5 : Int) ∧ t5 ≤ 2 := by
        match j, hv with
        | 0, hv => exact ⟨0, (Option.some.inj hv).symm, by decide⟩
        | 1, hv => exact ⟨0, (Option.some.inj hv).symm, by decide⟩
        | 2, hv => exact ⟨1, (Option.some.inj hv).symm, by decide⟩
        | 3, hv => exact ⟨1, (Option.some.inj hv).symm, by decide⟩
        | 4, hv => exact ⟨2, (Option.some.inj hv).symm, by decide⟩
        | n + 5, hv => exact absurd hv (by simp)
      have x12 := (off_ex (d := d) (g := g) (Evl.Ex.new (o := .lst [.int 0, .int 0, .int 1, .int 1, .int 2]) hl5)).trans x11
      have m11 := off_some (x12 _ _ hml2)
      refine ⟨_, rfl, ml2, _, rfl, Evl.sq_of m11.2.2, fun pb hpb => ?_⟩
      rw [cut_take, ← List.map_take]
      have npb := D11.ned hpb
      have x13 := off_ex (d := d) (g := g) (Evl.Ex.new (o := .lst ((vs2.take t5).map V.str)) hpb)
      have D13 := D11.new (o := .lst ((vs2.take t5).map V.str)) hpb
      have u2 : off d g (upd H11 pb (.lst ((vs2.take t5).map V.str))) pb = some (.lst ((vs2.take t5).map V.str)) := off_of upd_same npb.1 npb.2.1
      have z13 := (x10.trans x12).trans x13
      generalize upd H11 pb (.lst ((vs2.take t5).map V.str)) = H13 at D13 u2 x13 z13
      -- the model
      intro m hm
      have nm' := D13.ned hm
      refine ⟨.ref tb, rfl, .ref db, rfl, .ref sb, rfl, .ref pb, rfl, upd_same, mkv tb db sb pb, rfl, by show 4 ≤ 15; decide, ?_⟩
      rw [upd_upd, show mergeK [] (mkv tb db sb pb) = mkv tb db sb pb by kernel_rfl]
      have x14 := off_ex (d := d) (g := g) (Evl.Ex.new (o := .dK (mkv tb db sb pb)) hm)
      have z14 := z13.trans x14
      have z15 := y9.trans z14
      refine k m tb db sb pb ends dots ss (vs2.take t5) rows _ (D13.new hm) (y6.trans z15) ⟨off_of upd_same nm'.1 nm'.2.1, z15 _ _ f1', z15 _ _ f2, z14 _ _ u1, x14 _ _ u2, hk, hro'.ex z15, ?_⟩
      have wnd : ws.Nodup := hws.nodup_iff.mpr dnd
      have vnd : vs2.Nodup := hvs.nodup_iff.mpr dnd
      exact { e0 := by omega, e2 := by omega, en := endd, es := esort, em := ennm, d0 := by omega, d6 := by omega, dn := dnd, ds := dsort, dm := dnm, ed := edis,
              sn := sperm.nodup_iff.mpr (wnd.sublist (List.take_sublist _ _)), sss := ssort, sd := fun z hz => hws.subset (List.mem_of_mem_take (sperm.subset hz)),
              pn := vnd.sublist (List.take_sublist _ _), p2 := by rw [List.length_take]; omega, pd := fun z hz => hvs.subset (List.mem_of_mem_take hz) }
end
end Rw
end T_B9

section T_X0
set_option Elab.async false
set_option linter.all false
set_option maxRecDepth 100000
set_option maxHeartbeats 4000000
namespace Rw
open PySem L2 PyProof.Rows
theorem rest_less {H Hb H' : Hp} (x : Evl.Ex H Hb) : Evl.Ex (rest Hb H') (rest H H') := fun a o h => by
  have h' := rest_ex Hb H' a o h
  refine rest_of ?_ h'
  cases q : H a with
  | none => rfl
  | some u =>
    have := x _ _ q
    unfold rest at h
    rw [this] at h
    cases h
theorem dget_of {H : Hp} {a : Addr} {kvs : List (Key × V)} {k : Key} {v : V} (h : H a = some (.dK kvs)) (hv : valV kvs k = some v) : DGet H a (kV k) (some v) := by
  have q := DGet.k (k := k) h
  rw [hv] at q
  exact q
section
variable {P : Program} {w : World} {K : PySem.W.Frag} {mg : Str → Option Value} {base : Heap}
/-! ### the law's net of a model -/
def spNet (C : Addr) : Sp := fun vs H Q _ => ∃ (m tb db sb pb : Addr) (ends dots ss ps : List Str) (rows : List (Str × V)) (o n : Str → List (Str × V)), vs = [.ref m] ∧ ModelAt H m tb db sb pb ends dots ss ps rows ∧ RowsAt H ends dots rows o n ∧
  ∀ x H', Evl.Ex H H' → H x = none → NetAt C (rest H H') x ends dots ss ps o n → Q (.ref x) H'
theorem sc_net : FnScope ["model"] ["model"] (defScope s_net) := ⟨rfl, rfl, rfl, by decide +kernel, rfl, by decide +kernel, by decide +kernel⟩
theorem ok_net {f C fi : Addr} {fd fdi : FuncData} (F : Fun K "_law_net" "_law_net" s_net f fd) (M : Mk K C fi) (I_ : FnOk P w K mg base CX0 4 fi fdi ["self", "tables", "sources", "posts"] (spInit C)) (bi : Binds K fdi ["self", "tables", "sources", "posts"] []) (mNet : mg "Net" = some (.ref C)) :
    FnOk P w K mg base CX0 6 f fd ["model"] (spNet C) := by
  refine F.ok sc_net (fun vs H Q E h => ?_) (fun cdv A outer s H vs Q E hr h => ?_)
  · obtain ⟨m, tb, db, sb, pb, ends, dots, ss, ps, rows, o, n, rfl, _⟩ := h
    rfl
  · obtain ⟨m, tb, db, sb, pb, ends, dots, ss, ps, rows, o, n, rfl, MA, ro, k⟩ := h
    have hu := hu_of hr
    refine ⟨_, pss_one (ps_ret (pe_make M I_ hr rfl mNet bi .nil pass0 (pa_cons (pe_dget hu (pv 0) pe_str (fun _ _ => rfl)) (pa_cons (pe_dget hu (pv 0) pe_str (fun _ _ => rfl)) (pa_cons (pe_dget hu (pv 0) pe_str (fun _ _ => rfl)) pa_nil))))), ?_⟩
    refine ⟨.ref m, rfl, m, _, rfl, dget_of MA.hm (mkv_tables _ _ _ _), .ref m, rfl, m, _, rfl, dget_of MA.hm (mkv_sources _ _ _ _), .ref m, rfl, m, _, rfl, dget_of MA.hm (mkv_posts _ _ _ _), fun x dx hx hdx ne => ?_⟩
    have nb : (upd H dx (.own x)) x = none := by rw [upd_ne ne.symm]; exact hx
    have xb : Evl.Ex H (upd H dx (.own x)) := Evl.Ex.new hdx
    refine ⟨upd H dx (.own x), x, dx, tb, sb, pb, ends, dots, ss, ps, rows, o, n, rfl, nb, Evl.Ex.new nb, upd_same, xb _ _ MA.ht, .of_eq MA.rk, MA.ro.ex xb, ro.ex xb, ⟨ss, .inl (xb _ _ MA.hs), List.Perm.refl _⟩, .inl (xb _ _ MA.hp), MA.ok, fun H' x' N => ⟨rfl, ?_⟩⟩
    exact k x H' (xb.trans x') hx (N _ (rest_less xb) fun z => by rw [xb _ _ MA.hp] at z; cases z)
end
end Rw
end T_X0

section T_X1
set_option Elab.async false
set_option linter.all false
set_option maxRecDepth 100000
set_option maxHeartbeats 4000000
namespace Rw
open PySem L2 PyProof.Rows
theorem model_ne {H : Hp} {m tb db sb pb : Addr} {ends dots ss ps : List Str} {rows : List (Str × V)} (MA : ModelAt H m tb db sb pb ends dots ss ps rows) : m ≠ tb := fun e => by
  subst e
  have h1 := MA.hm.symm.trans MA.ht
  have h2 : mkv m db sb pb = tkv rows := HO.dK.inj (Option.some.inj h1)
  cases hr : rows with
  | nil => rw [hr] at h2; cases h2
  | cons q r =>
    rw [hr] at h2
    have h3 : ((Sum.inr "tables" : Key), V.ref m) = (Sum.inr q.1, q.2) := (List.cons.inj h2).1
    obtain ⟨p, _, _, _, _, e2, pa⟩ := MA.ro q (by rw [hr]; exact List.mem_cons_self)
    have h4 : V.ref m = q.2 := congrArg Prod.snd h3
    rw [e2] at h4
    have h5 : m = p := V.ref.inj h4
    subst h5
    have := pa.hp.symm.trans MA.ht
    cases this
section
variable {P : Program} {w : World} {K : PySem.W.Frag} {mg : Str → Option Value} {base : Heap}
/-! ### the law's list of nodes that change -/
def spMoves : Sp := fun vs H Q _ => ∃ (m tb db sb pb : Addr) (ends dots ss ps : List Str) (rows : List (Str × V)) (o n : Str → List (Str × V)), vs = [.ref m] ∧ ModelAt H m tb db sb pb ends dots ss ps rows ∧ RowsAt H ends dots rows o n ∧
  ∀ p H', Evl.Ex H H' → H p = none → H' p = some (.lst ((moving ends dots o n).map V.str)) → Q (.ref p) H'
abbrev nMoves : List Str := ["model", "found", "dot", "old", "new"]
theorem sc_moves : FnScope nMoves ["model"] (defScope s_moving_dots) := ⟨rfl, rfl, rfl, by decide +kernel, rfl, by decide +kernel, by decide +kernel⟩
theorem ok_moves {f : Addr} {fd : FuncData} (F : Fun K "_law_moving_dots" "_law_moving_dots" s_moving_dots f fd) : FnOk P w K mg base CX0 1 f fd ["model"] spMoves := by
  refine F.ok sc_moves (fun vs H Q E h => ?_) (fun cdv A outer s H vs Q E hr h => ?_)
  · obtain ⟨m, tb, db, sb, pb, ends, dots, ss, ps, rows, o, n, rfl, _⟩ := h
    rfl
  · obtain ⟨m, tb, db, sb, pb, ends, dots, ss, ps, rows, o, n, rfl, MA, ro, k⟩ := h
    have nd := sc_moves.nd
    have hu := hu_of hr
    refine ⟨_, pss_cons (ps_set (i := 1) nd rfl (.inl rfl) (pe_lst pa_nil))
      (pss_cons (ps_for PassesOwn.never rfl (pi_list (pe_dget hu (pv 0) pe_str (fun _ _ => rfl))) (pg_name (i := 2) nd rfl (.inr rfl))
        (pss_one (ps_if (pt_cmpR (op_neD hr.units) (pe_lock (pe_lc (own := [("old", 3), ("new", 4)]) (g := gTup K 2 (gCons (gName 3) (gCons (gName 4) gNil))) rfl nd (pi_values (pe_dget hu (pv 0) pe_str (fun _ _ => rfl))) (blkOk_by (own := [("old", 3), ("new", 4)]) (N := nMoves) (sc := defScope s_moving_dots) (by decide +kernel))
            (fun _ _ _ _ _ => pg_tup rfl (pgs_cons (pg_name (i := 3) nd rfl (Or.inl rfl)) (pgs_cons (pg_name (i := 4) nd rfl (Or.inl rfl)) pgs_nil)))
            (fun _ _ _ _ _ => pts_one (pt_cmpR op_ne (pe_dget hu (pv 3) (pv 2) (fun _ _ => rfl)) (pe_dget hu (pv 4) (pv 2) (fun _ _ => rfl)) (nomark _))) (fun _ _ _ _ _ => pe_int))) (pe_lst pa_nil) (nomark _))
          (pss_one (ps_expr (pe_bm PySem.F.plainAttrs_list PySem.F.slot_list_append PySem.F.type_list_append mt_append (pv 1) (pa_cons (pv 2) pa_nil)))) pss_nil)))
      (pss_one (ps_ret (pv 1)))), ?_⟩
    have ok := MA.ok
    have e2 := ok.e2
    have d6 := ok.d6
    have hk := MA.rk
    have rl : rows.length = ends.length := by rw [← hk, List.length_map]
    have rne : rows ≠ [] := fun z => by
      have := ok.e0
      rw [z] at rl
      simp at rl
      omega
    have nmt := model_ne MA
    refine ⟨Nat.zero_le _, fun f hf => ?_⟩
    have x0 : Evl.Ex H (upd H f (.lst [])) := Evl.Ex.new hf
    have f0 : (upd H f (.lst [])) f = some (.lst []) := upd_same
    generalize upd H f (.lst []) = H0 at x0 f0
    refine ⟨.ref m, rfl, m, _, rfl, dget_of (x0 _ _ MA.hm) (mkv_dots _ _ _ _), db, rfl, ⟨_, Evl.sq_of (x0 _ _ MA.hd)⟩, for_list (K := K) (a := db) (xs := dots.map V.str)
      (fun i σ H' => ∃ (x2 : Option V), σ = [some (.ref m), some (.ref f), x2, none, none] ∧ i ≤ dots.length ∧ Evl.Ex H H' ∧ H' f = some (.lst ((moving ends (dots.take i) o n).map V.str)))
      ⟨none, rfl, Nat.zero_le _, x0, f0⟩ (fun i σ H' _ ⟨_, _, _, h, _⟩ => Evl.sq_of (h _ _ MA.hd)) ?_ ?_⟩
    · rintro i y σ H3 hi ⟨x2, rfl, _, x3, f3⟩
      obtain ⟨z, hz, rfl⟩ := str_at hi
      have hil : i < dots.length := (List.getElem?_eq_some_iff.mp hz).1
      have zd := List.mem_of_getElem? hz
      have et : moving ends (dots.take (i + 1)) o n = moving ends (dots.take i) o n ++ if (diffB ends o n z).any id then [z] else [] := by
        unfold moving
        rw [List.take_add_one, hz, List.filter_append]
        show _ ++ List.filter _ [z] = _
        rw [List.filter_cons]
        rfl
      have dl : (moving ends (dots.take i) o n).length ≤ 100 := Nat.le_trans (List.length_filter_le _ _) (by rw [List.length_take]; omega)
      refine ⟨tb, .dK (tkv rows), x3 _ _ MA.ht, trivial, fun od => ?_⟩
      have locked : (upd H3 tb (.frz od (.dK (tkv rows)))) tb = some (.frz od (.dK (tkv rows))) := upd_same
      have up : ∀ {a : Addr} {u : HO}, H a = some u → a ≠ tb → (upd H3 tb (.frz od (.dK (tkv rows)))) a = some u := fun {a u} h ne => by rw [upd_ne ne]; exact x3 _ _ h
      have nft : f ≠ tb := (ne_of_none MA.ht hf).symm
      have fL : (upd H3 tb (.frz od (.dK (tkv rows)))) f = some (.lst ((moving ends (dots.take i) o n).map V.str)) := by rw [upd_ne nft]; exact f3
      have back : ∀ {H4 : Hp}, Evl.Ex (upd H3 tb (.frz od (.dK (tkv rows)))) H4 → Evl.Ex H3 (upd H4 tb (.dK (tkv rows))) := fun {H4} e a u h => by
        by_cases q : a = tb
        · subst q
          rw [upd_same, ← x3 _ _ MA.ht, h]
        · rw [upd_ne q]
          exact e _ _ (by rw [upd_ne q]; exact h)
      generalize upd H3 tb (.frz od (.dK (tkv rows))) = HL at locked up fL back
      refine ⟨.ref m, rfl, m, _, rfl, dget_of (up MA.hm nmt) (mkv_tables _ _ _ _), tb, od, _, rfl, locked, fun D hD => lc_it walk_values
        (fun j H' => j ≤ ends.length ∧ Evl.Ex HL H' ∧ ∃ ns : List Int, H' D = some (.lst (ns.map V.int)) ∧ ns.length ≤ j ∧ ns.isEmpty = !(diffB (ends.take j) o n z).any id) ⟨Nat.zero_le _, Evl.Ex.new hD, [], upd_same, Nat.le_refl _, rfl⟩ (fun j H' _ h => h.2.1 _ _ locked) ?_ ?_⟩
      · rintro j x H4 H4' hj ⟨_, x4, ns, d4, nl, ne4⟩ ⟨rfl, kk, hkk⟩
        rw [tkv_len, rl] at hj
        have gj : ends[j]? = some ends[j] := List.getElem?_eq_getElem hj
        obtain ⟨p, po, pn, hv, pa⟩ := ro ends[j] (List.getElem_mem hj)
        have ex : x = .ref p := by
          have h1 := tkv_at hk ok.en gj hv
          rw [List.getElem?_map, hkk] at h1
          exact Option.some.inj h1
        subst ex
        have n1 : p ≠ tb := ne_of pa.hp MA.ht (by intro z; cases z)
        have n2 : po ≠ tb := tab_ne MA.ht MA.ro rne pa.ho pa.o1
        have n3 : pn ≠ tb := tab_ne MA.ht MA.ro rne pa.hn pa.o2
        have c1 := look_ok pa.o1 zd
        have c2 := look_ok pa.o2 zd
        have g1 : DGet H4' po (.str z) (some (look (o ends[j]) z)) := dget_of (k := Sum.inr z) (x4 _ _ (up pa.ho n2)) c1.2
        have g2 : DGet H4' pn (.str z) (some (look (n ends[j]) z)) := dget_of (k := Sum.inr z) (x4 _ _ (up pa.hn n3)) c2.2
        have et2 : diffB (ends.take (j + 1)) o n z = diffB (ends.take j) o n z ++ [!decide (look (o ends[j]) z = look (n ends[j]) z)] := by
          rw [List.take_add_one, gj]
          exact diffB_snoc _ _ _ _ _
        refine ⟨p, _, rfl, Evl.st_of (x4 _ _ (up pa.hp n1)), rfl, _, _, rfl, _, [], rfl, rfl, rfl, ?_⟩
        refine ⟨.ref po, rfl, .str z, rfl, po, _, rfl, g1, .ref pn, rfl, .str z, rfl, pn, _, rfl, g2, scal_place c1.1 c2.1, _, rfl, ?_⟩
        by_cases q : look (o ends[j]) z = look (n ends[j]) z
        · rw [decide_eq_true q] at et2 ⊢
          refine iteF ⟨hj, x4, ns, d4, by omega, ?_⟩
          rw [et2, ne4, List.any_append]
          simp
        · rw [decide_eq_false q] at et2 ⊢
          refine iteT ⟨_, d4, by rw [List.length_map]; exact small1000 (by omega), hj, x4.mut hD, ns ++ [1], ?_, by simp; omega, ?_⟩
          · rw [upd_same, List.map_append]
            rfl
          · rw [et2, List.any_append]
            simp
      · rintro H4 ⟨_, x4, ns, d4, nl, ne4⟩
        rw [tkv_len, rl, List.take_length] at ne4
        rw [tkv_len, rl] at nl
        refine ⟨x4 _ _ locked, ?_⟩
        have nDt : D ≠ tb := (ne_of_none locked hD).symm
        have x5 := back x4
        have d5 : (upd H4 tb (.dK (tkv rows))) D = some (.lst (ns.map V.int)) := by rw [upd_ne nDt]; exact d4
        generalize upd H4 tb (.dK (tkv rows)) = H5 at x5 d5
        refine ⟨Nat.zero_le _, fun p hp => ?_⟩
        have x6 : Evl.Ex H5 (upd H5 p (.lst [])) := Evl.Ex.new hp
        obtain ⟨dd, g1, g2, g3⟩ := data_list (K := K) (Evl.sq_of (x6 _ _ d5)) fun v hv => by
          obtain ⟨i, _, rfl⟩ := List.mem_map.mp hv
          exact ⟨.int i, .int i, rfl, Nat.zero_le _⟩
        refine ⟨dd, .list [], g1, .lst (Evl.sq_of upd_same) .nil, g2, by rfl, _, rfl, ?_⟩
        rw [g3, show (ns.map V.int).isEmpty = ns.isEmpty by cases ns <;> rfl, ne4, Bool.not_not]
        have x7 := x5.trans x6
        have f7 := x7 _ _ f3
        generalize upd H5 p (.lst []) = H7 at x7 f7
        by_cases q : (diffB ends o n z).any id = true
        · rw [q] at et ⊢
          refine iteT ?_
          refine ⟨.ref f, rfl, .inl ⟨rfl, _, Evl.sq_of f7⟩, .str z, rfl, f, _, _, rfl, rfl, f7, by rw [List.length_map]; exact small1000 (by omega), ?_⟩
          refine ⟨_, rfl, hil, (x3.trans x7).mut hf, ?_⟩
          rw [upd_same, et, List.map_append]
          rfl
        · have q' : (diffB ends o n z).any id = false := by cases h : (diffB ends o n z).any id with | true => exact absurd h q | false => rfl
          rw [q'] at et ⊢
          refine iteF ?_
          refine ⟨_, rfl, hil, x3.trans x7, ?_⟩
          rw [f7, et]
          simp
    · rintro σ H3 ⟨x2, rfl, _, x3, f3⟩
      rw [List.length_map, List.take_length] at f3
      exact ⟨.ref f, rfl, k f H3 x3 hf f3⟩
end
end Rw
end T_X1

section T_TK
set_option Elab.async false
set_option linter.all false
namespace Rw
open PySem L2 PyProof.Rows
theorem tkv_val {tb : List (Str × V)} {z : Str} {v : V} (nd : (tb.map (·.1)).Nodup) (h : (z, v) ∈ tb) : valV (tkv tb) (Sum.inr z) = some v := by
  obtain ⟨u, hu, hm⟩ := tkv_some (tb := tb) (z := z) (List.mem_map_of_mem (f := (·.1)) h)
  obtain ⟨i, hi, ei⟩ := List.getElem_of_mem h
  obtain ⟨j, hj, ej⟩ := List.getElem_of_mem hm
  have a : (tb.map (·.1))[i]? = some z := by rw [List.getElem?_map, List.getElem?_eq_getElem hi, ei]; rfl
  have b : (tb.map (·.1))[j]? = some z := by rw [List.getElem?_map, List.getElem?_eq_getElem hj, ej]; rfl
  have ij : i = j := (List.getElem?_inj (by rw [List.length_map]; exact hi) nd).mp (a.trans b.symm)
  subst ij
  have q := ei.symm.trans ej
  rw [hu, (Prod.mk.inj q).2]
theorem tkv_keys (tb : List (Str × V)) : (tkv tb).map (·.1) = (tb.map (·.1)).map Sum.inr := by unfold tkv; rw [List.map_map, List.map_map]; rfl
end Rw
end T_TK

section T_TV
set_option Elab.async false
set_option linter.all false
namespace Rw
open PySem PySem.Spec L2 PyProof.Rows
def setV (t : List (Str × V)) (z : Str) (v : V) : List (Str × V) := t.map fun q => if q.1 = z then (q.1, v) else q
theorem setV_keys (t : List (Str × V)) (z : Str) (v : V) : (setV t z v).map (·.1) = t.map (·.1) := by
  unfold setV
  rw [List.map_map]
  refine List.map_congr_left fun q _ => ?_
  show (if q.1 = z then (q.1, v) else q).1 = q.1
  split <;> rfl
theorem setV_put {t : List (Str × V)} {z : Str} (v : V) (h : z ∈ t.map (·.1)) : putK (tkv t) (Sum.inr z) v = tkv (setV t z v) := by
  obtain ⟨u, hu, _⟩ := tkv_some h
  have a : ((tkv t).any fun kv => decide (kv.1 = Sum.inr z)) = true := by rw [valV_any, hu]; rfl
  unfold putK
  rw [if_pos a]
  unfold tkv setV
  rw [List.map_map, List.map_map]
  refine List.map_congr_left fun q _ => ?_
  show (if (Sum.inr q.1 : Key) = Sum.inr z then ((Sum.inr q.1 : Key), v) else (Sum.inr q.1, q.2)) = (Sum.inr (if q.1 = z then (q.1, v) else q).1, (if q.1 = z then (q.1, v) else q).2)
  by_cases e : q.1 = z
  · rw [if_pos e, if_pos (by rw [e])]
  · rw [if_neg e, if_neg (fun w => e (Sum.inr.inj w))]
theorem setV_get {t : List (Str × V)} {z y : Str} {v : V} (h : z ∈ t.map (·.1)) : valV (tkv (setV t z v)) (Sum.inr y) = if y = z then some v else valV (tkv t) (Sum.inr y) := by
  rw [← setV_put v h, valV_put]
  by_cases e : y = z
  · rw [if_pos e, if_pos (by rw [e])]
  · rw [if_neg e, if_neg (fun w => e (Sum.inr.inj w))]
theorem setV_ok {dots : List Str} {e z : Str} {t : List (Str × V)} {v : V} (h : TabOk dots e t) (hv : PlaceOk dots e z v) : TabOk dots e (setV t z v) := by
  refine ⟨by rw [setV_keys]; exact h.ks, fun q hq => ?_⟩
  unfold setV at hq
  obtain ⟨u, hu, rfl⟩ := List.mem_map.mp hq
  by_cases e' : u.1 = z
  · rw [if_pos e', e']
    exact hv
  · rw [if_neg e']
    exact h.ps u hu
theorem sort_ex (l : List Str) : ∃ ys : List Str, ys.Perm l ∧ sortedS ys = true := by
  have tr : ∀ a b c : Str, (!decide (b.cps.toList < a.cps.toList)) = true → (!decide (c.cps.toList < b.cps.toList)) = true → (!decide (c.cps.toList < a.cps.toList)) = true := fun a b c h1 h2 => by
    simp only [Bool.not_eq_true', decide_eq_false_iff_not] at h1 h2 ⊢
    exact List.not_lt.mpr (List.le_trans (List.not_lt.mp h1) (List.not_lt.mp h2))
  have tt : ∀ a b : Str, ((!decide (b.cps.toList < a.cps.toList)) || (!decide (a.cps.toList < b.cps.toList))) = true := fun a b => by
    by_cases h : b.cps.toList < a.cps.toList
    · rw [decide_eq_true h, decide_eq_false (List.lt_asymm h)]
      rfl
    · rw [decide_eq_false h]
      rfl
  refine ⟨l.mergeSort fun a b => !decide (b.cps.toList < a.cps.toList), List.mergeSort_perm _ _, sortedS_of_pairwise _ ?_⟩
  refine (List.pairwise_mergeSort tr tt l).imp fun {a b} h => ?_
  rw [ltCps_eq]
  simpa using h
/-- a new object behind the draws -/
theorem off_new {d g c : Addr} {H H' : Hp} {p : Addr} {o : HO} (D : DrawAt H' d g c) (x : Evl.Ex (off d g H) (off d g H')) (h : H' p = none) : DrawAt (upd H' p o) d g c ∧ Evl.Ex (off d g H) (off d g (upd H' p o)) ∧ off d g (upd H' p o) p = some o ∧ off d g H p = none ∧ Evl.Ex (off d g H') (off d g (upd H' p o)) :=
  ⟨D.new h, x.trans (off_ex (Evl.Ex.new h)), off_of upd_same (D.ned h).1 (D.ned h).2.1, ex_none x (off_free h), off_ex (Evl.Ex.new h)⟩
/-- an object of one's own, changed -/
theorem off_put {d g c : Addr} {H H' : Hp} {p : Addr} {o u : HO} (D : DrawAt H' d g c) (x : Evl.Ex (off d g H) (off d g H')) (h : off d g H p = none) (hp : off d g H' p = some u) (hc : p ≠ c) : DrawAt (upd H' p o) d g c ∧ Evl.Ex (off d g H) (off d g (upd H' p o)) ∧ off d g (upd H' p o) p = some o := by
  have z := off_some hp
  refine ⟨D.mut z.1 z.2.1 hc, fun a v ha => ?_, off_of upd_same z.1 z.2.1⟩
  have y := off_some (x a v ha)
  refine off_of ?_ y.1 y.2.1
  rw [upd_ne (fun e => by rw [e, h] at ha; cases ha)]
  exact y.2.2
theorem off_up {d g : Addr} {H' : Hp} {p a : Addr} {o u : HO} (h : off d g H' a = some u) (ne : a ≠ p) : off d g (upd H' p o) a = some u := by
  have z := off_some h
  exact off_of (by rw [upd_ne ne]; exact z.2.2) z.1 z.2.1
theorem draw_c {d g c : Addr} {H : Hp} {p : Addr} {o : HO} (D : DrawAt H d g c) (h : off d g H p = some o) (no : ∀ xs, o ≠ .lst xs) : p ≠ c := fun e => by
  obtain ⟨cs, hc⟩ := D.cl
  rw [e] at h
  have := (off_some h).2.2
  rw [hc] at this
  cases this
  exact no _ rfl
end Rw
end T_TV

section T_N4
set_option Elab.async false
set_option linter.all false
set_option maxRecDepth 100000
set_option maxHeartbeats 4000000
namespace Rw
open PySem L2 PyProof.Rows
/-- a lot of these names stands at a -/
structure LotAt (H : Hp) (a : Addr) (zs ys : List Str) : Prop where
  ha : H a = some (.tup (zs.map V.str))
  sub : ∀ z ∈ zs, z ∈ ys
  nd : zs.Nodup
  so : sortedS zs = true
  nm : ∀ z ∈ zs, Nm z
  few : zs.length ≤ 60
theorem LotAt.ex {H H' : Hp} {a : Addr} {zs ys : List Str} (h : LotAt H a zs ys) (e : Evl.Ex H H') : LotAt H' a zs ys := ⟨e _ _ h.ha, h.sub, h.nd, h.so, h.nm, h.few⟩
theorem shaped_tup {ds : List PyData} (h1 : PyData.canLayAll0 ds = true) (h2 : PyData.depthAll ds ≤ 60) : SeqAt.shaped (.tuple ds) = true := by
  unfold SeqAt.shaped
  rw [show PyData.canLay0 (.tuple ds) = PyData.canLayAll0 ds from rfl, h1, show PyData.depth (.tuple ds) = PyData.depthAll ds + 1 from rfl]
  exact decide_eq_true (show PyData.depthAll ds + 1 ≤ 64 by omega)
theorem any_falses (n : Nat) : (List.replicate n false).any id = false := by
  induction n with
  | zero => rfl
  | succ n ih => rw [List.replicate_succ, List.any_cons, ih]; rfl
end Rw
end T_N4

section T_W0
set_option Elab.async false
set_option linter.all false
set_option maxRecDepth 100000
set_option maxHeartbeats 4000000
namespace Rw
open PySem L2 PyProof.Rows
/-! ### the places that a table leads to -/
/-- zs behind, v the place: on, up to one that is no key or came before -/
def track (tb : List (Str × V)) : Nat → List Str → V → List V
  | 0, zs, v => zs.map V.str ++ [v]
  | k + 1, zs, v => match v with
    | .str z => match valV (tkv tb) (Sum.inr z) with
      | some u => if z ∈ zs then zs.map V.str ++ [v] else track tb k (zs ++ [z]) u
      | none => zs.map V.str ++ [v]
    | _ => zs.map V.str ++ [v]
def walkOf (tb : List (Str × V)) (n : Nat) (z : Str) : List V := track tb n [] (.str z)
theorem track_non {tb : List (Str × V)} {k : Nat} {zs : List Str} : track tb k zs .non = zs.map V.str ++ [.non] := by cases k <;> rfl
theorem track_out {tb : List (Str × V)} {k : Nat} {zs : List Str} {z : Str} (h : valV (tkv tb) (Sum.inr z) = none) : track tb k zs (.str z) = zs.map V.str ++ [.str z] := by
  cases k with
  | zero => rfl
  | succ k => show (match valV (tkv tb) (Sum.inr z) with | some u => _ | none => _) = _; rw [h]
theorem track_ring {tb : List (Str × V)} {k : Nat} {zs : List Str} {z : Str} (h : z ∈ zs) : track tb k zs (.str z) = zs.map V.str ++ [.str z] := by
  cases k with
  | zero => rfl
  | succ k =>
    show (match valV (tkv tb) (Sum.inr z) with | some u => if z ∈ zs then zs.map V.str ++ [V.str z] else track tb k (zs ++ [z]) u | none => zs.map V.str ++ [V.str z]) = _
    cases valV (tkv tb) (Sum.inr z) with
    | none => rfl
    | some u => show (if z ∈ zs then _ else _) = _; rw [if_pos h]
theorem track_on {tb : List (Str × V)} {k : Nat} {zs : List Str} {z : Str} {u : V} (h : valV (tkv tb) (Sum.inr z) = some u) (hz : z ∉ zs) : track tb (k + 1) zs (.str z) = track tb k (zs ++ [z]) u := by
  show (match valV (tkv tb) (Sum.inr z) with | some u => if z ∈ zs then zs.map V.str ++ [V.str z] else track tb k (zs ++ [z]) u | none => zs.map V.str ++ [V.str z]) = _
  rw [h]
  show (if z ∈ zs then _ else _) = _
  rw [if_neg hz]
theorem iteF {A B : Prop} (h : B) : if false = true then A else B := by
  rw [if_neg (by decide)]
  exact h
/-- a place that can stand in a walk -/
def Spot (v : V) : Prop := v = .non ∨ ∃ y : Str, v = .str y ∧ Nm y
theorem place_spot {zs : List Str} {e z : Str} {v : V} (h : PlaceOk zs e z v) (hz : ∀ y ∈ zs, Nm y) (he : Nm e) : Spot v := by
  rcases h with rfl | rfl | ⟨y, hy, _, rfl⟩
  · exact .inl rfl
  · exact .inr ⟨e, rfl, he⟩
  · exact .inr ⟨y, rfl, hz y hy⟩
theorem track_spots {tb : List (Str × V)} (h : ∀ q ∈ tb, Spot q.2) : ∀ (k : Nat) (zs : List Str) (v : V), (∀ z ∈ zs, Nm z) → Spot v → ∀ u ∈ track tb k zs v, Spot u := by
  intro k
  have base : ∀ (zs : List Str) (v : V), (∀ z ∈ zs, Nm z) → Spot v → ∀ u ∈ zs.map V.str ++ [v], Spot u := fun zs v hz hv u hu => by
    rcases List.mem_append.mp hu with hu | hu
    · obtain ⟨z, hz', rfl⟩ := List.mem_map.mp hu
      exact .inr ⟨z, rfl, hz z hz'⟩
    · rw [List.mem_singleton.mp hu]
      exact hv
  induction k with
  | zero => exact base
  | succ k ih =>
    intro zs v hz hv u hu
    rcases hv with rfl | ⟨y, rfl, hy⟩
    · rw [track_non] at hu
      exact base zs .non hz (.inl rfl) u hu
    · cases q : valV (tkv tb) (Sum.inr y) with
      | none =>
        rw [track_out q] at hu
        exact base zs _ hz (.inr ⟨y, rfl, hy⟩) u hu
      | some w =>
        by_cases m : y ∈ zs
        · rw [track_ring m] at hu
          exact base zs _ hz (.inr ⟨y, rfl, hy⟩) u hu
        · rw [track_on q m] at hu
          refine ih (zs ++ [y]) w (fun z hz' => ?_) ?_ u hu
          · rcases List.mem_append.mp hz' with hz' | hz'
            · exact hz z hz'
            · rw [List.mem_singleton.mp hz']; exact hy
          · have hk : y ∈ tb.map (·.1) := by
              by_cases hm : y ∈ tb.map (·.1)
              · exact hm
              · rw [tkv_none hm] at q; cases q
            obtain ⟨w', h1, h2⟩ := tkv_some hk
            rw [q] at h1
            rw [Option.some.inj h1]
            exact h _ h2
theorem track_len {tb : List (Str × V)} : ∀ (k : Nat) (zs : List Str) (v : V), (track tb k zs v).length ≤ zs.length + k + 1 := by
  intro k
  induction k with
  | zero => intro zs v; show (zs.map V.str ++ [v]).length ≤ _; simp
  | succ k ih =>
    intro zs v
    have b : ∀ v : V, (zs.map V.str ++ [v]).length ≤ zs.length + (k + 1) + 1 := fun v => by simp
    cases v with
    | str y =>
      cases q : valV (tkv tb) (Sum.inr y) with
      | none => rw [track_out q]; exact b _
      | some w =>
        by_cases m : y ∈ zs
        · rw [track_ring m]; exact b _
        · rw [track_on q m]
          have := ih (zs ++ [y]) w
          rw [List.length_append, List.length_singleton] at this
          omega
    | _ => exact b _
/-- a table that leads from these names to places -/
structure LeadOk (dots : List Str) (tb : List (Str × V)) : Prop where
  ks : tb.map (·.1) = dots
  sp : ∀ q ∈ tb, Spot q.2
  nm : ∀ z ∈ dots, Nm z
theorem LeadOk.get {dots : List Str} {tb : List (Str × V)} {z : Str} (h : LeadOk dots tb) (hz : z ∈ dots) : ∃ v, valV (tkv tb) (Sum.inr z) = some v ∧ Spot v := by
  obtain ⟨v, h1, h2⟩ := tkv_some (tb := tb) (z := z) (by rw [h.ks]; exact hz)
  exact ⟨v, h1, h.sp _ h2⟩
section
variable {P : Program} {w : World} {K : PySem.W.Frag} {mg : Str → Option Value} {base : Heap}
def spFollowed : Sp := fun vs H Q _ => ∃ (t : Addr) (z : Str) (dots : List Str) (tb : List (Str × V)), vs = [.ref t, .str z] ∧ H t = some (.dK (tkv tb)) ∧ LeadOk dots tb ∧ dots.length ≤ 100 ∧ Nm z ∧
  ∀ p H', Evl.Ex H H' → H p = none → H' p = some (.lst (walkOf tb (dots.length + 1) z)) → Q (.ref p) H'
abbrev nFollowed : List Str := ["table", "node", "places"]
theorem sc_followed : FnScope nFollowed ["table", "node"] (defScope p_followed) := ⟨rfl, rfl, rfl, by decide +kernel, rfl, by decide +kernel, by decide +kernel⟩
theorem ok_followed {f : Addr} {fd : FuncData} (F : Fun K "followed" "followed" p_followed f fd) : FnOk P w K mg base CX0 1 f fd ["table", "node"] spFollowed := by
  refine F.ok sc_followed (fun vs H Q E h => ?_) (fun cdv A outer s H vs Q E hr h => ?_)
  · obtain ⟨t, z, dots, tb, rfl, _⟩ := h
    rfl
  · obtain ⟨t, z, dots, tb, rfl, ht, L, few, hz, k⟩ := h
    have nd := sc_followed.nd
    have hu := hu_of hr
    refine ⟨_, pss_cons (ps_set (i := 2) nd rfl (.inl rfl) (pe_lst (pa_cons (pv 1) pa_nil)))
      (pss_cons (ps_while PassesOwn.never (PW.pt (pw_and (pt_cmp (pc_dinN hu (pe_ix ix_list (pv 2) (pe_un un_neg pe_int) (fun _ _ => rfl)) (pv 0)) rfl)
          (pw_and1 (pt_cmpR op_notIn_seq (pe_ix ix_list (pv 2) (pe_un un_neg pe_int) (fun _ _ => rfl)) (pe_slice sl_list (pv 2) po_none (po_some (pe_un un_neg pe_int))) rfl))))
        (pss_one (ps_expr (pe_bm PySem.F.plainAttrs_list PySem.F.slot_list_append PySem.F.type_list_append mt_append (pv 2)
          (pa_cons (pe_dget hu (pv 0) (pe_ix ix_list (pv 2) (pe_un un_neg pe_int) (fun _ _ => rfl)) (fun _ _ => rfl)) pa_nil)))))
      (pss_one (ps_ret (pv 2)))), ?_⟩
    refine ⟨.str z, rfl, by show 1 ≤ sizeLine; decide, fun p hp => ?_⟩
    refine ⟨fun m σ H' => ∃ (zs : List Str) (v : V), σ = [some (.ref t), some (.str z), some (.ref p)] ∧ H' p = some (.lst (zs.map V.str ++ [v])) ∧ Evl.Ex H H' ∧ zs.Nodup ∧ (∀ y ∈ zs, y ∈ dots) ∧ Spot v ∧
      track tb m zs v = walkOf tb (dots.length + 1) z ∧ m + zs.length = dots.length + 1, ⟨dots.length + 1, [], .str z, rfl, upd_same, Evl.Ex.new hp, List.nodup_nil, (fun y hy => by cases hy), .inr ⟨z, rfl, hz⟩, rfl, rfl⟩, ?_⟩
    rintro m σ H1 ⟨zs, v, rfl, p1, x1, znd, zd, hv, tr, hm⟩
    have zl := nodup_le zs dots znd zd
    have t1 := x1 _ _ ht
    refine ⟨.ref p, rfl, 1, rfl, p, _, -1, v, rfl, rfl, Evl.sq_of p1, atI_last _ _, .ref t, rfl, ?_⟩
    rcases hv with rfl | ⟨y, rfl, hy⟩
    · refine .inr ⟨t, _, rfl, rfl, .inl t1, false, rfl, ?_⟩
      rw [track_non] at tr
      refine iteF ?_
      refine iteF ?_
      exact ⟨.ref p, rfl, k p _ x1 hp (by rw [p1, tr])⟩
    · cases q : valV (tkv tb) (Sum.inr y) with
      | none =>
        have gt : DGet H1 t (.str y) none := by
          have z := DGet.k (k := Sum.inr y) t1
          rw [q] at z
          exact z
        refine .inl ⟨t, none, rfl, gt, false, rfl, ?_⟩
        rw [track_out q] at tr
        refine iteF ?_
        refine iteF ?_
        exact ⟨.ref p, rfl, k p _ x1 hp (by rw [p1, tr])⟩
      | some u =>
        have gt : ∀ {Hx : Hp}, Hx t = some (.dK (tkv tb)) → DGet Hx t (.str y) (some u) := fun {Hx} tx => by
          have z := DGet.k (k := Sum.inr y) tx
          rw [q] at z
          exact z
        have yd : y ∈ dots := by
          by_cases hm : y ∈ tb.map (·.1)
          · rw [← L.ks]; exact hm
          · rw [tkv_none hm] at q; cases q
        have su : Spot u := by
          obtain ⟨w', h1, h2⟩ := L.get yd
          rw [q] at h1
          rw [Option.some.inj h1]
          exact h2
        refine .inl ⟨t, some u, rfl, gt t1, true, rfl, ?_⟩
        refine iteT ?_
        refine ⟨.ref p, rfl, 1, rfl, p, _, -1, _, rfl, rfl, Evl.sq_of p1, atI_last _ _, .ref p, rfl, 1, rfl, _, rfl, p, _, rfl, Evl.sq_of p1, fun c hc => ?_⟩
        have ecut : cutV (zs.map V.str ++ [V.str y]) none (some (-1)) = zs.map V.str := by
          rw [cut_last]
          exact List.dropLast_concat
        rw [ecut]
        have x2 : Evl.Ex H1 (upd H1 c (.lst (zs.map V.str))) := Evl.Ex.new hc
        have nc : p ≠ c := ne_of_none p1 hc
        refine ⟨c, zs.map V.str, rfl, .inl (Evl.sq_of upd_same), rfl, flat_strs zs, ?_⟩
        generalize upd H1 c (.lst (zs.map V.str)) = H2 at x2
        have p2 := x2 _ _ p1
        have t2 := x2 _ _ t1
        rw [inV_str]
        by_cases mem : y ∈ zs
        · rw [decide_eq_true mem]
          rw [track_ring mem] at tr
          refine ⟨false, rfl, ?_⟩
          refine iteF ?_
          exact ⟨.ref p, rfl, k p _ (x1.trans x2) hp (by rw [p2, tr])⟩
        · rw [decide_eq_false mem]
          obtain ⟨m0, rfl⟩ : ∃ m0, m = m0 + 1 := ⟨m - 1, by omega⟩
          rw [track_on q mem] at tr
          refine ⟨true, rfl, ?_⟩
          refine iteT ?_
          refine ⟨_, fun _ _ h => h, ?_⟩
          refine ⟨.ref p, rfl, .inl ⟨rfl, _, Evl.sq_of p2⟩, .ref t, rfl, .ref p, rfl, 1, rfl, p, _, -1, _, rfl, rfl, Evl.sq_of p2, atI_last _ _, t, u, rfl, gt t2, p, _, u, rfl, rfl, p2, ?_, ?_⟩
          · rw [List.length_append, List.length_map, List.length_singleton]
            exact small1000 (by omega)
          · refine ⟨m0, Nat.lt_succ_self _, zs ++ [y], u, rfl, ?_, (x1.trans x2).mut hp, ?_, ?_, su, tr, ?_⟩
            · rw [upd_same, List.map_append]
              rfl
            · rw [List.nodup_append]
              exact ⟨znd, by simp, fun a ha b hb e => mem (by rw [List.mem_singleton.mp hb] at e; exact e ▸ ha)⟩
            · intro a ha
              rcases List.mem_append.mp ha with ha | ha
              · exact zd a ha
              · rw [List.mem_singleton.mp ha]; exact yd
            · rw [List.length_append, List.length_singleton]
              omega
end
end Rw
end T_W0

section T_W1
set_option Elab.async false
set_option linter.all false
set_option maxRecDepth 100000
set_option maxHeartbeats 4000000
namespace Rw
open PySem L2 PyProof.Rows
/-- the ways at a moment at which just the nodes of on have their new ones -/
def nowTab (dots : List Str) (o n : List (Str × V)) (on : List Str) : List (Str × V) := dots.map fun z => (z, look (if z ∈ on then n else o) z)
theorem nowTab_keys (dots : List Str) (o n : List (Str × V)) (on : List Str) : (nowTab dots o n on).map (·.1) = dots := by
  unfold nowTab
  rw [List.map_map]
  exact List.map_id _
theorem nowTab_snoc (l : List Str) (z : Str) (o n : List (Str × V)) (on : List Str) : nowTab (l ++ [z]) o n on = nowTab l o n on ++ [(z, look (if z ∈ on then n else o) z)] := by
  unfold nowTab
  rw [List.map_append]
  rfl
theorem nowTab_lead {dots : List Str} {e : Str} {o n : List (Str × V)} {on : List Str} (h1 : TabOk dots e o) (h2 : TabOk dots e n) (hz : ∀ y ∈ dots, Nm y) (he : Nm e) : LeadOk dots (nowTab dots o n on) := by
  refine ⟨nowTab_keys _ _ _ _, fun q hq => ?_, hz⟩
  obtain ⟨z, hzd, rfl⟩ := List.mem_map.mp hq
  show Spot (look (if z ∈ on then n else o) z)
  by_cases m : z ∈ on
  · rw [if_pos m]; exact place_spot (look_ok h2 hzd).1 hz he
  · rw [if_neg m]; exact place_spot (look_ok h1 hzd).1 hz he
section
variable {P : Program} {w : World} {K : PySem.W.Frag} {mg : Str → Option Value} {base : Heap}
def spWay (C : Addr) : Sp := fun vs H Q _ => ∃ (m : Addr) (e z : Str) (b : Bool) (ends dots ss ps : List Str) (o n : Str → List (Str × V)), vs = [.ref m, .str e, .str z, .bl b] ∧ NetAt C H m ends dots ss ps o n ∧ ends.length ≤ 100 ∧ e ∈ ends ∧ z ∈ dots ∧
  ∀ H', Evl.Ex H H' → Q (look (if b = true then n e else o e) z) H'
abbrev nWay : List Str := ["self", "goal", "node", "is_new", "old", "new"]
theorem sc_way : FnScope nWay ["self", "goal", "node", "is_new"] (defScope c_Net_way) := ⟨rfl, rfl, rfl, by decide +kernel, rfl, by decide +kernel, by decide +kernel⟩
theorem ok_way {f C : Addr} {fd : FuncData} (F : Fun K "way" "Net.way" c_Net_way f fd) (T : NetTxt K C) (C1 : Cal P w K mg base 3 "check_goal" ["net", "goal"] (spCheckGoal C)) (C2 : Cal P w K mg base 3 "check_node" ["net", "node"] (spCheckDot C)) : FnOk P w K mg base CX0 4 f fd ["self", "goal", "node", "is_new"] (spWay C) := by
  obtain ⟨f1, fd1, F1, k1, b1, g1⟩ := C1.ex
  obtain ⟨f2, fd2, F2, k2, b2, g2⟩ := C2.ex
  refine F.ok sc_way (fun vs H Q E h => ?_) (fun cdv A outer s H vs Q E hr h => ?_)
  · obtain ⟨m, e, z, b, ends, dots, ss, ps, o, n, rfl, _⟩ := h
    rfl
  · obtain ⟨m, e, z, b, ends, dots, ss, ps, o, n, rfl, N, few, he, hz, k⟩ := h
    have nd := sc_way.nd
    have hu := hu_of hr
    refine ⟨_, pss_cons (ps_expr (pe_call F1 hr rfl g1 k1 b1 .nil pass0 (pa_cons (pv 0) (pa_cons (pv 1) pa_nil))))
      (pss_cons (ps_expr (pe_call F2 hr rfl g2 k2 b2 .nil pass0 (pa_cons (pv 0) (pa_cons (pv 2) pa_nil))))
      (pss_cons (ps_asg (pe_dget hu (pe_fld (pv 0) rfl) (pv 1) (fun _ _ => rfl)) (pg_tup rfl (pgs_cons (pg_name (i := 4) nd rfl (.inl rfl)) (pgs_cons (pg_name (i := 5) nd rfl (.inl rfl)) pgs_nil))))
      (pss_one (ps_ret (pe_ifExp (pt_val (pv 3)) (pe_dget hu (pv 5) (pv 2) (fun _ _ => rfl)) (pe_dget hu (pv 4) (pv 2) (fun _ _ => rfl))))))), ?_⟩
    refine ⟨.ref m, rfl, .str e, rfl, m, e, ends, dots, ss, ps, o, n, rfl, N, few, he, fun H1 x1 => ?_⟩
    have N1 := N.to x1
    refine ⟨.ref m, rfl, .str z, rfl, m, z, ends, dots, ss, ps, o, n, rfl, N1, hz, ?_⟩
    obtain ⟨dx, T', N', S, Po, rows, h1, h2, h3, h4, h5, h6, h7⟩ := N1.ex
    obtain ⟨p, po, pn, hv, pa⟩ := h7 e he
    have ge : DGet H1 T' (.str e) (some (.ref p)) := by
      have q := DGet.k (k := Sum.inr e) h2
      rw [hv] at q
      exact q
    have c1 := (look_ok pa.o1 hz)
    have c2 := (look_ok pa.o2 hz)
    have go : DGet H1 po (.str z) (some (look (o e) z)) := by
      have q := DGet.k (k := Sum.inr z) pa.ho
      rw [c1.2, look_canon hz] at q
      exact q
    have gn : DGet H1 pn (.str z) (some (look (n e) z)) := by
      have q := DGet.k (k := Sum.inr z) pa.hn
      rw [c2.2, look_canon hz] at q
      exact q
    have kk := k H1 x1
    refine ⟨.ref m, rfl, m, C, dx, _, .ref T', rfl, h1, T.cl, T.nT, nflds_tables _ _ _ _, .str e, rfl, T', _, rfl, ge, p, _, rfl, Evl.st_of pa.hp, rfl, _, _, rfl, _, [], rfl, rfl, ?_⟩
    cases b with
    | true => exact ⟨.bl true, rfl, true, rfl, iteT ⟨.ref pn, rfl, .str z, rfl, pn, _, rfl, gn, kk⟩⟩
    | false => exact ⟨.bl false, rfl, false, rfl, iteF ⟨.ref po, rfl, .str z, rfl, po, _, rfl, go, kk⟩⟩
end
end Rw
end T_W1

section T_Y0
set_option Elab.async false
set_option linter.all false
set_option maxRecDepth 100000
set_option maxHeartbeats 4000000
namespace Rw
open PySem L2 PyProof.Rows
/-- a dict comprehension over any walk -/
theorem dc_it {J : It} {n : Nat} {G : Hp → Prop} {Y : Nat → Hp → V → Hp → Prop} (wk : Walk J n G Y) {g : TG} {tt : TT} {tk tv : TE} {vs : List Nat} {σ : L2.St} {H1 : Hp} {D : Addr} {Qd : Hp → Prop} (Pv : Nat → Hp → Prop) (start : Pv 0 (upd H1 D (.dK []))) (hG : ∀ i H, i ≤ n → Pv i H → G H)
    (turn : ∀ i x H H', i < n → Pv i H → Y i H x H' → g x (wipe σ vs) H' fun σ2 H2 => wipe σ2 vs = wipe σ vs ∧ tt σ2 H2 fun b H3 =>
      if b = true then tk σ2 H3 fun y H4 => tv σ2 H4 fun z H5 => ∃ kvs k, y = kV k ∧ H5 D = some (.dK kvs) ∧ kvs.length < sizeLine ∧ Pv (i + 1) (upd H5 D (.dK (putK kvs k z))) else Pv (i + 1) H3) (fin : ∀ H, Pv n H → Qd H) :
    ∃ W : Nat → Nat → Hp → Prop, (∃ m, W 0 m (upd H1 D (.dK []))) ∧ ∀ i m H, W i m H →
      (J.stop i H ∧ Qd H) ∨ (J.go i H ∧ ∃ Nx : Hp → Prop, (∀ H', Nx H' → ∃ m', m' < m ∧ W (i + 1) m' H') ∧ ∀ x H', J.yld i H x H' → g x (wipe σ vs) H' fun σ2 H2 => wipe σ2 vs = wipe σ vs ∧ tt σ2 H2 fun b H3 =>
        if b = true then tk σ2 H3 fun y H4 => tv σ2 H4 fun z H5 => ∃ kvs k, y = kV k ∧ H5 D = some (.dK kvs) ∧ kvs.length < sizeLine ∧ Nx (upd H5 D (.dK (putK kvs k z))) else Nx H3) := by
  refine ⟨fun i m H => m = n - i ∧ i ≤ n ∧ Pv i H, ⟨n, by simp, Nat.zero_le _, start⟩, ?_⟩
  rintro i m H ⟨rfl, hi, p⟩
  by_cases lt : i < n
  · exact .inr ⟨wk.goes i H lt (hG i H hi p), Pv (i + 1), fun H' p' => ⟨n - (i + 1), by omega, rfl, lt, p'⟩, fun x H' y => turn i x H H' lt p (wk.yields i H x H' lt (hG i H hi p) y)⟩
  · have e : i = n := by omega
    subst e
    exact .inl ⟨wk.stops H (hG _ H hi p), fin H p⟩
theorem RowsAt.ok {H : Hp} {ends dots : List Str} {rows : List (Str × V)} {o n : Str → List (Str × V)} (h : RowsAt H ends dots rows o n) (hk : rows.map (·.1) = ends) (nd : ends.Nodup) : RowsOk H dots rows := fun q hq => by
  obtain ⟨i, hi, rfl⟩ := List.getElem_of_mem hq
  have ge : ends[i]? = some rows[i].1 := by rw [← hk, List.getElem?_map, List.getElem?_eq_getElem hi]; rfl
  obtain ⟨p, po, pn, hv, pa⟩ := h rows[i].1 (List.mem_of_getElem? ge)
  have h1 := tkv_at hk nd ge hv
  unfold tkv at h1
  rw [List.map_map, List.getElem?_map, List.getElem?_eq_getElem hi] at h1
  exact ⟨p, po, pn, _, _, Option.some.inj h1, pa⟩
/-- new tables, told by their addresses: goal, pair, old, new -/
def tabRs (T : List (Str × Addr × Addr × Addr)) : List (Str × V) := T.map fun t => (t.1, V.ref t.2.1)
theorem tabRs_keys (T : List (Str × Addr × Addr × Addr)) : (tabRs T).map (·.1) = T.map (·.1) := by
  unfold tabRs
  rw [List.map_map]
  rfl
structure TabsAt (H0 H : Hp) (D : Addr) (T : List (Str × Addr × Addr × Addr)) (ends dots : List Str) (o n : Str → List (Str × V)) : Prop where
  hd : H D = some (.dK (tkv (tabRs T)))
  ks : T.map (·.1) = ends
  pa : ∀ t ∈ T, PairAt H dots t.1 t.2.1 t.2.2.1 t.2.2.2 (o t.1) (n t.1) ∧ H0 t.2.1 = none ∧ H0 t.2.2.1 = none ∧ H0 t.2.2.2 = none
  nd : (D :: T.flatMap fun t => [t.2.2.1, t.2.2.2]).Nodup
theorem TabsAt.get {H0 H : Hp} {D : Addr} {T : List (Str × Addr × Addr × Addr)} {ends dots : List Str} {o n : Str → List (Str × V)} (h : TabsAt H0 H D T ends dots o n) (en : ends.Nodup) {t : Str × Addr × Addr × Addr} (ht : t ∈ T) : valV (tkv (tabRs T)) (Sum.inr t.1) = some (.ref t.2.1) := by
  have ks := h.ks
  clear h
  induction T generalizing ends with
  | nil => cases ht
  | cons u T ih =>
    subst ks
    obtain ⟨h1, h2⟩ := List.nodup_cons.mp en
    show valV ((Sum.inr u.1, V.ref u.2.1) :: tkv (tabRs T)) (Sum.inr t.1) = _
    rcases List.mem_cons.mp ht with rfl | ht
    · exact valV_pos (p := ((Sum.inr t.1 : Key), V.ref t.2.1)) rfl
    · rw [valV_neg (fun e => h1 (by have e' : u.1 = t.1 := Sum.inr.inj e; show u.1 ∈ T.map (·.1); rw [e']; exact List.mem_map_of_mem ht))]
      exact ih h2 ht rfl
theorem TabsAt.rows {H0 H : Hp} {D : Addr} {T : List (Str × Addr × Addr × Addr)} {ends dots : List Str} {o n : Str → List (Str × V)} (h : TabsAt H0 H D T ends dots o n) (en : ends.Nodup) : RowsAt H ends dots (tabRs T) o n := fun e he => by
  rw [← h.ks] at he
  obtain ⟨t, ht, rfl⟩ := List.mem_map.mp he
  exact ⟨_, _, _, h.get en ht, (h.pa t ht).1⟩
section
variable {P : Program} {w : World} {K : PySem.W.Frag} {mg : Str → Option Value} {base : Heap}
def spTabs (C : Addr) : Sp := fun vs H Q _ => ∃ (m : Addr) (ends dots ss ps : List Str) (o n : Str → List (Str × V)), vs = [.ref m] ∧ NetAt C H m ends dots ss ps o n ∧ 0 < ends.length ∧ ends.length ≤ 100 ∧ ends.Nodup ∧
  ∀ D T H', Evl.Ex H H' → H D = none → TabsAt H H' D T ends dots (fun e => canon dots (o e)) (fun e => canon dots (n e)) → Q (.ref D) H'
abbrev nTabs : List Str := ["self", "goal", "old", "new"]
theorem sc_tabs : FnScope nTabs ["self"] (defScope c_Net_tables) := ⟨rfl, rfl, rfl, by decide +kernel, rfl, by decide +kernel, by decide +kernel⟩
theorem ok_tabs {f C : Addr} {fd : FuncData} (F : Fun K "tables" "Net.tables" c_Net_tables f fd) (T : NetTxt K C) (mDict : mg "dict" = none) : FnOk P w K mg base CX0 1 f fd ["self"] (spTabs C) := by
  refine F.ok sc_tabs (fun vs H Q E h => ?_) (fun cdv A outer s H vs Q E hr h => ?_)
  · obtain ⟨m, ends, dots, ss, ps, o, n, rfl, _⟩ := h
    rfl
  · obtain ⟨m, ends, dots, ss, ps, o, n, rfl, N, e0, few, en, k⟩ := h
    have nd := sc_tabs.nd
    refine ⟨_, pss_one (ps_ret (pe_lock (pe_dc (own := [("goal", 1), ("old", 2), ("new", 3)]) (g := gTup K 2 (gCons (gName 1) (gCons (gTup K 2 (gCons (gName 2) (gCons (gName 3) gNil))) gNil))) (tt := tYes) (tk := tVar 1) rfl nd (pi_items (pe_fld (pv 0) rfl))
      (blkOk_by (own := [("goal", 1), ("old", 2), ("new", 3)]) (N := nTabs) (sc := defScope c_Net_tables) (by decide +kernel))
      (fun _ _ _ _ _ => pg_tup rfl (pgs_cons (pg_name (i := 1) nd rfl (Or.inl rfl)) (pgs_cons (pg_tup rfl (pgs_cons (pg_name (i := 2) nd rfl (Or.inl rfl)) (pgs_cons (pg_name (i := 3) nd rfl (Or.inl rfl)) pgs_nil))) pgs_nil)))
      (fun _ _ _ _ _ => pts_nil) (fun _ _ _ _ _ => pv 1)
      (fun _ _ _ _ _ => pe_tup (pa_cons (pe_callTy call_dictD (by rfl) mDict (by decide +kernel) (pa_cons (pv 2) pa_nil)) (pa_cons (pe_callTy call_dictD (by rfl) mDict (by decide +kernel) (pa_cons (pv 3) pa_nil)) pa_nil)))))), ?_⟩
    obtain ⟨dx, T', N', S, Po, rows, h1, h2, h3, h4, h5, h6, h7⟩ := N.ex
    have rl : rows.length = ends.length := by rw [← h6, List.length_map]
    have rne : rows ≠ [] := fun z => by rw [z] at rl; simp at rl; omega
    have ro := h7.ok h6 en
    refine ⟨T', .dK (tkv rows), h2, trivial, fun od => ?_⟩
    have locked : (upd H T' (.frz od (.dK (tkv rows)))) T' = some (.frz od (.dK (tkv rows))) := upd_same
    have up : ∀ {a : Addr} {u : HO}, H a = some u → a ≠ T' → (upd H T' (.frz od (.dK (tkv rows)))) a = some u := fun {a u} h ne => by rw [upd_ne ne]; exact h
    have back : ∀ {H4 : Hp}, Evl.Ex (upd H T' (.frz od (.dK (tkv rows)))) H4 → Evl.Ex H (upd H4 T' (.dK (tkv rows))) := fun {H4} e a u h => by
      by_cases q : a = T'
      · subst q
        rw [upd_same, ← h2, h]
      · rw [upd_ne q]
        exact e _ _ (by rw [upd_ne q]; exact h)
    generalize upd H T' (.frz od (.dK (tkv rows))) = HL at locked up back
    refine ⟨.ref m, rfl, m, C, dx, _, .ref T', rfl, up h1 (ne_of h1 h2 (by intro z; cases z)), T.cl, T.nT, nflds_tables _ _ _ _, T', od, _, rfl, locked, fun D hD => dc_it walk_items
      (fun i H' => i ≤ ends.length ∧ Evl.Ex HL H' ∧ ∃ rs : List (Str × Addr × Addr × Addr), H' D = some (.dK (tkv (tabRs rs))) ∧ rs.map (·.1) = ends.take i ∧
        (∀ q ∈ rs, PairAt H' dots q.1 q.2.1 q.2.2.1 q.2.2.2 (canon dots (o q.1)) (canon dots (n q.1)) ∧ HL q.2.1 = none ∧ HL q.2.2.1 = none ∧ HL q.2.2.2 = none) ∧ (D :: rs.flatMap fun t => [t.2.2.1, t.2.2.2]).Nodup)
      ⟨Nat.zero_le _, Evl.Ex.new hD, [], upd_same, rfl, (fun q hq => by cases hq), List.nodup_cons.mpr ⟨by simp, List.nodup_nil⟩⟩ (fun i H' _ h => h.2.1 _ _ locked) ?_ ?_⟩
    · rintro i x H4 H4' hi ⟨_, x4, rs, d4, hk, hpr, hnd⟩ ⟨Tt, xk, xv, rfl, hTt, rfl, hxk, hxv⟩
      rw [tkv_len, rl] at hi
      have gi : ends[i]? = some ends[i] := List.getElem?_eq_getElem hi
      obtain ⟨p, po, pn, hv, pa⟩ := h7 ends[i] (List.getElem_mem hi)
      have ev : xv = .ref p := by
        have z := tkv_at h6 en gi hv
        rw [List.getElem?_map] at z
        exact Option.some.inj (hxv.symm.trans z)
      have ek : xk = .str ends[i] := by
        have z : ((tkv rows).map fun kv => kV kv.1)[i]? = some (.str ends[i]) := by rw [tkv_keysV, h6, List.getElem?_map, gi]; rfl
        rw [List.getElem?_map] at z
        exact Option.some.inj (hxk.symm.trans z)
      subst ev ek
      have n1 : p ≠ T' := ne_of pa.hp h2 (by intro z; cases z)
      have n2 : po ≠ T' := tab_ne h2 ro rne pa.ho pa.o1
      have n3 : pn ≠ T' := tab_ne h2 ro rne pa.hn pa.o2
      have y1 : Evl.Ex H4 (upd H4 Tt (.tup [.str ends[i], .ref p])) := Evl.Ex.new hTt
      have t1 : (upd H4 Tt (.tup [.str ends[i], .ref p])) Tt = some (.tup [.str ends[i], .ref p]) := upd_same
      generalize upd H4 Tt (.tup [.str ends[i], .ref p]) = H5 at y1 t1
      have x5 := x4.trans y1
      have zn : ends[i] ∉ ends.take i := fun hm => by
        have q1 : (ends.take (i + 1)).Nodup := en.sublist (List.take_sublist _ _)
        rw [List.take_add_one, gi] at q1
        exact (List.nodup_append.mp q1).2.2 _ hm _ (List.mem_singleton.mpr rfl) rfl
      refine ⟨Tt, _, rfl, Evl.st_of t1, rfl, _, _, rfl, _, [], rfl, p, _, rfl, Evl.st_of (x5 _ _ (up pa.hp n1)), rfl, _, _, rfl, _, [], rfl, rfl, rfl, rfl, ?_⟩
      refine yes_if ?_
      refine ⟨.str ends[i], rfl, .ref po, rfl, po, _, rfl, .inl (x5 _ _ (up pa.ho n2)), fun po' hpo' => ?_⟩
      have y2 : Evl.Ex H5 (upd H5 po' (.dK (tkv (canon dots (o ends[i]))))) := Evl.Ex.new hpo'
      have q2 : (upd H5 po' (.dK (tkv (canon dots (o ends[i]))))) po' = some (.dK (tkv (canon dots (o ends[i])))) := upd_same
      have f2 : H4 po' = none := by
        cases z : H4 po' with
        | none => rfl
        | some u => rw [y1 _ _ z] at hpo'; cases hpo'
      generalize upd H5 po' (.dK (tkv (canon dots (o ends[i])))) = H6 at y2 q2
      refine ⟨.ref pn, rfl, pn, _, rfl, .inl ((x5.trans y2) _ _ (up pa.hn n3)), fun pn' hpn' => ⟨by show 2 ≤ sizeLine; decide, fun p' hp' => ?_⟩⟩
      have y3 : Evl.Ex H6 (upd (upd H6 pn' (.dK (tkv (canon dots (n ends[i]))))) p' (.tup [.ref po', .ref pn'])) := (Evl.Ex.new hpn').trans (Evl.Ex.new hp')
      have q3 : (upd (upd H6 pn' (.dK (tkv (canon dots (n ends[i]))))) p' (.tup [.ref po', .ref pn'])) pn' = some (.dK (tkv (canon dots (n ends[i])))) := Evl.Ex.new hp' _ _ upd_same
      have q1 : (upd (upd H6 pn' (.dK (tkv (canon dots (n ends[i]))))) p' (.tup [.ref po', .ref pn'])) p' = some (.tup [.ref po', .ref pn']) := upd_same
      have f3 : H4 pn' = none := by
        cases z : H4 pn' with
        | none => rfl
        | some u => rw [(y1.trans y2) _ _ z] at hpn'; cases hpn'
      generalize upd (upd H6 pn' (.dK (tkv (canon dots (n ends[i]))))) p' (.tup [.ref po', .ref pn']) = H7 at y3 q3 q1
      have x7 := x5.trans (y2.trans y3)
      have d7 := (y1.trans (y2.trans y3)) _ _ d4
      have q2' := y3 _ _ q2
      have l4 := x4 _ _ locked
      have back4 : ∀ {a : Addr}, H4 a = none → HL a = none := fun {a} h => by
        cases z : HL a with
        | none => rfl
        | some u => rw [x4 _ _ z] at h; cases h
      have f1 : H4 p' = none := by
        cases z : H4 p' with
        | none => rfl
        | some u =>
          have w6 : Evl.Ex H4 (upd H6 pn' (.dK (tkv (canon dots (n ends[i]))))) := (y1.trans y2).trans (Evl.Ex.new hpn')
          rw [w6 _ _ z] at hp'
          cases hp'
      have rsl : rs.length ≤ 100 := by
        have := congrArg List.length hk
        rw [List.length_map, List.length_take] at this
        omega
      -- what was made stands apart
      have apart : ∀ a ∈ D :: rs.flatMap (fun t => [t.2.2.1, t.2.2.2]), (H4 a).isSome = true := fun a ha => by
        rcases List.mem_cons.mp ha with rfl | ha
        · rw [d4]; rfl
        · obtain ⟨t, ht, ha⟩ := List.mem_flatMap.mp ha
          have pt := (hpr t ht).1
          rcases List.mem_cons.mp ha with rfl | ha
          · rw [pt.ho]; rfl
          · rw [List.mem_singleton.mp ha, pt.hn]; rfl
      have no_po : po' ∉ D :: rs.flatMap fun t => [t.2.2.1, t.2.2.2] := fun m => by
        have := apart _ m
        rw [f2] at this
        cases this
      have no_pn : pn' ∉ D :: rs.flatMap fun t => [t.2.2.1, t.2.2.2] := fun m => by
        have := apart _ m
        rw [f3] at this
        cases this
      have n_on : po' ≠ pn' := ne_of_none q2 hpn'
      have m1 : p' ≠ D := ne_of q1 d7 (by intro z; cases z)
      have m2 : po' ≠ D := (ne_of_none d4 f2).symm
      have m3 : pn' ≠ D := (ne_of_none d4 f3).symm
      have et : tabRs (rs ++ [(ends[i], p', po', pn')]) = tabRs rs ++ [(ends[i], V.ref p')] := by unfold tabRs; rw [List.map_append]; rfl
      have lenR : (tkv (tabRs rs)).length ≤ 100 := by rw [tkv_len]; unfold tabRs; rw [List.length_map]; exact rsl
      refine ⟨_, Sum.inr ends[i], rfl, d7, small1000 (by omega), hi, x7.mut hD, rs ++ [(ends[i], p', po', pn')], ?_, ?_, ?_, ?_⟩
      · rw [upd_same, tkv_new (by rw [tabRs_keys, hk]; exact zn), et]
      · rw [List.map_append, hk, List.take_add_one, gi]
        rfl
      · have keep : ∀ {a : Addr} {u : HO}, H7 a = some u → a ≠ D → (upd H7 D (.dK (putK (tkv (tabRs rs)) (Sum.inr ends[i]) (V.ref p')))) a = some u := fun {a u} h ne => by rw [upd_ne ne]; exact h
        intro q hq
        rcases List.mem_append.mp hq with hq | hq
        · obtain ⟨pa1, z1, z2, z3⟩ := hpr q hq
          have pw := pa1.ex (y1.trans (y2.trans y3))
          have ne2 : q.2.2.1 ≠ D := fun e => (List.nodup_cons.mp hnd).1 (e ▸ List.mem_flatMap.mpr ⟨q, hq, List.mem_cons_self⟩)
          have ne3 : q.2.2.2 ≠ D := fun e => (List.nodup_cons.mp hnd).1 (e ▸ List.mem_flatMap.mpr ⟨q, hq, List.mem_cons_of_mem _ List.mem_cons_self⟩)
          exact ⟨⟨keep pw.hp (ne_of pw.hp d7 (by intro z; cases z)), keep pw.ho ne2, keep pw.hn ne3, pw.o1, pw.o2⟩, z1, z2, z3⟩
        · rw [List.mem_singleton.mp hq]
          exact ⟨⟨keep q1 m1, keep q2' m2, keep q3 m3, pa.o1, pa.o2⟩, back4 f1, back4 f2, back4 f3⟩
      · rw [List.flatMap_append]
        show ((D :: rs.flatMap _) ++ [po', pn']).Nodup
        refine List.nodup_append.mpr ⟨hnd, List.nodup_cons.mpr ⟨by simpa using n_on, List.nodup_cons.mpr ⟨by simp, List.nodup_nil⟩⟩, fun a ha b hb e => ?_⟩
        subst e
        rcases List.mem_cons.mp hb with rfl | hb
        · exact no_po ha
        · rw [List.mem_singleton.mp hb] at ha
          exact no_pn ha
    · rintro H4 ⟨_, x4, rs, d4, hk, hpr, hnd⟩
      rw [tkv_len, rl, List.take_length] at hk
      refine ⟨x4 _ _ locked, ?_⟩
      have nDT : D ≠ T' := (ne_of_none locked hD).symm
      have old : ∀ {a : Addr}, HL a = none → H a = none := fun {a} h => by
        by_cases e : a = T'
        · rw [e, locked] at h; cases h
        · cases z : H a with
          | none => rfl
          | some u => rw [up z e] at h; cases h
      have offT : ∀ {a : Addr}, HL a = none → a ≠ T' := fun {a} h e => by rw [e, locked] at h; cases h
      refine k D rs _ (back x4) (old hD) ⟨by rw [upd_ne nDT]; exact d4, hk, fun t ht => ?_, hnd⟩
      obtain ⟨pa1, z1, z2, z3⟩ := hpr t ht
      exact ⟨⟨by rw [upd_ne (offT z1)]; exact pa1.hp, by rw [upd_ne (offT z2)]; exact pa1.ho, by rw [upd_ne (offT z3)]; exact pa1.hn, pa1.o1, pa1.o2⟩, old z1, old z2, old z3⟩
end
end Rw
end T_Y0

section T_W3
set_option Elab.async false
set_option linter.all false
set_option maxRecDepth 100000
set_option maxHeartbeats 4000000
/-! ways_at as it stands from 57648cc on: by the tables themselves -/
namespace Rw
open PySem L2 PyProof.Rows
section
variable {P : Program} {w : World} {K : PySem.W.Frag} {mg : Str → Option Value} {base : Heap}
theorem dgK {H : Hp} {a : Addr} {kvs : List (Key × V)} {k : Key} {v : V} (h : H a = some (.dK kvs)) (hv : valV kvs k = some v) : DGet H a (kV k) (some v) := by
  have := DGet.k (k := k) h
  rw [hv] at this
  exact this
def spWaysAt (C : Addr) : Sp := fun vs H Q _ => ∃ (m a b : Addr) (e : Str) (zs ys ends dots ss ps : List Str) (o n : Str → List (Str × V)), vs = [.ref m, .ref a, .ref b, .str e] ∧ NetAt C H m ends dots ss ps o n ∧ ends.length ≤ 100 ∧ ends.Nodup ∧ dots.length ≤ 100 ∧ dots.Nodup ∧ e ∈ ends ∧
  SqT K H a (zs.map V.str) ∧ SqT K H b (ys.map V.str) ∧ ∀ D H', Evl.Ex H H' → H D = none → H' D = some (.dK (tkv (nowTab dots (o e) (n e) (zs ++ ys)))) → Q (.ref D) H'
abbrev nWaysAt : List Str := ["net", "done", "changed", "goal", "old", "new", "node"]
theorem sc_ways_at : FnScope nWaysAt ["net", "done", "changed", "goal"] (defScope p_ways_at) := ⟨rfl, rfl, rfl, by decide +kernel, rfl, by decide +kernel, by decide +kernel⟩
theorem ok_ways_at {f C : Addr} {fd : FuncData} (F : Fun K "ways_at" "ways_at" p_ways_at f fd) (T : NetTxt K C) (P1 : Prp P w K mg base C 1 "tables" (spTabs C)) (Pg : Prp P w K mg base C 1 "nodes" (spDots C)) :
    FnOk P w K mg base CX0 3 f fd ["net", "done", "changed", "goal"] (spWaysAt (K := K) C) := by
  obtain ⟨p1, g1, fd1, at1, F1, b1⟩ := P1.ex
  obtain ⟨p2, g2, fd2, at2, F2, b2⟩ := Pg.ex
  refine F.ok sc_ways_at (fun vs H Q E h => ?_) (fun cdv A outer s H vs Q E hr h => ?_)
  · obtain ⟨m, a, b, e, zs, ys, ends, dots, ss, ps, o, n, rfl, _⟩ := h
    rfl
  · obtain ⟨m, a, b, e, zs, ys, ends, dots, ss, ps, o, n, rfl, N, few, en, few2, dn, he, ha, hb, k⟩ := h
    have nd := sc_ways_at.nd
    have hu := hu_of hr
    refine ⟨_, pss_cons (ps_asg (pe_dget hu (pe_prop (pv 0) T.cl at1 F1 hr b1 .nil pass0 rfl) (pv 3) (fun _ _ => rfl)) (pg_tup rfl (pgs_cons (pg_name (i := 4) nd rfl (.inr rfl)) (pgs_cons (pg_name (i := 5) nd rfl (.inr rfl)) pgs_nil))))
      (pss_one (ps_ret (pe_dc (own := [("node", 6)]) (g := gName 6) (tt := tYes) (tk := tVar 6)
          (tv := tIf (tOr (tTest (tOp (rIn K false) (tVar 6) (tVar 1))) (tTest (tOp (rIn K false) (tVar 6) (tVar 2)))) (tDGet (tVar 5) (tVar 6)) (tDGet (tVar 4) (tVar 6))) rfl nd (pi_tup (pe_prop (pv 0) T.cl at2 F2 hr b2 .nil pass0 rfl)) (blkOk_by (own := [("node", 6)]) (N := nWaysAt) (sc := defScope p_ways_at) (by decide +kernel))
        (fun _ _ _ _ _ => pg_name (i := 6) nd rfl (Or.inl rfl)) (fun _ _ _ _ _ => pts_nil) (fun _ _ _ _ _ => pv 6)
        (fun _ _ _ _ _ => pe_ifExp (PW.pt (pw_or (pt_cmpR op_in_seq (pv 6) (pv 1) rfl) (pw_or1 (pt_cmpR op_in_seq (pv 6) (pv 2) rfl)))) (pe_dget hu (pv 5) (pv 6) (fun _ _ => rfl)) (pe_dget hu (pv 4) (pv 6) (fun _ _ => rfl)))))), ?_⟩
    have N2 := N
    obtain ⟨dx, T', N', S, Po, rows, h1, h2, h3, h4, h5, h6, h7⟩ := N.ex
    have e0 : 0 < ends.length := List.length_pos_of_mem he
    refine ⟨.ref m, rfl, m, dx, _, rfl, h1, m, ends, dots, ss, ps, o, n, rfl, N2, e0, few, en, fun D0 Tb H0 x0 hD0 TA => ?_⟩
    obtain ⟨t, ht, et⟩ : ∃ t ∈ Tb, t.1 = e := by
      rw [← TA.ks] at he
      obtain ⟨t, ht, e2⟩ := List.mem_map.mp he
      exact ⟨t, ht, e2⟩
    obtain ⟨pa, _⟩ := TA.pa t ht
    have hv := TA.get en ht
    rw [et] at pa hv
    refine ⟨.str e, rfl, D0, _, rfl, dgK (k := Sum.inr e) TA.hd hv, t.2.1, _, rfl, Evl.st_of pa.hp, rfl, _, _, rfl, _, [], rfl, rfl, ?_⟩
    refine ⟨.ref m, rfl, m, dx, _, rfl, x0 _ _ h1, m, ends, dots, ss, ps, o, n, rfl, N2.to x0, fun q hq => ⟨q, rfl, ⟨_, Evl.st_of hq⟩, fun D hD => dc_tup (K := K) (a := q) (xs := dots.map V.str)
      (fun i H' => i ≤ dots.length ∧ Evl.Ex H0 H' ∧ H' D = some (.dK (tkv (nowTab (dots.take i) (o e) (n e) (zs ++ ys))))) ⟨Nat.zero_le _, Evl.Ex.new hD, upd_same⟩ (fun i H' _ h => Evl.st_of (h.2.1 _ _ hq)) ?_ ?_⟩⟩
    · rintro i x H1 hi ⟨_, x1, d1⟩
      obtain ⟨z, hz, rfl⟩ := str_at hi
      have hil : i < dots.length := (List.getElem?_eq_some_iff.mp hz).1
      have zd := List.mem_of_getElem? hz
      have et : dots.take (i + 1) = dots.take i ++ [z] := by rw [List.take_add_one, hz]; rfl
      have zn : z ∉ dots.take i := fun hm => by
        have h1 : (dots.take (i + 1)).Nodup := dn.sublist (List.take_sublist _ _)
        rw [et] at h1
        exact (List.nodup_append.mp h1).2.2 z hm z (List.mem_singleton.mpr rfl) rfl
      have c1 := look_ok pa.o1 zd
      have c2 := look_ok pa.o2 zd
      have go : DGet H1 t.2.2.1 (.str z) (some (look (o e) z)) := by
        have := dgK (k := Sum.inr z) (x1 _ _ pa.ho) c1.2
        rw [look_canon zd] at this
        exact this
      have gn : DGet H1 t.2.2.2 (.str z) (some (look (n e) z)) := by
        have := dgK (k := Sum.inr z) (x1 _ _ pa.hn) c2.2
        rw [look_canon zd] at this
        exact this
      refine ⟨rfl, ?_⟩
      refine yes_if ?_
      refine ⟨.str z, rfl, ?_⟩
      have fin : ∀ v : V, v = look (if z ∈ zs ++ ys then n e else o e) z → ∃ kvs k, V.str z = kV k ∧ H1 D = some (.dK kvs) ∧ kvs.length < sizeLine ∧
          (i + 1 ≤ dots.length ∧ Evl.Ex H0 (upd H1 D (.dK (putK kvs k v))) ∧ (upd H1 D (.dK (putK kvs k v))) D = some (.dK (tkv (nowTab (dots.take (i + 1)) (o e) (n e) (zs ++ ys))))) := by
        rintro v rfl
        refine ⟨_, Sum.inr z, rfl, d1, ?_, hil, x1.mut hD, ?_⟩
        · rw [tkv_len]
          unfold nowTab
          rw [List.length_map, List.length_take]
          exact small1000 (by omega)
        · rw [upd_same, tkv_new (by rw [nowTab_keys]; exact zn), et, nowTab_snoc]
      refine ⟨.str z, rfl, .ref a, rfl, a, zs.map V.str, rfl, .inr (Evl.ex_t (x0.trans x1) ha), rfl, flat_strs zs, ?_⟩
      rw [inV_str]
      by_cases m1 : z ∈ zs
      · rw [decide_eq_true m1]
        refine ⟨true, rfl, iteT (iteT ?_)⟩
        exact ⟨.ref t.2.2.2, rfl, .str z, rfl, t.2.2.2, _, rfl, gn, fin _ (by rw [if_pos (List.mem_append_left _ m1)])⟩
      · rw [decide_eq_false m1]
        refine ⟨false, rfl, iteF ?_⟩
        refine ⟨.str z, rfl, .ref b, rfl, b, ys.map V.str, rfl, .inr (Evl.ex_t (x0.trans x1) hb), rfl, flat_strs ys, ?_⟩
        rw [inV_str]
        by_cases m2 : z ∈ ys
        · rw [decide_eq_true m2]
          refine ⟨true, rfl, iteT ?_⟩
          exact ⟨.ref t.2.2.2, rfl, .str z, rfl, t.2.2.2, _, rfl, gn, fin _ (by rw [if_pos (List.mem_append_right _ m2)])⟩
        · rw [decide_eq_false m2]
          refine ⟨false, rfl, iteF ?_⟩
          exact ⟨.ref t.2.2.1, rfl, .str z, rfl, t.2.2.1, _, rfl, go, fin _ (by rw [if_neg (fun h => (List.mem_append.mp h).elim m1 m2)])⟩
    · rintro H1 ⟨_, x1, d1⟩
      rw [List.length_map, List.take_length] at d1
      exact k D _ (x0.trans x1) (ex_none x0 hD) d1
end
end Rw
end T_W3

section T_BB
set_option Elab.async false
set_option linter.all false
set_option maxRecDepth 100000
set_option maxHeartbeats 8000000
namespace Rw
open PySem L2 PyProof.Rows
/-! ### the model of the second stage's laws -/
theorem sorted_sub {l m : List Str} (h : l.Sublist m) (s : sortedS m = true) : sortedS l = true := by
  have h1 := (sorted_pair s).sublist h
  refine sortedS_of_pairwise _ (h1.imp fun {a b} hab => ?_)
  rw [ltCps_eq]
  exact decide_eq_false (List.not_lt.mpr hab)
end Rw
end T_BB

section T_BC
set_option Elab.async false
set_option linter.all false
set_option maxRecDepth 100000
set_option maxHeartbeats 8000000
namespace Rw
open PySem L2 PyProof.Rows
theorem rdx {H H' : Hp} {a : Addr} {o : HO} (h : Rd H a o) (x : Evl.Ex H H') : Rd H' a o := by
  rcases h with h | ⟨d, h⟩
  · exact .inl (x _ _ h)
  · exact .inr ⟨d, x _ _ h⟩
theorem dgR {H : Hp} {a : Addr} {kvs : List (Key × V)} {k : Key} {v : V} (h : Rd H a (.dK kvs)) (e : valV kvs k = some v) : DGet H a (kV k) (some v) := .inl ⟨kvs, k, h, rfl, e.symm⟩
end Rw
end T_BC

section T_CU
set_option Elab.async false
set_option linter.all false
set_option maxRecDepth 100000
set_option maxHeartbeats 4000000
namespace Rw
open PySem L2 PyProof.Rows
/-- a + b of tuples that stand in the heap -/
def rCatU : R2 := fun x y H Q => ∃ (a b : Addr) (xs ys : List V), x = .ref a ∧ y = .ref b ∧ H a = some (.tup xs) ∧ H b = some (.tup ys) ∧ xs.length + ys.length ≤ sizeLine ∧ ∀ q H', Evl.Ex H H' → H' q = some (.tup (xs ++ ys)) → Q (.ref q) H'
theorem op_catU {X : Cx} : OpR X (binaryOp .Add) rCatU := by
  intro pins s σ H x y v u Q I rx ry h
  obtain ⟨a, b, xs, ys, rfl, rfl, ha, hb, hz, k⟩ := h
  refine op_catA pins s σ H _ _ v u Q I rx ry ⟨a, b, xs, ys, rfl, rfl, Evl.st_of ha, Evl.st_of hb, hz, fun e => ?_, fun _ e => ?_, fun _ _ p hp => ?_⟩
  · subst e
    exact k b H (Evl.Ex.refl H) hb
  · subst e
    refine k a H (Evl.Ex.refl H) ?_
    rw [List.append_nil]
    exact ha
  · exact k p _ (Evl.Ex.new hp) upd_same
end Rw
end T_CU

section T_S3
set_option Elab.async false
set_option linter.all false
set_option maxRecDepth 100000
set_option maxHeartbeats 4000000
namespace Rw
open PySem PySem.Spec PyProof.Rows
/-! ### rows of texts, one ahead of another -/
def lexS : List Str → List Str → Bool
  | [], [] => false
  | [], _ :: _ => true
  | _ :: _, [] => false
  | x :: r, y :: q => if x = y then lexS r q else decide (x.cps.toList < y.cps.toList)
theorem lexS_step (x y : Str) (r q : List Str) : lexS (x :: r) (y :: q) = if x = y then lexS r q else decide (x.cps.toList < y.cps.toList) := rfl
theorem txt_anti {x y : Str} (h1 : ¬ x.cps.toList < y.cps.toList) (h2 : ¬ y.cps.toList < x.cps.toList) : x = y := by
  have e : x.cps.toList = y.cps.toList := List.le_antisymm h2 h1
  cases x
  cases y
  exact congrArg Str.mk (Array.toList_inj.mp e)
theorem lexS_self : ∀ r : List Str, lexS r r = false
  | [] => rfl
  | x :: r => by rw [lexS_step, if_pos rfl]; exact lexS_self r
theorem lexS_no : ∀ {r q : List Str}, lexS r q = true → lexS q r = false
  | [], [], h => nomatch h
  | [], _ :: _, _ => rfl
  | _ :: _, [], h => nomatch h
  | x :: r, y :: q, h => by
    rw [lexS_step] at h ⊢
    by_cases e : x = y
    · rw [if_pos e] at h
      rw [if_pos e.symm]
      exact lexS_no h
    · rw [if_neg e, decide_eq_true_eq] at h
      rw [if_neg (fun z => e z.symm)]
      exact decide_eq_false fun z => List.lt_irrefl _ (List.lt_trans h z)
theorem lexS_tr : ∀ {r q p : List Str}, lexS q r = false → lexS p q = false → lexS p r = false
  | [], [], [], _, _ => rfl
  | [], [], _ :: _, _, _ => rfl
  | [], _ :: _, [], _, h => nomatch h
  | [], _ :: _, _ :: _, _, _ => rfl
  | _ :: _, [], _, h, _ => nomatch h
  | _ :: _, _ :: _, [], _, h => nomatch h
  | x :: r, y :: q, z :: p, h1, h2 => by
    rw [lexS_step] at h1 h2 ⊢
    by_cases e1 : y = x
    · subst e1
      rw [if_pos rfl] at h1
      by_cases e2 : z = y
      · subst e2
        rw [if_pos rfl] at h2 ⊢
        exact lexS_tr h1 h2
      · rw [if_neg e2] at h2 ⊢
        exact h2
    · rw [if_neg e1, decide_eq_false_iff_not] at h1
      by_cases e2 : z = y
      · subst e2
        rw [if_neg e1]
        exact decide_eq_false h1
      · rw [if_neg e2, decide_eq_false_iff_not] at h2
        by_cases e3 : z = x
        · subst e3
          exact absurd (txt_anti h1 h2) e1
        · rw [if_neg e3]
          exact decide_eq_false fun h3 => List.le_trans (show x.cps.toList ≤ y.cps.toList from h1) (show y.cps.toList ≤ z.cps.toList from h2) h3
theorem lexS_tot : ∀ {r q : List Str}, lexS r q = false → lexS q r = false → r = q
  | [], [], _, _ => rfl
  | [], _ :: _, h, _ => nomatch h
  | _ :: _, [], _, h => nomatch h
  | x :: r, y :: q, h1, h2 => by
    rw [lexS_step] at h1 h2
    by_cases e : x = y
    · subst e
      rw [if_pos rfl] at h1 h2
      rw [lexS_tot h1 h2]
    · rw [if_neg e, decide_eq_false_iff_not] at h1
      rw [if_neg (fun z => e z.symm), decide_eq_false_iff_not] at h2
      exact absurd (txt_anti h1 h2) e
/-- first by the number, then by the row -/
def numRow (p q : Int × List Str) : Bool := if p.1 = q.1 then lexS p.2 q.2 else decide (p.1 < q.1)
theorem numRow_swo {α : Type} (k : α → Int × List Str) : SrtO.Swo fun a b => numRow (k a) (k b) := by
  refine ⟨fun a b h => ?_, fun a b c h1 h2 => ?_⟩
  · unfold numRow at h ⊢
    by_cases e : (k a).1 = (k b).1
    · rw [if_pos e] at h
      rw [if_pos e.symm]
      exact lexS_no h
    · rw [if_neg e, decide_eq_true_eq] at h
      rw [if_neg (fun z => e z.symm)]
      exact decide_eq_false (by omega)
  · unfold numRow at h1 h2 ⊢
    by_cases e1 : (k b).1 = (k a).1
    · rw [if_pos e1] at h1
      by_cases e2 : (k c).1 = (k b).1
      · rw [if_pos e2] at h2
        rw [if_pos (e2.trans e1)]
        exact lexS_tr h1 h2
      · rw [if_neg e2, decide_eq_false_iff_not] at h2
        rw [if_neg (fun z => e2 (z.trans e1.symm))]
        exact decide_eq_false (by omega)
    · rw [if_neg e1, decide_eq_false_iff_not] at h1
      by_cases e2 : (k c).1 = (k b).1
      · rw [if_neg (fun z => e1 (e2.symm.trans z))]
        exact decide_eq_false (by omega)
      · rw [if_neg e2, decide_eq_false_iff_not] at h2
        rw [if_neg (by omega)]
        exact decide_eq_false (by omega)
/-! ### tuples of texts: < -/
section
open PySem.SeqAt
open PySem.AutoSeq1 (wpAny_loadPart')
open PySem.MeetsSeq PySem.MeetsSeq2 PySem.MeetsSeq3
theorem tupS_lt (p q : Addr) (us vs : Array Value) (k1 k2 : Nat) (d1 d2 : Option Addr) (z1 z2 : Array (Option Value)) (xs ys : List Str) (hx : StrsAre us.toList xs) (hy : StrsAre vs.toList ys) :
    Meets (Builtin.«tuple.__lt__» ⟨[.ref p, .ref q], []⟩)
      (fun _ R s => s.heap.get? p = some { cls := .type "tuple", dict := d1, data := .seq us k1, slots := z1 } ∧ s.heap.get? q = some { cls := .type "tuple", dict := d2, data := .seq vs k2, slots := z2 } ∧ R (.ok (.ret (.bool (lexS xs ys)))) s) :=
  .of_wp fun prog w A R s h => by
    obtain ⟨hp, gs, dr, tk, os⟩ := s
    obtain ⟨at_p, at_q, fin⟩ := h
    have sub := AutoSeq1.sub_tuple_tuple
    have l1 : us.size = xs.length := by rw [← hx.len_eq, Array.length_toList]
    have l2 : vs.size = ys.length := by rw [← hy.len_eq, Array.length_toList]
    wp_walk using wpAny_loadPart' at_p, wpAny_loadPart' at_q, wpAny_forIn_list _ (fun more b t => b.1 = none ∧ t = ⟨hp, gs, dr, tk, os⟩ ∧ ∃ (as bs : List Value) (xs' ys' : List Str), more = as.zip bs ∧
      StrsAre as xs' ∧ StrsAre bs ys' ∧ xs'.length + vs.size = ys'.length + us.size ∧ R (.ok (.ret (.bool (lexS xs' ys')))) ⟨hp, gs, dr, tk, os⟩) _
    case turn =>
      rintro ⟨u, v⟩ more b t ⟨b0, rfl, as, bs, xs', ys', em, ha, hb, hl, hR⟩
      cases ha with
      | nil => rw [List.zip_nil_left] at em; cases em
      | cons x t1 ha2 =>
        cases hb with
        | nil => rw [List.zip_nil_right] at em; cases em
        | cons y t2 hb2 =>
          rw [List.zip_cons_cons] at em
          injection em with e1 e2
          injection e1 with e3 e4
          subst e3 e4
          rw [lexS_step] at hR
          simp only [List.length_cons] at hl
          have same := SeqAt.EqAt.str_str (A := A.in1) (s := ⟨hp, gs, dr, tk, os⟩) x t1 y t2
          refine wpAny_bind (same prog w _ _ ?_)
          by_cases e : x = y
          · rw [show (x == y) = true from beq_iff_eq.mpr e]
            rw [if_pos e] at hR
            wp_walk
            exact ⟨rfl, rfl, _, _, _, _, e2, ha2, hb2, by omega, hR⟩
          · rw [show (x == y) = false from beq_eq_false_iff_ne.mpr e]
            rw [if_neg e] at hR
            have less := DT.rcLt_str A.in1 ⟨hp, gs, dr, tk, os⟩ x t1 y t2 prog w
            wp_walk using less
            exact ⟨_, rfl, by simpa using hR⟩
    case fin =>
      rintro ⟨c1, c2⟩ t ⟨b0, rfl, as, bs, xs', ys', em, ha, hb, hl, hR⟩
      simp only at b0
      subst b0
      have ev : lexS xs' ys' = decide (us.size < vs.size) := by
        cases ha with
        | nil =>
          cases hb with
          | nil =>
            simp only [List.length_nil] at hl
            exact (decide_eq_false (by omega)).symm
          | cons y t2 hb2 =>
            simp only [List.length_nil, List.length_cons] at hl
            exact (decide_eq_true (by omega)).symm
        | cons x t1 ha2 =>
          cases hb with
          | nil =>
            simp only [List.length_nil, List.length_cons] at hl
            exact (decide_eq_false (by omega)).symm
          | cons y t2 hb2 =>
            rw [List.zip_cons_cons] at em
            cases em
      rw [ev] at hR
      wp_walk
      exact ⟨_, rfl, by simpa [Builtin.Tuple.tupleCompareSizes] using hR⟩
    case h =>
      exact ⟨rfl, rfl, us.toList, vs.toList, xs, ys, rfl, hx, hy, by omega, fin⟩
end
section
variable {prog : Program} {w : World} {A : Around} {E : Value → Shared → Prop} {s : Shared}
theorem less_tupS {p q : Addr} {us vs : Array Value} {xs ys : List Str} {Q : Value → Shared → Prop} (hp : IsTup s.heap p us) (hq : IsTup s.heap q vs) (hx : StrsAre us.toList xs) (hy : StrsAre vs.toList ys) (room : A.units < cLine)
    (h : Q (.bool (lexS xs ys)) s) : wpAny (model prog w) A (compareOp .Lt (.ref p) (.ref q)) Q E s := by
  obtain ⟨⟨c1, e1, t1, z1⟩, at_p, x1, k1, y1⟩ := id hp
  obtain ⟨⟨c2, e2, t2, z2⟩, at_q, x2, k2, y2⟩ := id hq
  simp only at x1 y1 x2 y2
  subst x1 y1 x2 y2
  exact richCompare_meets_room (op := .Lt) ⟨_, at_p, rfl⟩ ⟨_, at_q, rfl⟩ PySem.F.slot_tuple_lt PySem.F.entry_tuple_lt (PySem.F.args_tuple_lt_2 _ _) (tupS_lt p q us vs k1 k2 e1 e2 z1 z2 xs ys hx hy)
    ⟨at_p, at_q, show Value.bool (lexS xs ys) ≠ Value.notImplemented ∧ Q (.bool (lexS xs ys)) s from ⟨(fun z => nomatch z), h⟩⟩ room
/-- a tuple of a number and a tuple of texts -/
def IsNR (h : Heap) (v : Value) (k : Int × List Str) : Prop := ∃ (a b : Addr) (t : Tok) (us : Array Value), v = .ref a ∧ IsTup h a #[.int k.1 t, .ref b] ∧ IsTup h b us ∧ StrsAre us.toList k.2
theorem IsNR.on {h h' : Heap} {v : Value} {k : Int × List Str} (x : IsNR h v k) (keep : ∀ b o, h.get? b = some o → o.cls = .type "tuple" → h'.get? b = some o) : IsNR h' v k := by
  obtain ⟨a, b, t, us, e, ⟨o, h1, h2, h3⟩, ⟨o2, g1, g2, g3⟩, r⟩ := x
  exact ⟨a, b, t, us, e, ⟨o, keep _ _ h1 h2, h2, h3⟩, ⟨o2, keep _ _ g1 g2, g2, g3⟩, r⟩
theorem key_row {h : Heap} {b : Addr} {us : Array Value} {xs : List Str} (hb : IsTup h b us) (hx : StrsAre us.toList xs) : IsTupleKey (L2.mixKind prog w) h (xs.map Sum.inr) b := by
  obtain ⟨o, h1, h2, n, h3⟩ := hb
  refine ⟨o, us, n, h1, h2, h3, ?_⟩
  have go : ∀ {vs : List Value} {zs : List Str}, StrsAre vs zs → ItemsAre (L2.mixKind prog w) (zs.map Sum.inr) vs := by
    intro vs zs q
    induction q with
    | nil => exact .nil
    | cons y t _ ih => exact .cons (L2.mixKind_str prog w y t) ih
  exact go hx
theorem nr_cmp {vs : List Value} {k : Value → Int × List Str} (room : A.units < cLine) (hp : ∀ v ∈ vs, IsNR s.heap v (k v)) : SrtO.Cmp prog w A s (tuples' true) (fun p => p.1 ∈ vs) (SrtO.lt2 fun v u => numRow (k v) (k u)) := by
  intro p q m1 m2
  have h1 := hp _ m1
  have h2 := hp _ m2
  show wpAny (model prog w) A (keyLt' (tuples' true) p.1 q.1) (fun r t => t = s ∧ r = numRow (k p.1) (k q.1)) (fun _ _ => False) s
  generalize k p.1 = kp at h1 ⊢
  generalize k q.1 = kq at h2 ⊢
  obtain ⟨i, xs⟩ := kp
  obtain ⟨j, ys⟩ := kq
  obtain ⟨a, b, t, us, ep, ⟨o, g1, g2, n, g3⟩, tb, rs⟩ := h1
  obtain ⟨a', b', t', us', eq, ⟨o', g1', g2', n', g3'⟩, tb', rs'⟩ := h2
  rw [ep, eq]
  refine PySem.W.kat_lt g1 g3 g1' g3' ?_
  show PySem.W.KatLex prog w A true (decide (2 < 2)) _ [(.int i t, .int j t'), (.ref b, .ref b')] 0 s
  refine PySem.W.kat_cons (SeqAt.EqAt.int_int i t j t' prog w _ _ ?_)
  refine PySem.W.kat_go (fun e1 => ?_) (fun e1 => ?_)
  · have ei : i = j := by simpa using e1
    refine PySem.W.kat_yes (PySem.W.kat_cons (wpAny_eqBool_tuple (knd := L2.mixKind prog w) room (key_row tb rs) (key_row tb' rs') ?_))
    have val : numRow (i, xs) (j, ys) = lexS xs ys := by unfold numRow; exact if_pos ei
    refine PySem.W.kat_go (fun e2 => ?_) (fun e2 => ?_)
    · have e3 : xs = ys := (List.map_inj_right (fun _ _ z => Sum.inr.inj z)).mp (of_decide_eq_true e2)
      exact PySem.W.kat_yes (PySem.W.kat_nil ⟨rfl, by rw [val, e3, lexS_self]; rfl⟩)
    · refine PySem.W.kat_no (PySem.W.kat_one _ _ (less_tupS tb tb' rs rs' room ?_))
      exact (show s = s ∧ lexS xs ys = numRow (i, xs) (j, ys) from ⟨rfl, val.symm⟩)
  · have ei : ¬ i = j := by simpa using e1
    have val : numRow (i, xs) (j, ys) = decide (i < j) := by unfold numRow; exact if_neg ei
    exact PySem.W.kat_no (oneLt_int ⟨rfl, val.symm⟩)
theorem nr_firsts {h : Heap} {k : Value → Int × List Str} : ∀ {vs : List Value}, (∀ v ∈ vs, IsNR h v (k v)) → ∃ fs : List Value, PySem.W.KatTups h vs fs ∧ fs.length = vs.length ∧ ∀ f ∈ fs, ∃ i t, f = Value.int i t
  | [], _ => ⟨[], PySem.W.KatTups.nil, rfl, fun _ z => nomatch z⟩
  | v :: vs, hp => by
    obtain ⟨fs, g1, g2, g3⟩ := nr_firsts (vs := vs) fun u hu => hp u (List.mem_cons_of_mem _ hu)
    obtain ⟨a, b, t, us, rfl, ⟨o, h1, h2, n, h3⟩, _⟩ := hp v List.mem_cons_self
    refine ⟨.int (k (.ref a)).1 t :: fs, PySem.W.KatTups.cons h1 h2 h3 rfl g1, congrArg (· + 1) g2, fun f hf => ?_⟩
    rcases List.mem_cons.mp hf with rfl | hf
    · exact ⟨_, t, rfl⟩
    · exact g3 f hf
theorem nr_sortable {a : Addr} {vs : List Value} {k : Value → Int × List Str} (room : A.units < cLine) (h0 : 0 < vs.length) (hp : ∀ v ∈ vs, IsNR s.heap v (k v)) (ha : ∀ o, s.heap.get? a = some o → o.cls ≠ .type "tuple") : SrtO.SortableO prog w A s a vs fun v u => numRow (k v) (k u) := by
  intro h' keep
  have hp' : ∀ v ∈ vs, IsNR h' v (k v) := fun v hv => (hp v hv).on fun b o e c => keep b o (fun z => by subst z; exact ha o e c) e
  obtain ⟨fs, g1, g2, g3⟩ := nr_firsts hp'
  refine ⟨tuples' true, fun Q E hq => ?_, nr_cmp (s := { s with heap := h' }) room hp'⟩
  refine PySem.W.kat_kind (T := .type "int") g1 (by omega) (fun f hf => ?_) (by rfl) ?_
  · obtain ⟨i, t, rfl⟩ := g3 f hf
    exact PySem.W.Looks.now
  · rw [show (Value.type "int" != Value.type "tuple") = true by first | decide +kernel | rfl]
    exact hq
end
end Rw
namespace L2
open PySem PySem.Spec PyProof.Rows
/-- sorted(xs), xs a list of tuples of a number and a tuple of texts: a new list, in order -/
def rSortNR (K : PySem.W.Frag) : List V → Hp → VK → Prop := fun vs H Q => ∃ (a : Addr) (xs : List V) (k : V → Int × List Str), vs = [V.ref a] ∧ SqL K H a xs ∧ (∀ x ∈ xs, ∃ t b, x = V.ref t ∧ H t = some (.tup [.int (k x).1, .ref b]) ∧ H b = some (.tup ((k x).2.map V.str))) ∧
  ∀ ys p, ys.Perm xs → SrtO.Srtd (fun x y => Rw.numRow (k x) (k y)) ys → H p = none → Q (.ref p) (upd H p (.lst ys))
theorem cr_sortNR {X : Cx} (room : X.A.units + 2 < cLine) : CallR X (.builtin "sorted") (rSortNR X.K) := by
  intro pins s σ H vs us Q I r h
  obtain ⟨a, xs, k, rfl, hs, hx, q⟩ := h
  obtain ⟨its, rv, hl, hz⟩ := I.list hs
  obtain ⟨u, rfl, ru⟩ := vals1 r
  obtain rfl : u = Value.ref a := ru
  obtain ⟨e1, e2⟩ := refs_back rv fun x m => by
    obtain ⟨t, _, e, _⟩ := hx x m
    exact ⟨t, e⟩
  have all : ∀ v ∈ its, Rw.IsNR s.heap v (k (backV v)) := fun v hv => by
    obtain ⟨t, rfl⟩ := e2 v hv
    have hm : V.ref t ∈ xs := by rw [e1]; exact List.mem_map.mpr ⟨_, hv, rfl⟩
    obtain ⟨t', b, e, ht, hb⟩ := hx _ hm
    cases e
    obtain ⟨_, i2, r2, o, ho, hc, n, hd⟩ := I.hok _ _ ht
    obtain ⟨u1, u2, rfl, ri, rj⟩ := vals2 r2
    obtain ⟨t1, rfl⟩ := ri
    cases rj
    obtain ⟨_, i3, r3, o3, ho3, hc3, n3, hd3⟩ := I.hok _ _ hb
    exact ⟨t, b, t1, i3.toArray, rfl, ⟨o, ho, hc, n, hd⟩, ⟨o3, ho3, hc3, n3, hd3⟩, Vals.strs r3⟩
  refine SrtO.sorted_ord (Rw.numRow_swo fun v => k (backV v)) hl.isList (by rw [← rv.length]; exact hz) (fun h2 h1 d hd kk => ?_) fun out hs1 hb1 => ?_
  · refine Rw.nr_sortable (s := { s with heap := h1 }) (by show X.A.units + 1 + 1 < cLine; omega) (by omega) (fun v hv => (all v hv).on fun b o e _ => (kk b o e).2) fun o e => ?_
    have e' : some o = some (seqObj "list" its.toArray 0) := e.symm.trans hd
    cases e'
    intro c
    exact absurd (Value.type.inj c) (by decide)
  · have h3 : ∀ u ∈ out, ∃ a, u = Value.ref a := fun u hu => e2 u (hb1.perm.mem_iff.mp hu)
    have hp : (out.map backV).Perm xs := by rw [e1]; exact hb1.perm.map _
    obtain ⟨n, hn⟩ := sortedAll_at s.heap its out.toArray
    refine ⟨.ref (s.heap.objs.size + 1), upd H (s.heap.objs.size + 1) (.lst (out.map backV)), I.laid (t' := s.toks) (fun b o e => sortedAll_old e) (Nat.le_succ _) ⟨?_, out, n, vals_back h3, hn⟩, rfl, q _ _ hp (SrtO.srtd_map (f := backV) (lt := fun x y => Rw.numRow (k x) (k y)) hs1) (I.hok.fresh (Nat.le_succ _))⟩
    rw [hp.length_eq]
    exact hz
end L2
end T_S3

section T_S8
set_option Elab.async false
set_option linter.all false
set_option maxRecDepth 100000
set_option maxHeartbeats 4000000
/-! sorted of tuples of texts by a key that is a lambda: first their length, then themselves -/
namespace Rw
open PySem PySem.Spec PyProof.Rows L2 SrtO Srt
/-- while the keys are made: kl the keys so far, one for each of the first items -/
structure KeySt (X : Cx) (H : Hp) (s : Shared) (kS a : Addr) (e1 : Nat) (xs : List V) (kt : V → List V) (i : Nat) (H' : Hp) (kl : List Value) (e : Nat) (s' : Shared) : Prop where
  un : Un (frs X.stack) [] H H' s.heap s'.heap
  hok : HOk X.prog X.w H' s'.heap
  os : s'.os = s.os
  bare : AllBare s'.gens
  hk : s'.heap.get? kS = some (seqObj "list" kl.toArray e)
  nk : H' kS = none
  ha : s'.heap.get? a = some (seqObj "list" #[] e1)
  na : H' a = none
  ex : ∀ b o, H b = some o → H' b = some o
  len : kl.length = i
  keys : ∀ (j : Nat) (u : Value), kl[j]? = some u → ∃ (p : Addr) (x : V), u = Value.ref p ∧ xs[j]? = some x ∧ H' p = some (.tup (kt x))
section
variable {X : Cx} {pins : List (Addr × Obj)} {σ : L2.St} {H : Hp} {s : Shared} {kS a fa : Addr} {e1 : Nat} {xs : List V} {kt : V → List V} {fo : Obj} {its : List Value} {A : Around} {E : Value → Shared → Prop}
theorem notFrame (I : Inv X pins σ H s) {b : Addr} (h : s.heap.objs.size ≤ b) : b ∉ frs X.stack := fun z => by
  rcases List.mem_cons.mp (I.stkSub _ z) with e | e
  · have h1 := I.lt
    rw [← e] at h1
    exact Nat.lt_irrefl _ (Nat.lt_of_lt_of_le h1 h)
  · exact I.nofs h e
theorem keys_made {P : PySem.Fin → Shared → Prop} {s0 : Shared} {H0 : Hp} (I : Inv X pins σ H s) (rv : Vals xs its) (hz : its.length ≤ sizeLine) (hfa : s.heap.get? fa = some fo) (nfa : H fa = none) (ffa : fa ∉ frs X.stack)
    (hsa : s.heap.objs.size ≤ a) (hsk : s.heap.objs.size ≤ kS) (hka : kS ≠ a)
    (turn : ∀ (j : Nat) (x : V) (v : Value) (H' : Hp) (s' : Shared), xs[j]? = some x → RelV x v → Inv X pins σ H' s' → (∀ b o, H b = some o → H' b = some o) → s'.heap.get? fa = some fo → H' fa = none →
      wpAny (model X.prog X.w) A (call (.ref fa) [v]) (CE X.stack X.prog X.w H' s' (fun w H'' => ∃ p, w = .ref p ∧ H' p = none ∧ H'' = upd H' p (.tup (kt x)))) (fun _ _ => False) s')
    (e0 : Nat) (K0 : KeySt X H s kS a e1 xs kt 0 H0 [] e0 s0)
    (h : ∀ (H' : Hp) (kl : List Value) (e : Nat) (s' : Shared), KeySt X H s kS a e1 xs kt its.length H' kl e s' → wpAny (model X.prog X.w) A (ksk_end a false its.toArray e1 (.ref kS) kl.toArray) P E s') :
    wpAny (model X.prog X.w) A (ksk_rest a (.ref fa) false its.toArray e1 (.ref kS)) P E s0 := by
  have nfk := notFrame I hsk
  have nfA := notFrame I hsa
  unfold ksk_rest
  refine wpAny_bind (wpAny_rule ?_)
  first
    | rw [List.forIn_toArray]
    | (rw [← Array.forIn_toList]; simp only [List.toList_toArray])
    | rw [← Array.forIn_toList]
  refine wpAny_bind (ksk_fold (fun i s' => ∃ H' kl e, KeySt X H s kS a e1 xs kt i H' kl e s') its 0 s0 ⟨H0, [], e0, K0⟩ ?step ?done)
  case step =>
    rintro j v s' hv ⟨H', kl, e, K⟩
    simp only [Nat.zero_add] at K ⊢
    obtain ⟨x, hx, rx⟩ : ∃ x, xs[j]? = some x ∧ RelV x v := by
      have hj : j < its.length := (List.getElem?_eq_some_iff.mp hv).1
      have hjx : j < xs.length := by rw [rv.length]; exact hj
      obtain ⟨u, hu, r⟩ := Vals.get (i := j) (x := xs[j]) rv (List.getElem?_eq_getElem hjx)
      rw [hv] at hu
      cases hu
      exact ⟨_, List.getElem?_eq_getElem hjx, r⟩
    have hjl : j < its.length := (List.getElem?_eq_some_iff.mp hv).1
    have I1 : Inv X pins σ H' s' := I.call' (ch := []) K.os K.un K.hok K.bare (fun _ z => absurd z (by simp))
    have f1 : s'.heap.get? fa = some fo := K.un.keep fa fo hfa nfa ffa (by simp)
    have f2 : H' fa = none := K.un.free fa fo hfa nfa (by simp)
    refine wpAny_bind (wpAny_attempt (wpAny_mono (turn j x v H' s' hx rx I1 K.ex f1 f2) (fun u s'' he => ?_) fun _ _ hF => hF.elim))
    obtain ⟨w', H2, os2, bare2, un2, hok2, rw2, p, rfl, hp, rfl⟩ := he
    obtain rfl : u = Value.ref p := rw2
    try dsimp only
    have un12 := K.un.trans un2
    have hk2 : s''.heap.get? kS = some (seqObj "list" kl.toArray e) := un2.keep kS _ K.hk K.nk nfk (by simp)
    have nk2 : (upd H' p (.tup (kt x))) kS = none := un2.free kS _ K.hk K.nk (by simp)
    have ha2 : s''.heap.get? a = some (seqObj "list" #[] e1) := un2.keep a _ K.ha K.na nfA (by simp)
    have na2 : (upd H' p (.tup (kt x))) a = none := un2.free a _ K.ha K.na (by simp)
    have kz : kl.toArray.size ≤ its.length := by
      rw [List.size_toArray, K.len]
      omega
    have s1 := Heap.SameBut.update s''.heap kS (Obj.mapSeq (·.push (Value.ref p)))
    obtain ⟨c2, hc2⟩ : ∃ c2, (s''.heap.update kS (Obj.mapSeq (·.push (Value.ref p)))).get? kS = some (seqObj "list" (kl.toArray.push (Value.ref p)) c2) := ⟨_, get?_update_seq hk2 (·.push (Value.ref p))⟩
    have ea : kl.toArray.push (Value.ref p) = (kl ++ [Value.ref p]).toArray := by simp
    refine wpAny_bind (listUpdate_at hk2 rfl ?_ (Nat.le_trans kz hz) (Nat.le_trans (Nat.le_of_eq (Array.size_push ..)) (by omega)))
    have other : ∀ b, b ≠ kS → (s''.heap.update kS (Obj.mapSeq (·.push (Value.ref p)))).get? b = s''.heap.get? b := fun b hb => s1.2 b hb
    have old : ∀ b o, s.heap.get? b = some o → b ≠ kS := fun b o q => Nat.ne_of_lt (Nat.lt_of_lt_of_le (Heap.lt_size q) hsk)
    have trk : ∀ b o, (upd H' p (.tup (kt x))) b = some o → b ≠ kS := fun b o q z => by
      rw [z, nk2] at q
      cases q
    refine wpAny_pure ⟨rfl, upd H' p (.tup (kt x)), kl ++ [Value.ref p], c2, ?_⟩
    refine ⟨⟨fun b o q n hb hx => ?_, fun b o q n hb hx => ?_, un12.free, fun b o q hx => ?_, un12.tups, un12.frzs, un12.tbls⟩, ?_, os2.trans K.os, bare2, ?_, nk2, ?_, na2, fun b o q => ?_, ?_, fun i u hu => ?_⟩
    · exact (other b (old b o q)).trans (un12.keep b o q n hb hx)
    · obtain ⟨sl, q2⟩ := un12.slot b o q n hb hx
      exact ⟨sl, (other b (old b o q)).trans q2⟩
    · obtain ⟨o', q2⟩ := un12.there b o q hx
      exact ⟨o', (other b (old b o q)).trans q2⟩
    · intro b o q
      refine (hok2 b o q).stay (fun c w2 hc q2 => (other c ?_).trans q2) (fun _ q => q) fun _ _ q => q
      rcases hc with z | z
      · rw [z]
        exact trk b o q
      · exact trk c _ z
    · rw [← ea]
      exact hc2
    · exact (other a hka.symm).trans ha2
    · have q1 := K.ex b o q
      rw [upd_ne (ne_of_none q1 hp)]
      exact q1
    · rw [List.length_append, K.len]
      rfl
    · by_cases hi : i < kl.length
      · rw [List.getElem?_append_left hi] at hu
        obtain ⟨p', x', r1, r2, r3⟩ := K.keys i u hu
        exact ⟨p', x', r1, r2, by rw [upd_ne (ne_of_none r3 hp)]; exact r3⟩
      · have hi2 : i = kl.length := by
          have := (List.getElem?_eq_some_iff.mp hu).1
          rw [List.length_append] at this
          simp only [List.length_cons, List.length_nil] at this
          omega
        subst hi2
        rw [List.getElem?_append_right (Nat.le_refl _), Nat.sub_self] at hu
        cases hu
        exact ⟨p, x, rfl, by rw [K.len]; exact hx, upd_same⟩
  case done =>
    rintro s' ⟨H', kl, e, K⟩
    simp only [Nat.zero_add] at K
    try dsimp only
    refine wpAny_bind (listItems_at K.hk rfl ?_)
    exact h H' kl e s' K
end
end Rw
end T_S8

section T_S9
set_option Elab.async false
set_option linter.all false
set_option maxRecDepth 100000
set_option maxHeartbeats 4000000
namespace Rw
open PySem PySem.Spec PyProof.Rows L2 SrtO Srt
/-- what a key tells: its number, its row -/
def unS : List V → List Str
  | [] => []
  | .str z :: r => z :: unS r
  | _ :: r => unS r
theorem unS_strs : ∀ zs : List Str, unS (zs.map V.str) = zs
  | [] => rfl
  | z :: zs => congrArg (List.cons z) (unS_strs zs)
def keyOf (H : Hp) (v : Value) : Int × List Str :=
  match v with
  | .ref p => match H p with
    | some (.tup [.int n, .ref b]) => match H b with
      | some (.tup vs) => (n, unS vs)
      | _ => (n, [])
    | _ => (0, [])
  | _ => (0, [])
theorem keyOf_at {H : Hp} {p b : Addr} {n : Int} {zs : List Str} (h1 : H p = some (.tup [.int n, .ref b])) (h2 : H b = some (.tup (zs.map V.str))) : keyOf H (.ref p) = (n, zs) := by
  unfold keyOf
  simp only [h1, h2, unS_strs]
section
variable {X : Cx} {pins : List (Addr × Obj)} {σ : L2.St} {H : Hp} {s : Shared} {kS a : Addr} {e1 : Nat} {xs : List V} {its : List Value} {A : Around} {E : Value → Shared → Prop} {k : V → List Str}
abbrev ktOf (k : V → List Str) (x : V) : List V := [.int ((k x).length : Int), x]
abbrev lenRow (k : V → List Str) (x : V) : Int × List Str := (((k x).length : Int), k x)
theorem key_nr {P : Program} {w : World} {H' : Hp} {h : Heap} (hok : HOk P w H' h) {p b : Addr} {n : Int} {zs : List Str} (h1 : H' p = some (.tup [.int n, .ref b])) (h2 : H' b = some (.tup (zs.map V.str))) : IsNR h (.ref p) (n, zs) := by
  obtain ⟨_, i2, r2, o, ho, hc, m, hd⟩ := hok _ _ h1
  obtain ⟨u1, u2, rfl, ri, rj⟩ := vals2 r2
  obtain ⟨t1, rfl⟩ := ri
  cases rj
  obtain ⟨_, i3, r3, o3, ho3, hc3, n3, hd3⟩ := hok _ _ h2
  exact ⟨p, b, t1, i3.toArray, rfl, ⟨o, ho, hc, m, hd⟩, ⟨o3, ho3, hc3, n3, hd3⟩, Vals.strs r3⟩
/-- each pair of a key and an item -/
theorem pair_key {H' : Hp} {kl : List Value} {e : Nat} {s' : Shared} (K : KeySt X H s kS a e1 xs (ktOf k) its.length H' kl e s') (rv : Vals xs its) (hx : ∀ x ∈ xs, ∃ b, x = V.ref b ∧ H b = some (.tup ((k x).map V.str))) {q : Keyed} (hq : q ∈ kl.zip its) :
    ∃ x ∈ xs, RelV x q.2 ∧ keyOf H' q.1 = lenRow k x ∧ IsNR s'.heap q.1 (lenRow k x) := by
  obtain ⟨j, hj, ej⟩ := List.getElem_of_mem hq
  rw [List.getElem_zip] at ej
  rw [List.length_zip] at hj
  have h1 : kl[j]? = some q.1 := by rw [List.getElem?_eq_getElem (by omega)]; exact congrArg some (congrArg Prod.fst ej)
  have h2 : its[j]? = some q.2 := by rw [List.getElem?_eq_getElem (by omega)]; exact congrArg some (congrArg Prod.snd ej)
  obtain ⟨p, x, ep, ex, hp⟩ := K.keys j _ h1
  have hm := List.mem_of_getElem? ex
  obtain ⟨b, rfl, hb⟩ := hx x hm
  obtain ⟨u, hu, ru⟩ := Vals.get rv ex
  rw [h2] at hu
  cases hu
  have hb' := K.ex _ _ hb
  rw [ep]
  exact ⟨.ref b, hm, ru, keyOf_at hp hb', key_nr K.hok hp hb'⟩
theorem nr_any {vs : List Value} {prog : Program} {w : World} {B : Around} {s1 : Shared} {kk : Value → Int × List Str} (room : B.units < cLine) (hp : ∀ v ∈ vs, IsNR s1.heap v (kk v)) {P : Keyed → Prop} (hP : ∀ p, P p → p.1 ∈ vs) :
    Cmp prog w B s1 (tuples' true) P (lt2 fun v u => numRow (kk v) (kk u)) := fun p q m1 m2 => nr_cmp (A := B) room hp p q (hP p m1) (hP q m2)
theorem keyed_end {P : PySem.Fin → Shared → Prop} {H' : Hp} {kl : List Value} {e : Nat} {s' : Shared} (K : KeySt X H s kS a e1 xs (ktOf k) its.length H' kl e s') (rv : Vals xs its) (hz : its.length ≤ sizeLine) (hka : kS ≠ a) (room : A.units < cLine)
    (hx : ∀ x ∈ xs, ∃ b, x = V.ref b ∧ H b = some (.tup ((k x).map V.str)))
    (h : ∀ ps : List Keyed, ps.Perm (kl.zip its) → Srtd (lt2 fun v u => numRow (keyOf H' v) (keyOf H' u)) ps →
      P (.done (.ret .none)) { s' with heap := (s'.heap.update kS (Obj.mapSeq fun _ => (#[] : Array Value))).update a (Obj.mapSeq fun _ => (ps.map (·.2)).toArray) }) :
    wpAny (model X.prog X.w) A (ksk_end a false its.toArray e1 (.ref kS) kl.toArray) P E s' := by
  have hzl : kl.length = its.length := K.len
  have hzs : (kl.toArray.zip its.toArray).size = its.length := by rw [Array.size_zip, List.size_toArray, List.size_toArray, hzl, Nat.min_self]
  have ez : (kl.toArray.zip its.toArray).toList = kl.zip its := by rw [ksk_zip]
  have allNR : ∀ v ∈ kl, IsNR s'.heap v (keyOf H' v) := fun v hv => by
    obtain ⟨j, hj, ej⟩ := List.getElem_of_mem hv
    have hm : (v, its[j]'(by omega)) ∈ kl.zip its := by
      have : (kl.zip its)[j]'(by rw [List.length_zip]; omega) = (v, its[j]'(by omega)) := by rw [List.getElem_zip, ej]
      rw [← this]
      exact List.getElem_mem _
    obtain ⟨x, _, _, e2, e3⟩ := pair_key K rv hx hm
    rw [e2]
    exact e3
  have tail : ∀ st : SortSt, (arrOf st).toList.Perm (kl.zip its) → Srtd (lt2 fun v u => numRow (keyOf H' v) (keyOf H' u)) (arrOf st).toList → failedOf st = none →
      wpAny (model X.prog X.w) A (ksk_tail a false e1 (.ref kS) st) P E s' := fun st hp hs hf => by
    have na1 : (s'.heap.update kS (Obj.mapSeq fun _ => (#[] : Array Value))).get? a = some (seqObj "list" #[] e1) := ((Heap.SameBut.update s'.heap kS (Obj.mapSeq fun _ => (#[] : Array Value))).2 a hka.symm).trans K.ha
    have hsz2 : (arrOf st).size = its.length := by
      have := hp.length_eq
      rw [Array.length_toList, List.length_zip, hzl, Nat.min_self] at this
      exact this
    have eo : (if false = true then ((arrOf st).map (·.2)).reverse else (arrOf st).map (·.2)) = (((arrOf st).toList).map (·.2)).toArray := by
      rw [if_neg (by decide)]
      apply Array.ext'
      rw [Array.toList_map]
    unfold ksk_tail
    try dsimp only
    refine wpAny_bind (listUpdate_at K.hk rfl ?_ (by rw [List.size_toArray, hzl]; exact hz) (Nat.zero_le _))
    refine wpAny_bind (wpAny_letGo ?_)
    refine wpAny_bind (seqEpoch_at na1 rfl ?_)
    rw [eo]
    refine wpAny_bind (listUpdate_at na1 rfl ?_ (Nat.zero_le _) (by rw [List.size_toArray, List.length_map, Array.length_toList, hsz2]; omega))
    rw [hf]
    simp only [bne_self_eq_false, Bool.false_eq_true, if_false]
    exact wpAny_pure (h _ hp hs)
  unfold ksk_end
  try dsimp only
  rw [if_neg (show ¬ (false = true) by decide), if_neg (show ¬ (false = true) by decide)]
  by_cases h2 : its.toArray.size < 2
  · rw [if_pos h2, if_pos h2]
    refine wpAny_bind (wpAny_pure ?_)
    rw [StateT.run_pure]
    refine wpAny_bind (wpAny_pure ?_)
    try dsimp only
    refine tail (SortSt.mk' general' (kl.toArray.zip its.toArray) #[] 7 none) (by show ((kl.toArray.zip its.toArray).toList).Perm _; rw [ez]) ?_ rfl
    show Srtd _ (kl.toArray.zip its.toArray).toList
    have hl : (kl.toArray.zip its.toArray).toList.length < 2 := by
      rw [Array.length_toList, hzs]
      rw [List.size_toArray] at h2
      exact h2
    generalize (kl.toArray.zip its.toArray).toList = L at hl
    match L, hl with
    | [], _ => exact List.Pairwise.nil
    | [v], _ => exact List.pairwise_singleton _ _
  · rw [if_neg h2, if_neg h2]
    rw [List.size_toArray] at h2
    obtain ⟨fs, g1, g2, g3⟩ := nr_firsts (h := s'.heap) allNR
    have hkind : ∀ (Q : SortKind → Shared → Prop) (E : Value → Shared → Prop), Q (tuples' true) s' → wpAny (model X.prog X.w) A (keyKind' kl.toArray) Q E s' := fun Q E hq => by
      refine PySem.W.kat_kind (T := .type "int") g1 (by omega) (fun f hf => ?_) (by rfl) ?_
      · obtain ⟨i, t, rfl⟩ := g3 f hf
        exact PySem.W.Looks.now
      · rw [show (Value.type "int" != Value.type "tuple") = true by first | decide +kernel | rfl]
        exact hq
    refine wpAny_bind (hkind _ _ ?_)
    have hall : AllL (fun p : Keyed => p.1 ∈ kl) (kl.toArray.zip its.toArray).toList := fun p hm => by
      rw [ez] at hm
      obtain ⟨p1, p2⟩ := p
      exact (List.of_mem_zip hm).1
    refine wpAny_bind (wpAny_mono (wpS_sortO (st0 := SortSt.mk' (tuples' true) (kl.toArray.zip its.toArray) #[] 7 none)
      (Q := fun _ st' => Srtd (lt2 fun v u => numRow (keyOf H' v) (keyOf H' u)) (arrOf st').toList ∧ Stb (lt2 fun v u => numRow (keyOf H' v) (keyOf H' u)) (arrOf st').toList (kl.toArray.zip its.toArray).toList ∧ failedOf st' = none) (swo2 (numRow_swo fun v => keyOf H' v))
      (nr_any room allNR fun p hp => hp) rfl hall rfl rfl fun st' a1 a2 a3 => ⟨a1, a2, a3⟩) ?_ fun _ _ e => e)
    rintro ⟨⟨⟩, st'⟩ s2 ⟨rfl, hp1, hp2, hf⟩
    try dsimp only
    have hp3 := hp2.perm
    rw [ez] at hp3
    exact tail st' hp3 hp1 hf
end
end Rw
end T_S9

section T_SA
set_option Elab.async false
set_option linter.all false
set_option maxRecDepth 100000
set_option maxHeartbeats 4000000
namespace Rw
open PySem PySem.Spec PyProof.Rows L2 SrtO Srt
section
variable {X : Cx} {pins : List (Addr × Obj)} {σ : L2.St} {H : Hp} {s : Shared} {fa l : Addr} {xs : List V} {fo : Obj} {k : V → List Str} {E : Value → Shared → Prop}
/-- the keyed pairs, sorted, tell the items sorted -/
theorem items_srtd {H' : Hp} {its : List Value} {kl : List Value} {kS a : Addr} {e1 e : Nat} {s' : Shared} (K : KeySt X H s kS a e1 xs (ktOf k) its.length H' kl e s') (rv : Vals xs its) (hx : ∀ x ∈ xs, ∃ b, x = V.ref b ∧ H b = some (.tup ((k x).map V.str)))
    {ps : List Keyed} (hp : ps.Perm (kl.zip its)) (hs : Srtd (lt2 fun v u => numRow (keyOf H' v) (keyOf H' u)) ps) :
    Srtd (fun x y => numRow (lenRow k x) (lenRow k y)) (ps.map fun p => backV p.2) ∧ (ps.map fun p => backV p.2).Perm xs ∧ ∀ u ∈ ps.map (·.2), ∃ b, u = Value.ref b := by
  obtain ⟨e1', e2'⟩ := refs_back rv fun x m => by
    obtain ⟨b, e, _⟩ := hx x m
    exact ⟨b, e⟩
  have hzl : kl.length = its.length := K.len
  have hm : (kl.zip its).map (·.2) = its := List.map_snd_zip (by omega)
  have hback : ∀ p ∈ ps, keyOf H' p.1 = lenRow k (backV p.2) := fun p hm2 => by
    obtain ⟨x, hxm, rx, e3, _⟩ := pair_key K rv hx (hp.mem_iff.mp hm2)
    obtain ⟨b, rfl, _⟩ := hx x hxm
    have e4 : p.2 = Value.ref b := rx
    rw [e3, e4]
    rfl
  refine ⟨?_, ?_, fun u hu => ?_⟩
  · show List.Pairwise _ _
    rw [List.pairwise_map]
    refine List.Pairwise.imp_of_mem ?_ hs
    intro p q hp1 hq1 hlt
    show numRow (lenRow k (backV q.2)) (lenRow k (backV p.2)) = false
    rw [← hback p hp1, ← hback q hq1]
    exact hlt
  · have h1 := hp.map (fun p : Keyed => backV p.2)
    have h2 : (kl.zip its).map (fun p : Keyed => backV p.2) = ((kl.zip its).map (·.2)).map backV := by rw [List.map_map]; rfl
    rw [h2, hm, ← e1'] at h1
    exact h1
  · obtain ⟨p, hp1, rfl⟩ := List.mem_map.mp hu
    have := (List.of_mem_zip (show (p.1, p.2) ∈ kl.zip its from hp.mem_iff.mp hp1)).2
    exact e2' _ this
/-- sorted(l, key=f), f an object that makes for each item the pair of its length and itself -/
theorem sorted_key {Q : VK} (I : Inv X pins σ H s) (hs : SqL X.K H l xs) (hx : ∀ x ∈ xs, ∃ b, x = V.ref b ∧ H b = some (.tup ((k x).map V.str))) (hfa : s.heap.get? fa = some fo) (nfa : H fa = none) (ffa : fa ∉ frs X.stack) (room : X.A.units + 2 < cLine)
    (turn : ∀ (j : Nat) (x : V) (v : Value) (H' : Hp) (s' : Shared), xs[j]? = some x → RelV x v → Inv X pins σ H' s' → (∀ b o, H b = some o → H' b = some o) → s'.heap.get? fa = some fo → H' fa = none →
      wpAny (model X.prog X.w) X.A.in1.in1 (call (.ref fa) [v]) (CE X.stack X.prog X.w H' s' (fun w H'' => ∃ p, w = .ref p ∧ H' p = none ∧ H'' = upd H' p (.tup (ktOf k x)))) (fun _ _ => False) s')
    (q : ∀ (ys : List V) (p : Addr) (H' : Hp), ys.Perm xs → Srtd (fun x y => numRow (lenRow k x) (lenRow k y)) ys → (∀ b o, H b = some o → H' b = some o) → H p = none → H' p = some (.lst ys) → Q (.ref p) H') :
    wpAny (model X.prog X.w) X.A (call (.builtin "sorted") [.ref l] [(Str.ofString "key", .ref fa)]) (EP X pins σ Q) X.xe s := by
  obtain ⟨its, rv, hl0, hz⟩ := I.list hs
  have hl := hl0.isList
  have hzi : its.length ≤ sizeLine := by rw [← rv.length]; exact hz
  refine call_function_entry_kw kind_sorted plain_sorted entry_sorted (ksk_s1 _ _) ?_
  unfold Builtin.«sorted»
  refine wpAny_bind (m := checkCount "sorted" 1 1 _) (wpAny_pure ?_)
  refine wpAny_bind (collect_list hl ?_ hzi)
  refine wpAny_bind (wpAny_newList ?_ hzi)
  have hsz : ((s.heap.push (seqObj "list" #[] 0)).update s.heap.objs.size (Obj.mapSeq (· ++ its.toArray))).objs.size = s.heap.objs.size + 1 := by
    rw [Heap.size_update, size_push']
  have hoL : (((s.heap.push (seqObj "list" #[] 0)).update s.heap.objs.size (Obj.mapSeq (· ++ its.toArray))).push (seqObj "list" its.toArray 0)).get? (s.heap.objs.size + 1) = some (seqObj "list" its.toArray 0) := by
    rw [← hsz]; exact Heap.get?_push_size _ rfl
  have keep : ∀ b o, s.heap.get? b = some o → (((s.heap.push (seqObj "list" #[] 0)).update s.heap.objs.size (Obj.mapSeq (· ++ its.toArray))).push (seqObj "list" its.toArray 0)).get? b = some o := fun b o q => by
    have hlt : b < s.heap.objs.size := Heap.lt_size q
    rw [Heap.get?_push_ne _ _ _ (by rw [hsz]; exact Nat.ne_of_lt (Nat.lt_succ_of_lt hlt)), Heap.get?_update_ne _ _ _ _ (Nat.ne_of_lt hlt), Heap.get?_push_ne _ _ _ (Nat.ne_of_lt hlt)]
    exact q
  show wpAny _ _ _ _ _ { s with heap := ((s.heap.push (seqObj "list" #[] 0)).update s.heap.objs.size (Obj.mapSeq (· ++ its.toArray))).push (seqObj "list" its.toArray 0) }
  rw [hsz]
  have hsz2 : (((s.heap.push (seqObj "list" #[] 0)).update s.heap.objs.size (Obj.mapSeq (· ++ its.toArray))).push (seqObj "list" its.toArray 0)).objs.size = s.heap.objs.size + 2 := by
    rw [size_push', hsz]
  generalize hG : ((s.heap.push (seqObj "list" #[] 0)).update s.heap.objs.size (Obj.mapSeq (· ++ its.toArray))).push (seqObj "list" its.toArray 0) = G at hoL keep hsz2 ⊢
  generalize ha : s.heap.objs.size + 1 = a at hoL ⊢
  refine wpAny_bind (wpAny_holding (wpAny_call_entry_kw slot_list_sort ⟨_, hoL, rfl⟩ entry_list_sort ?body (ksk_l1 _ _)))
  case body =>
    show wpAny (model X.prog X.w) X.A.in1.in1 (Builtin.«list.sort» ⟨[.ref a], [(Str.ofString "key", .ref fa)]⟩) _ _ _
    rw [ksk_t1]
    have haG : a < G.objs.size := Heap.lt_size hoL
    have s1 := Heap.SameBut.update G a (Obj.mapSeq fun _ => (#[] : Array Value))
    obtain ⟨e1, ho1⟩ : ∃ e1, (G.update a (Obj.mapSeq fun _ => (#[] : Array Value))).get? a = some (seqObj "list" #[] e1) := ⟨_, get?_update_seq hoL fun _ => #[]⟩
    have hkS : ((G.update a (Obj.mapSeq fun _ => (#[] : Array Value))).push (seqObj "tuple" its.toArray 0)).objs.size = s.heap.objs.size + 3 := by rw [size_push', Heap.size_update, hsz2]
    unfold ksk_tree
    refine wpAny_bind (listItems_at hoL rfl ?_)
    refine wpAny_bind (listUpdate_at hoL rfl ?_ (by rw [List.size_toArray]; exact hzi) (Nat.zero_le _))
    refine wpAny_bind (seqEpoch_at ho1 rfl ?_)
    refine wpAny_bind (wpAny_newTuple ?_ (by show its.length ≤ _; exact hzi))
    refine wpAny_bind (wpAny_newList ?_ (Nat.zero_le _))
    refine wpAny_holding ?_
    have hka : s.heap.objs.size + 3 ≠ a := by omega
    show wpAny _ _ _ _ _ { s with heap := ((G.update a (Obj.mapSeq fun _ => (#[] : Array Value))).push (seqObj "tuple" its.toArray 0)).push (seqObj "list" #[] 0) }
    rw [hkS]
    have old : ∀ b o, s.heap.get? b = some o → (((G.update a (Obj.mapSeq fun _ => (#[] : Array Value))).push (seqObj "tuple" its.toArray 0)).push (seqObj "list" #[] 0)).get? b = some o := fun b o e =>
      Heap.get?_push_of_some _ (Heap.get?_push_of_some _ ((s1.2 b (Nat.ne_of_lt (Nat.lt_of_lt_of_le (Heap.lt_size e) (by rw [← ha]; exact Nat.le_succ _)))).trans (keep b o e)))
    refine keys_made (X := X) (H := H) (s := s) (kS := s.heap.objs.size + 3) (a := a) (e1 := e1) (xs := xs) (kt := ktOf k) (H0 := H) I rv hzi hfa nfa ffa (by omega) (by omega) hka turn 0 ?_ ?_
    · refine ⟨Un.kept old, I.hok.kept old, rfl, I.bare, ?_, I.hok.fresh (by omega), ?_, I.hok.fresh (by omega), fun _ _ e => e, rfl, fun j u hu => absurd hu (by simp)⟩
      · rw [← hkS]
        exact Heap.get?_push_size _ rfl
      · exact Heap.get?_push_of_some _ (Heap.get?_push_of_some _ ho1)
    · intro H' kl e s' K
      refine keyed_end K rv hzi hka (by show X.A.units + 1 + 1 < cLine; omega) hx fun ps hp hsr => ?_
      obtain ⟨f1, f2, f3⟩ := items_srtd K rv hx hp hsr
      refine ⟨_, rfl, wpAny_pure ?_⟩
      -- the end: the new list is tracked
      have t1 := Heap.SameBut.update s'.heap (s.heap.objs.size + 3) (Obj.mapSeq fun _ => (#[] : Array Value))
      have na1 : (s'.heap.update (s.heap.objs.size + 3) (Obj.mapSeq fun _ => (#[] : Array Value))).get? a = some (seqObj "list" #[] e1) := (t1.2 a hka.symm).trans K.ha
      have t2 := Heap.SameBut.update (s'.heap.update (s.heap.objs.size + 3) (Obj.mapSeq fun _ => (#[] : Array Value))) a (Obj.mapSeq fun _ => (ps.map (·.2)).toArray)
      obtain ⟨c2, hc2⟩ : ∃ c2, ((s'.heap.update (s.heap.objs.size + 3) (Obj.mapSeq fun _ => (#[] : Array Value))).update a (Obj.mapSeq fun _ => (ps.map (·.2)).toArray)).get? a = some (seqObj "list" (ps.map (·.2)).toArray c2) :=
        ⟨_, get?_update_seq na1 fun _ => (ps.map (·.2)).toArray⟩
      generalize hF : ((s'.heap.update (s.heap.objs.size + 3) (Obj.mapSeq fun _ => (#[] : Array Value))).update a (Obj.mapSeq fun _ => (ps.map (·.2)).toArray)) = F at t2 hc2 ⊢
      have other : ∀ b, b ≠ a → b ≠ s.heap.objs.size + 3 → F.get? b = s'.heap.get? b := fun b h1 h2 => (t2.2 b h1).trans (t1.2 b h2)
      have sm : ∀ b o, s.heap.get? b = some o → b ≠ a ∧ b ≠ s.heap.objs.size + 3 := fun b o e =>
        ⟨Nat.ne_of_lt (Nat.lt_of_lt_of_le (Heap.lt_size e) (by rw [← ha]; exact Nat.le_succ _)), Nat.ne_of_lt (Nat.lt_of_lt_of_le (Heap.lt_size e) (Nat.le_add_right _ 3))⟩
      have trk : ∀ b o, H' b = some o → b ≠ a ∧ b ≠ s.heap.objs.size + 3 := fun b o e => ⟨(fun z => by rw [z, K.na] at e; cases e), (fun z => by rw [z, K.nk] at e; cases e)⟩
      have un : Un (frs X.stack) [] H (upd H' a (.lst (ps.map fun p => backV p.2))) s.heap F := {
        keep := fun b o q n hb hx' => (other b (sm b o q).1 (sm b o q).2).trans (K.un.keep b o q n hb hx')
        slot := fun b o q n hb hx' => by
          obtain ⟨sl, q2⟩ := K.un.slot b o q n hb hx'
          exact ⟨sl, (other b (sm b o q).1 (sm b o q).2).trans q2⟩
        free := fun b o q n hx' => by rw [upd_ne (sm b o q).1]; exact K.un.free b o q n hx'
        there := fun b o q hx' => by
          obtain ⟨o', q2⟩ := K.un.there b o q hx'
          exact ⟨o', (other b (sm b o q).1 (sm b o q).2).trans q2⟩
        tups := fun b ys q => by
          have q2 := K.un.tups b ys q
          rw [upd_ne (trk b _ q2).1]
          exact q2
        frzs := fun b o u q => by
          have q2 := K.un.frzs b o u q
          rw [upd_ne (trk b _ q2).1]
          exact q2
        tbls := fun b ts q => by
          obtain ⟨more, q2⟩ := K.un.tbls b ts q
          exact ⟨more, by rw [upd_ne (trk b _ q2).1]; exact q2⟩ }
      have hlen : (ps.map fun p => backV p.2).length ≤ sizeLine := by rw [f2.length_eq]; exact hz
      have vb : Vals (ps.map fun p => backV p.2) (ps.map (·.2)) := by
        have := vals_back f3
        rw [List.map_map] at this
        exact this
      have hok : HOk X.prog X.w (upd H' a (.lst (ps.map fun p => backV p.2))) F := fun b o e' => by
        by_cases hb : b = a
        · subst hb
          rw [upd_same] at e'
          cases e'
          exact ⟨hlen, _, c2, vb, hc2⟩
        · rw [upd_ne hb] at e'
          refine (K.hok b o e').stay (fun c w2 hc q2 => ?_) (fun c q2 => by rw [upd_ne (trk c _ q2).1]; exact q2) fun c zs q2 => by rw [upd_ne (trk c _ q2).1]; exact q2
          rcases hc with z | z
          · rw [z]
            exact (other b (trk b o e').1 (trk b o e').2).trans (by rw [← z]; exact q2)
          · exact (other c (trk c _ z).1 (trk c _ z).2).trans q2
      have J : Inv X pins σ (upd H' a (.lst (ps.map fun p => backV p.2))) { s' with heap := F } := I.call' (s' := { s' with heap := F }) (ch := []) K.os un hok K.bare (fun b z => absurd z (by simp))
      refine ⟨_, rfl, .ref a, _, J, rfl, q _ a _ f2 f1 (fun b o e' => ?_) (I.hok.fresh (by omega)) upd_same⟩
      have e2 := K.ex b o e'
      rw [upd_ne (trk b o e2).1]
      exact e2
end
end Rw
end T_SA

section T_SB
set_option Elab.async false
set_option linter.all false
set_option maxRecDepth 100000
set_option maxHeartbeats 4000000
namespace Rw
open PySem PySem.Spec PyProof.Rows L2 SrtO LamX
/-- the context of a lambda's body with one parameter, entered at s from the frames outer -/
def lam1Cx (X : Cx) (A : Around) (outer : List Env) (s : Shared) (H : Hp) (scope : Scope) (f c' : Addr) (n : Str) : Cx where
  prog := X.prog
  w := X.w
  K := X.K
  mg := X.mg
  base := X.base
  A := A.deeper (lamEnv X scope s.heap.objs.size f c')
  N := [n]
  s_0 := s
  H_0 := H
  env := lamEnv X scope s.heap.objs.size f c'
  outer := outer
  stack := lamEnv X scope s.heap.objs.size f c' :: outer
  ex := []
  fn := fun _ => false
  calm := true
  pn := []
  xe := fun e s' => wpAny (model X.prog X.w) (A.deeper (lamEnv X scope s.heap.objs.size f c')) (leaving (lamEnv X scope s.heap.objs.size f c') e) (fun _ _ => False) (fun _ _ => False) s'
/-- no name of the lambda is a cell or captured -/
structure Lam1S (scope : Scope) (n : Str) : Prop where
  kind : scope.kind = .function
  co : scope.isCoroutine = false
  gen : scope.isGenerator = false
  own : ∀ y ∈ scope.names, y.2 ≠ .cell ∧ y.2 ≠ .free
  par : scope.names.lookup n = some .local
theorem clo_nil {cells : List (Str × Addr)} : ∀ {l : List (Str × NameKind)}, (∀ y ∈ l, y.2 ≠ .cell ∧ y.2 ≠ .free) → ∀ {y c}, (cloFrom cells l []).lookup y = some c → False := fun {l} h {y c} e => by
  rcases cloFrom_mem (PySem.mem_of_lookup e) with hm | ⟨h1, _⟩
  · cases hm
  · exact (h _ h1).2 rfl
section
variable {X : Cx} {H : Hp} {s1 : Shared}
theorem lam1_start {A : Around} {outer : List Env} {scope : Scope} {n : Str} {f c' : Addr} {h₁ : Heap} {tk : Nat} {x : V} {v : Value} (L : Lam1S scope n) (e0 : Env0 X.prog X.w X.K X.mg X.base A outer s1 H) (hd : A.handled = none) (rx : RelV x v)
    (hns : h₁.Ns s1.heap.objs.size fun y => ([(n, v)] : List (Str × Value)).reverse.lookup y) (kp : ∀ b o, s1.heap.get? b = some o → h₁.get? b = some o) :
    Inv (lam1Cx X A outer s1 H scope f c' n) [] [some x] H { s1 with heap := h₁, toks := tk } := by
  have noA : ∀ b : Addr, b ∉ (lam1Cx X A outer s1 H scope f c' n).ex := fun b z => absurd (show b ∈ ([] : List Addr) from z) (by simp)
  refine ⟨⟨e0.mod, L.kind, rfl, rfl, Nat.le_refl _, fun y z c e1 e2 => (clo_nil L.own e1).elim, fun y hy => ?_, fun y c z _ => ?_, fun _ => hd, Around.frames_deeper e0.frames, .inr ⟨rfl, rfl⟩, fun b z => absurd z (noA b), e0.bs, e0.bsz, fun b _ _ => noA b,
      fun b z => absurd z (noA b), e0.funs, e0.frf⟩,
    rfl, e0.bare, Un.kept kp, ⟨_, hns, fun i y v' e1 e2 e3 => ?_⟩, fun y c e => (clo_nil L.own e).elim, e0.hok.fresh (Nat.le_refl _), fun y c e => (clo_nil L.own e).elim, fun q hq => absurd (show q ∈ ([] : List (Addr × Obj)) ++ [] from hq) (by simp), e0.hok.kept kp, rfl⟩
  · have hy : scope.names.lookup y = some .cell ∨ scope.names.lookup y = some .free := hy
    rcases hy with hy | hy
    · exact absurd rfl (L.own _ (PySem.mem_of_lookup hy)).1
    · exact absurd rfl (L.own _ (PySem.mem_of_lookup hy)).2
  · have z : false = true := z
    cases z
  · have e1 : [n][i]? = some y := e1
    cases i with
    | zero =>
      cases e1
      cases e2
      exact ⟨v, rx, .inl ⟨L.par, by simp [List.lookup]⟩⟩
    | succ i => cases e1
/-- the lambda called with one value -/
theorem lam1_call {pins : List (Addr × Obj)} {σ : L2.St} {s : Shared} {A : Around} {f c' : Addr} {k : Nat} {params : Arguments} {body : Expr} {scope : Scope} {n : Str} {pm ctv : Value} {tb : TE} {x : V} {v : Value} {Q : VK} {fo : Obj}
    (I : Inv X pins σ H s) (L : Lam1S scope n) (efo : fo = PySem.W.kla_obj "<lambda>" (X.env.qual ++ "<lambda>") params body scope (cloFrom X.env.cells scope.names []) pm c' ctv) (hf : s.heap.get? f = some fo) (hc : H c' = some (CodeO c' (X.env.qual ++ "<lambda>")))
    (hbind : bindArgs (PySem.W.kla_fn "<lambda>" (X.env.qual ++ "<lambda>") params body scope (cloFrom X.env.cells scope.names []) pm (.ref c') ctv) ⟨[v], []⟩ = pure [(n, v)])
    (hA : A.frames = some X.stack) (hr : Room (k + 1) A) (rx : RelV x v)
    (hbody : ∀ (A : Around) (outer : List Env) (s : Shared) (H : Hp), Room k (A.deeper (lamEnv X scope s.heap.objs.size f c')) → PE (lam1Cx X A outer s H scope f c' n) body tb) (h : tb [some x] H Q) :
    wpAny (model X.prog X.w) A (call (.ref f) [v]) (CE X.stack X.prog X.w H s Q) (fun _ _ => False) s := by
  have e0 : Env0 X.prog X.w X.K X.mg X.base A X.stack s H := ⟨hA, I.env0.mod, I.env0.bs, I.env0.bsz, I.env0.funs, I.env0.frf, I.env0.hok, I.env0.bare⟩
  obtain ⟨⟨oc, vs, t, hoc, hdc, hvc⟩, _, _⟩ := I.hok c' _ hc
  subst efo
  have rc : codeAny (model X.prog X.w) A (.call (.ref f) ⟨[v], []⟩) (CR C8.CX0 X.stack X.prog X.w H s Q C8.E0) s := by
    refine PySem.W.kla_callFunE hr.depth hf rfl L.co L.gen rfl ⟨c', oc, vs, t, rfl, hoc, hdc, hvc⟩ ?_
    rw [hbind]
    refine wpAny_pure (wpAny_newFunctionEnv (fun y hy => (L.own y hy).1) (fun y hy => ?_) (fun h₁ hns hsb => ⟨I.nolimit.fresh _ hsb, ?_⟩) L.kind)
    · rw [List.mem_singleton.mp hy]
      exact L.par
    · show codeAny _ _ (.expr body (lamEnv X scope s.heap.objs.size f c')) _ _
      have kp : ∀ b o, s.heap.get? b = some o → h₁.get? b = some o := fun b o e => hsb.extBut b o (Nat.ne_of_lt (Heap.lt_size e)) (Heap.get?_push_of_some _ e)
      have J : Inv (lam1Cx X A X.stack s H scope f c' n) [] [some x] H { s with heap := h₁, toks := s.toks + ([(n, v)] : List (Str × Value)).length } := lam1_start L e0 hr.hd rx hns kp
      refine PySem.W.kla_codeExpr (wpAny_mono ((hbody _ _ s H (hr.deeper _)).run [] _ _ H Q J h) (fun u s' hq => ?_) fun e s' hq => ?_)
      · obtain ⟨w', H', J', rv, q⟩ := hq
        exact ⟨w', H', J'.os, J'.bare, J'.base, J'.hok, rv, q⟩
      · exact wpAny_mono hq (fun _ _ z => z.elim) fun _ _ z => z.elim
  refine wpAny_call (codeAny_mono rc fun r s' hq => ?_)
  cases r with
  | error e => exact (show False from hq).elim
  | ok fl =>
    cases fl with
    | ret u => exact hq
    | next => exact False.elim hq
    | brk => exact False.elim hq
    | cont => exact False.elim hq
/-- sorted(e, key=lambda n: body) where the body makes the pair of the item's length and itself -/
theorem pe_sortedLam {T : List (Addr × Str)} {c P : Addr} {k : Nat} {params : Arguments} {body : Expr} {scope : Scope} {n : Str} {e : Expr} {te tb : TE} {p lpos kpos pos : Pos}
    (hg : Gl X "sorted") (hm : X.mg "sorted" = none) (he : PE X e te) (TB : TabB X.base X.mg c P) (hcode : X.env.code = .ref c) (hmT : (P, X.env.qual ++ "<lambda>") ∈ T) (hu : ∀ p ∈ T, p.1 = P → p.2 = X.env.qual ++ "<lambda>") (hr : Room (k + 3) X.A) (L : Lam1S scope n)
    (hdef : defaultsOf params X.env = ([], []))
    (hbind : ∀ (q : Str) (cl : List (Str × Addr)) (pm cv ctv v : Value), bindArgs (PySem.W.kla_fn "<lambda>" q params body scope cl pm cv ctv) ⟨[v], []⟩ = pure [(n, v)])
    (hbody : ∀ (A : Around) (outer : List Env) (s : Shared) (H : Hp) (f c' : Addr), Room k (A.deeper (lamEnv X scope s.heap.objs.size f c')) → PE (lam1Cx X A outer s H scope f c' n) body tb)
    (htb : ∀ (x : V) (b : Addr) (zs : List Str) (H : Hp) (Q : VK), x = .ref b → H b = some (.tup (zs.map V.str)) → (∀ p, H p = none → Q (.ref p) (upd H p (.tup [.int (zs.length : Int), x]))) → tb [some x] H Q)
    (hstar : starEach [e] X.env = (false, eval e X.env) :: starEach [] X.env := by rfl) :
    PE X (.Call (.Name "sorted" p) [e] [⟨some "key", .Lambda params body scope lpos, kpos⟩] pos)
      (fun σ H Q => te σ H fun v H1 => ∃ (l : Addr) (xs : List V) (kf : V → List Str), v = .ref l ∧ H1 l = some (.lst xs) ∧ (∀ x ∈ xs, ∃ b, x = V.ref b ∧ H1 b = some (.tup ((kf x).map V.str))) ∧ Tabs T H1 ∧
        ∀ (ys : List V) (r : Addr) (H2 : Hp), ys.Perm xs → Srtd (fun x y => numRow (lenRow kf x) (lenRow kf y)) ys → ExtN H1 H2 → Tabs T H2 → (∀ b o, H1 b = some o → (∀ ps, o ≠ .tbl ps) → b ≠ r) → H2 r = some (.lst ys) → Q (.ref r) H2) := by
  refine ⟨fun pins s σ H Q I h => ?_⟩
  refine wpAny_Call_Name_kw (ld_blt I hg hm boot_sorted ?_ (by decide) (by decide))
  refine PyProof.Rows.callWith_kw ?_ (by rw [hstar]; rfl) (by rw [hstar]; rfl) rfl rfl
  rw [hstar]
  show wpAny _ _ (spliced ((false, eval e X.env) :: backTo pos (starEach [] X.env))) _ _ s
  refine Calls.spliced_cons (thn (he.run pins s σ H _ I h) fun u s1 ⟨v, H1, I1, r1, l, xs, kf, ev, hl, hx, hT, q⟩ => ?_)
  subst ev
  obtain rfl : u = Value.ref l := r1
  refine Calls.spliced_nil ?_
  show wpAny _ _ (evalAll ((do let v ← eval (.Lambda params body scope lpos) X.env; standAt pos; pure v) :: (backToKw pos (keywordEach [] X.env)).map (·.2))) _ _ s1
  have hfree : ∀ y ∈ scope.names, y.2 = .free → ∃ c, X.env.cells.lookup y.1 = some c := fun y hy z => absurd z (L.own y hy).2
  refine wpAny_evalAll_cons (wpAny_bind (lam_make2 I1 TB hcode hmT hu hT hdef hfree fun f c' pm ctv H2 s2 I2 eN T2 hf hfn hfr hco => wpAny_bind (wpAny_standAt (wpAny_pure ?_))))
  refine wpAny_evalAll_nil ?_
  show wpAny _ _ (call (.builtin "sorted") [.ref l] [(Str.ofString "key", .ref f)]) _ _ s2
  have up : ∀ {b : Addr} {o : HO}, H1 b = some o → (∀ ps, o ≠ .tbl ps) → H2 b = some o := fun {b o} e n => eN b o e n
  have tup_ne : ∀ (xs : List V) (ps : Array Value), HO.tup xs ≠ .tbl ps := fun _ _ z => by cases z
  have lst_ne : ∀ (xs : List V) (ps : Array Value), HO.lst xs ≠ .tbl ps := fun _ _ z => by cases z
  have hx2 : ∀ x ∈ xs, ∃ b, x = V.ref b ∧ H2 b = some (.tup ((kf x).map V.str)) := fun x hm => by
    obtain ⟨b, e1, e2⟩ := hx x hm
    exact ⟨b, e1, up e2 (tup_ne _)⟩
  refine sorted_key (k := kf) I2 (Evl.sq_of (up hl (lst_ne _))) hx2 hf hfn hfr (by have := hr.units; omega) (fun j x v H' s' hj rx I' eX hf' hfn' => ?_) (fun ys r H' hp hsr eX hn hr' => ?_)
  · obtain ⟨b, rfl, hb⟩ := hx2 x (List.mem_of_getElem? hj)
    refine lam1_call (A := X.A.in1.in1) (k := k) I' L rfl hf' (eX _ _ hco) (hbind _ _ _ _ _ _) I'.ok.frames (by exact (hr.in1).in1) rx (fun A outer s H hr2 => hbody A outer s H f c' hr2) ?_
    exact htb _ b (kf (.ref b)) H' _ rfl (eX _ _ hb) fun p hp => ⟨p, rfl, hp, rfl⟩
  · refine q ys r H' hp hsr (fun b o e n => eX b o (eN b o e n)) (T2.ext eX) (fun b o e n z => ?_) hr'
    have e2 := eN b o e n
    rw [z, hn] at e2
    cases e2
end
end Rw
end T_SB

section T_TU
set_option Elab.async false
set_option linter.all false
set_option maxRecDepth 100000
set_option maxHeartbeats 4000000
namespace Rw
open PySem L2 PyProof.Rows LamX
/-! ### the heap without the tables of code objects -/
def nt (H : Hp) : Hp := fun a => match H a with
  | some (.tbl _) => none
  | o => o
theorem nt_some {H : Hp} {a : Addr} {o : HO} (h : nt H a = some o) : H a = some o ∧ ∀ ps, o ≠ .tbl ps := by
  unfold nt at h
  cases e : H a with
  | none => rw [e] at h; cases h
  | some u =>
    rw [e] at h
    cases u with
    | tbl ps => cases h
    | _ => cases h; exact ⟨rfl, fun _ z => by cases z⟩
theorem nt_of {H : Hp} {a : Addr} {o : HO} (h : H a = some o) (n : ∀ ps, o ≠ .tbl ps) : nt H a = some o := by
  unfold nt
  rw [h]
  cases o with
  | tbl ps => exact absurd rfl (n ps)
  | _ => rfl
theorem nt_free {H : Hp} {a : Addr} (h : H a = none) : nt H a = none := by
  unfold nt
  rw [h]
theorem ex_nt (H : Hp) : Evl.Ex (nt H) H := fun a o h => (nt_some h).1
theorem nt_ex {H H' : Hp} (e : Evl.Ex H H') : Evl.Ex (nt H) (nt H') := fun a o h => nt_of (e a o (nt_some h).1) (nt_some h).2
theorem nt_ext {H H' : Hp} (e : ExtN H H') : Evl.Ex (nt H) (nt H') := fun a o h => nt_of (e a o (nt_some h).1 (nt_some h).2) (nt_some h).2
theorem nt_tup {H : Hp} {a : Addr} {xs : List V} (h : H a = some (.tup xs)) : nt H a = some (.tup xs) := nt_of h fun _ z => by cases z
theorem nt_lst {H : Hp} {a : Addr} {xs : List V} (h : H a = some (.lst xs)) : nt H a = some (.lst xs) := nt_of h fun _ z => by cases z
theorem nt_dK {H : Hp} {a : Addr} {xs : List (Key × V)} (h : H a = some (.dK xs)) : nt H a = some (.dK xs) := nt_of h fun _ z => by cases z
theorem nt_new {H : Hp} {p : Addr} {o : HO} (h : H p = none) : Evl.Ex (nt H) (nt (upd H p o)) := nt_ex (Evl.Ex.new h)
/-! ### tuples of names, by their addresses -/
def RowsT (H : Hp) (L : List (Addr × List Str)) : Prop := ∀ q ∈ L, H q.1 = some (.tup (q.2.map V.str))
theorem RowsT.to {H H' : Hp} {L : List (Addr × List Str)} (h : RowsT H L) (x : Evl.Ex H H') : RowsT H' L := fun q hq => x _ _ (h q hq)
theorem RowsT.nt {H : Hp} {L : List (Addr × List Str)} (h : RowsT H L) : RowsT (nt H) L := fun q hq => nt_tup (h q hq)
theorem RowsT.app {H : Hp} {L M : List (Addr × List Str)} (h : RowsT H L) (g : RowsT H M) : RowsT H (L ++ M) := fun q hq => (List.mem_append.mp hq).elim (h q) (g q)
theorem RowsT.mut {H : Hp} {L : List (Addr × List Str)} {p : Addr} {xs ys : List V} (h : RowsT H L) (hp : H p = some (.lst xs)) : RowsT (upd H p (.lst ys)) L := fun q hq => by
  rw [upd_ne (fun z => by have e := h q hq; rw [z, hp] at e; cases e)]
  exact h q hq
theorem rowsT_at {L : List (Addr × List Str)} {i : Nat} {x : V} (h : (L.map fun q => V.ref q.1)[i]? = some x) : ∃ q, L[i]? = some q ∧ x = .ref q.1 := by
  rw [List.getElem?_map] at h
  cases e : L[i]? with
  | none => rw [e] at h; cases h
  | some q => rw [e] at h; exact ⟨q, rfl, (Option.some.inj h).symm⟩
/-- the row that a tuple at a value tells -/
def rowAt (H : Hp) : V → List Str
  | .ref b => match H b with
    | some (.tup vs) => unS vs
    | _ => []
  | _ => []
theorem rowAt_of {H : Hp} {b : Addr} {zs : List Str} (h : H b = some (.tup (zs.map V.str))) : rowAt H (.ref b) = zs := by
  unfold rowAt
  simp only [h, unS_strs]
def addrOf : V → Addr
  | .ref a => a
  | _ => (0 : Nat)
/-- a list of such tuples in another order -/
theorem rowsT_perm {H : Hp} {L : List (Addr × List Str)} {ys : List V} (hL : RowsT H L) (hp : ys.Perm (L.map fun q => V.ref q.1)) :
    ∃ M : List (Addr × List Str), ys = M.map (fun q => V.ref q.1) ∧ RowsT H M ∧ (M.map (·.2)).Perm (L.map (·.2)) ∧ M.map (·.2) = ys.map (rowAt H) := by
  have all : ∀ y ∈ ys, ∃ q ∈ L, y = .ref q.1 := fun y hy => by
    obtain ⟨q, hq, e⟩ := List.mem_map.mp (hp.mem_iff.mp hy)
    exact ⟨q, hq, e.symm⟩
  have e2 : ys = (ys.map fun y => (addrOf y, rowAt H y)).map (fun q => V.ref q.1) := by
    rw [List.map_map]
    refine (List.map_congr_left fun y hy => ?_).trans (List.map_id ys) |>.symm
    obtain ⟨q, _, rfl⟩ := all y hy
    rfl
  have e3 : (ys.map fun y => (addrOf y, rowAt H y)).map (·.2) = ys.map (rowAt H) := by rw [List.map_map]; rfl
  refine ⟨ys.map fun y => (addrOf y, rowAt H y), e2, fun q hq => ?_, ?_, e3⟩
  · obtain ⟨y, hy, rfl⟩ := List.mem_map.mp hq
    obtain ⟨q', hq', rfl⟩ := all y hy
    have h := hL q' hq'
    show H q'.1 = some (.tup ((rowAt H (.ref q'.1)).map V.str))
    rw [rowAt_of h]
    exact h
  · rw [e3]
    have h1 := hp.map (rowAt H)
    rw [List.map_map] at h1
    have h2 : L.map (rowAt H ∘ fun q => V.ref q.1) = L.map (·.2) := List.map_congr_left fun q hq => rowAt_of (hL q hq)
    rw [h2] at h1
    exact h1
/-! ### a def whose code object is known -/
structure FunC (K : PySem.W.Frag) (x qual : Str) (st : Stmt) (f : Addr) (fd : FuncData) (c : Addr) : Prop where
  ex : ∃ (oc : Value) (od : Option Addr) (kV doc pm : Value) (an : Option Addr) (ct : Value) (osl : Array (Option Value)),
    fd = PySem.W.fnOf x qual (defArgs st) (defBody st) (defScope st) .none kV doc pm an (.ref c) ct ∧ K.lookup f = some ⟨oc, od, .func fd, osl⟩ ∧ PySem.W.codeIn K (.ref c) qual = true
  kp : PySem.W.keepIn K (.ref f) = true
section
variable {P : Program} {w : World} {K : PySem.W.Frag} {mg : Str → Option Value} {base : Heap}
theorem FunC.fn {x qual : Str} {st : Stmt} {f c : Addr} {fd : FuncData} (F : FunC K x qual st f fd c) : Fun K x qual st f fd := by
  obtain ⟨oc, od, kV, doc, pm, an, ct, osl, e, l, h⟩ := F.ex
  exact ⟨⟨oc, od, kV, doc, pm, an, _, ct, osl, e, l, h⟩, F.kp⟩
theorem FunC.ok {x qual : Str} {st : Stmt} {f c : Addr} {fd : FuncData} {N ps : List Str} {k : Nat} {sp : Sp} (F : FunC K x qual st f fd c) (S : FnScope N ps (defScope st)) (len : ∀ vs H Q E, sp vs H Q E → vs.length = ps.length)
    (hbody : ∀ (A : Around) (outer : List Env) (s : Shared) (H : Hp) (vs : List V) (Q : VK) (E : XK), Room k (A.deeper (envOfC qual (defScope st) s.heap.objs.size f (.ref c))) → sp vs H Q E →
      ∃ t, PSs (cxOf CX0 P w K mg base N qual (defScope st) f (.ref c) A outer s H E).nox (defBody st) t ∧ t { nx := fun _ H' => Q .non H', rt := Q } (L2.start N vs) H) : FnOk P w K mg base CX0 (k + 1) f fd ps sp := by
  obtain ⟨oc, od, kV, doc, pm, an, ct, osl, rfl, lk, hcd⟩ := F.ex
  refine fn_of lk hcd S len fun A outer s H vs Q E hr hsp => ?_
  obtain ⟨t, h, q⟩ := hbody A outer s H vs Q E hr hsp
  exact ⟨t, h.nox, q⟩
end
/-! ### all parts of a row -/
def parts0 (zs : List Str) : List (List Str) := zs.foldl (fun ps z => ps ++ ps.map fun p => p ++ [z]) [[]]
theorem parts0_snoc (zs : List Str) (z : Str) : parts0 (zs ++ [z]) = parts0 zs ++ (parts0 zs).map fun p => p ++ [z] := by
  unfold parts0
  rw [List.foldl_append]
  rfl
theorem parts0_len : ∀ n (zs : List Str), zs.length = n → (parts0 zs).length = 2 ^ n := by
  intro n
  induction n with
  | zero =>
    intro zs h
    rw [List.length_eq_zero_iff.mp h]
    rfl
  | succ n ih =>
    intro zs h
    rcases List.eq_nil_or_concat zs with rfl | ⟨r, z, rfl⟩
    · cases h
    · rw [List.concat_eq_append, List.length_append] at h
      rw [List.concat_eq_append, parts0_snoc, List.length_append, List.length_map, ih r (by simpa using h), Nat.pow_succ]
      omega
theorem parts0_sub : ∀ {zs : List Str} {p : List Str}, p ∈ parts0 zs → p.Sublist zs := by
  have main : ∀ n (zs : List Str), zs.length = n → ∀ p ∈ parts0 zs, p.Sublist zs := by
    intro n
    induction n with
    | zero =>
      intro zs h p hp
      rw [List.length_eq_zero_iff.mp h] at hp ⊢
      rw [List.mem_singleton.mp hp]
      exact List.Sublist.refl _
    | succ n ih =>
      intro zs h p hp
      rcases List.eq_nil_or_concat zs with rfl | ⟨r, z, rfl⟩
      · cases h
      · rw [List.concat_eq_append] at h hp ⊢
        rw [parts0_snoc] at hp
        have hl : r.length = n := by rw [List.length_append] at h; simpa using h
        rcases List.mem_append.mp hp with hp | hp
        · exact (ih r hl p hp).trans (List.sublist_append_left _ _)
        · obtain ⟨q, hq, rfl⟩ := List.mem_map.mp hp
          exact (ih r hl q hq).append (List.Sublist.refl _)
  exact fun {zs p} h => main _ zs rfl p h
theorem parts0_has : ∀ {zs : List Str} {p : List Str}, p.Sublist zs → p ∈ parts0 zs := by
  have main : ∀ n (zs : List Str), zs.length = n → ∀ p, p.Sublist zs → p ∈ parts0 zs := by
    intro n
    induction n with
    | zero =>
      intro zs h p hp
      rw [List.length_eq_zero_iff.mp h] at hp ⊢
      rw [List.sublist_nil.mp hp]
      exact List.mem_singleton.mpr rfl
    | succ n ih =>
      intro zs h p hp
      rcases List.eq_nil_or_concat zs with rfl | ⟨r, z, rfl⟩
      · cases h
      · rw [List.concat_eq_append] at h hp ⊢
        have hl : r.length = n := by rw [List.length_append] at h; simpa using h
        rw [parts0_snoc]
        obtain ⟨p1, p2, rfl, h1, h2⟩ := List.sublist_append_iff.mp hp
        rcases List.sublist_cons_iff.mp h2 with h3 | ⟨r', rfl, h3⟩
        · rw [List.sublist_nil.mp h3, List.append_nil]
          exact List.mem_append_left _ (ih r hl p1 h1)
        · rw [List.sublist_nil.mp h3]
          exact List.mem_append_right _ (List.mem_map_of_mem (ih r hl p1 h1))
  exact fun {zs p} h => main _ zs rfl p h
end Rw
end T_TU

section T_MR
set_option Elab.async false
set_option linter.all false
set_option maxRecDepth 100000
set_option maxHeartbeats 4000000
namespace Rw
open PySem L2 PyProof.Rows
/-! ### a model, the dict of its tables perhaps walked -/
structure ModelW (H : Hp) (m tb db sb pb : Addr) (ends dots ss ps : List Str) (rows : List (Str × V)) (o n : Str → List (Str × V)) : Prop where
  hm : H m = some (.dK (mkv tb db sb pb))
  ht : Rd H tb (.dK (tkv rows))
  hd : H db = some (.lst (dots.map V.str))
  hs : H sb = some (.lst (ss.map V.str))
  hp : H pb = some (.lst (ps.map V.str))
  rk : rows.map (·.1) = ends
  ra : RowsAt H ends dots rows o n
  ok : ModelOk ends dots ss ps
theorem ModelW.to {H H' : Hp} {m tb db sb pb : Addr} {ends dots ss ps : List Str} {rows : List (Str × V)} {o n : Str → List (Str × V)} (h : ModelW H m tb db sb pb ends dots ss ps rows o n) (x : Evl.Ex H H') : ModelW H' m tb db sb pb ends dots ss ps rows o n :=
  ⟨x _ _ h.hm, rdx h.ht x, x _ _ h.hd, x _ _ h.hs, x _ _ h.hp, h.rk, h.ra.ex x, h.ok⟩
theorem ModelW.mk' {H : Hp} {m tb db sb pb : Addr} {ends dots ss ps : List Str} {rows : List (Str × V)} {o n : Str → List (Str × V)} (h : ModelAt H m tb db sb pb ends dots ss ps rows) (ra : RowsAt H ends dots rows o n) : ModelW H m tb db sb pb ends dots ss ps rows o n :=
  ⟨h.hm, .inl h.ht, h.hd, h.hs, h.hp, h.rk, ra, h.ok⟩
theorem model_up {H : Hp} {m tb db sb pb : Addr} {ends dots ss ps : List Str} {rows : List (Str × V)} (MA : ModelAt H m tb db sb pb ends dots ss ps rows) {od : Obj} {a : Addr} {u : HO} (h : H a = some u) (n : a ≠ tb) : (upd H tb (.frz od (.dK (tkv rows)))) a = some u := by rw [upd_ne n]; exact h
/-- the dict of tables locked -/
theorem ModelW.lock {H : Hp} {m tb db sb pb : Addr} {ends dots ss ps : List Str} {rows : List (Str × V)} {o n : Str → List (Str × V)} (MA : ModelAt H m tb db sb pb ends dots ss ps rows) (ra : RowsAt H ends dots rows o n) (od : Obj) : ModelW (upd H tb (.frz od (.dK (tkv rows)))) m tb db sb pb ends dots ss ps rows o n := by
  have ht := MA.ht
  have rl : rows.length = ends.length := by rw [← MA.rk, List.length_map]
  have rne : rows ≠ [] := fun z => by
    have := MA.ok.e0
    rw [z] at rl
    simp at rl
    omega
  refine ⟨model_up MA MA.hm (model_ne MA), .inr ⟨od, upd_same⟩, model_up MA MA.hd (ne_of MA.hd ht (by intro z; cases z)), model_up MA MA.hs (ne_of MA.hs ht (by intro z; cases z)), model_up MA MA.hp (ne_of MA.hp ht (by intro z; cases z)), MA.rk, fun e he => ?_, MA.ok⟩
  obtain ⟨p, po, pn, hv, pa⟩ := ra e he
  exact ⟨p, po, pn, hv, model_up MA pa.hp (ne_of pa.hp ht (by intro z; cases z)), model_up MA pa.ho (tab_ne ht MA.ro rne pa.ho pa.o1), model_up MA pa.hn (tab_ne ht MA.ro rne pa.hn pa.o2), pa.o1, pa.o2⟩
theorem lock_back {H : Hp} {tb : Addr} {u : HO} (ht : H tb = some u) {o : HO} {Hx : Hp} (x : Evl.Ex (upd H tb o) Hx) : Evl.Ex H (upd Hx tb u) := fun a v h => by
  by_cases z : a = tb
  · subst z
    rw [upd_same, ← ht, h]
  · rw [upd_ne z]
    exact x _ _ (by rw [upd_ne z]; exact h)
def keyN (H : Hp) : V → Int × List Str
  | .ref t => match H t with
    | some (.tup [.int i, b]) => (i, rowAt H b)
    | _ => (0, [])
  | _ => (0, [])
theorem keyN_of {H : Hp} {t b : Addr} {i : Int} {zs : List Str} (h1 : H t = some (.tup [.int i, .ref b])) (h2 : H b = some (.tup (zs.map V.str))) : keyN H (.ref t) = (i, zs) := by
  show (match H t with | some (.tup [.int i, b]) => (i, rowAt H b) | _ => (0, [])) = (i, zs)
  rw [h1]
  show (i, rowAt H (.ref b)) = (i, zs)
  rw [rowAt_of h2]
theorem perm_map {α β : Type} {g : α → β} {ys xs : List β} (h : ys.Perm xs) : ∀ l : List α, xs = l.map g → ∃ l' : List α, ys = l'.map g ∧ l'.Perm l := by
  induction h with
  | nil => intro l e; exact ⟨[], rfl, by cases l with | nil => exact .refl _ | cons _ _ => cases e⟩
  | cons x _ ih =>
    intro l e
    cases l with
    | nil => cases e
    | cons a l =>
      obtain ⟨e1, e2⟩ := List.cons.inj e
      obtain ⟨l', h1, h2⟩ := ih l e2
      exact ⟨a :: l', by rw [h1, e1]; rfl, h2.cons a⟩
  | swap x y t =>
    intro l e
    match l, e with
    | a :: b :: l, e =>
      obtain ⟨e1, e2⟩ := List.cons.inj e
      obtain ⟨e3, e4⟩ := List.cons.inj e2
      exact ⟨b :: a :: l, by rw [e1, e3, e4]; rfl, .swap a b l⟩
  | trans _ _ ih1 ih2 =>
    intro l e
    obtain ⟨l1, h1, h2⟩ := ih2 l e
    obtain ⟨l2, h3, h4⟩ := ih1 l1 h1
    exact ⟨l2, h3, h4.trans h2⟩
end Rw
end T_MR

section T_JO
set_option Elab.async false
set_option linter.all false
set_option maxRecDepth 100000
set_option maxHeartbeats 4000000
namespace Rw
open PySem L2 PyProof.Rows
section
variable {P : Program} {w : World} {K : PySem.W.Frag} {mg : Str → Option Value} {base : Heap}
/-! ### joined -/
def spJoined : Sp := fun vs H Q _ => ∃ (a b : Addr) (zs ys : List Str), vs = [.ref a, .ref b] ∧ SqT K H a (zs.map V.str) ∧ SqT K H b (ys.map V.str) ∧ zs.length + ys.length ≤ 60 ∧
  ∀ (p : Addr) (H' : Hp) (js : List Str), Evl.Ex H H' → H p = none → H' p = some (.tup (js.map V.str)) → js.Perm (zs ++ ys) → sortedS js = true → Q (.ref p) H'
abbrev nJoined : List Str := ["lot", "other"]
theorem sc_joined : FnScope nJoined ["lot", "other"] (defScope p_joined) := ⟨rfl, rfl, rfl, by decide +kernel, rfl, by decide +kernel, by decide +kernel⟩
theorem ok_joined {f : Addr} {fd : FuncData} (F : Fun K "joined" "joined" p_joined f fd) (mTup : mg "tuple" = none) (mSorted : mg "sorted" = none) : FnOk P w K mg base CX0 1 f fd ["lot", "other"] (spJoined (K := K)) := by
  refine F.ok sc_joined (fun vs H Q E h => ?_) (fun cdv A outer s H vs Q E hr h => ?_)
  · obtain ⟨a, b, zs, ys, rfl, _⟩ := h
    rfl
  · obtain ⟨a, b, zs, ys, rfl, ha, hb, few, k⟩ := h
    have nd := sc_joined.nd
    refine ⟨_, pss_one (ps_ret (pe_callTy call_tuple_of (by rfl) mTup (by decide +kernel) (pa_cons (pe_callB cr_sortedS (by rfl) mSorted (by decide +kernel) (pa_cons (pe_lst (StX.pa_star (pv 0) (StX.pa_star (pv 1) pa_nil))) pa_nil)) pa_nil))), ?_⟩
    refine ⟨.ref a, rfl, a, _, rfl, .inl ha, .ref b, rfl, b, _, rfl, .inl hb, ?_⟩
    have e0 : zs.map V.str ++ (ys.map V.str ++ []) = (zs ++ ys).map V.str := by rw [List.append_nil, List.map_append]
    refine ⟨by show (zs.map V.str ++ (ys.map V.str ++ [])).length ≤ sizeLine; rw [e0, List.length_map, List.length_append]; exact Nat.le_of_lt (small1000 (by omega)), fun l hl => ?_⟩
    refine ⟨l, zs ++ ys, rfl, Evl.sq_of (by rw [← e0]; exact upd_same), by rw [List.length_append]; omega, fun js r hp hs hr' => ?_⟩
    refine ⟨r, _, rfl, .inl ⟨Evl.sq_of upd_same, fun t ht => ?_⟩⟩
    have x := ((Evl.Ex.new (H := H) hl).trans (Evl.Ex.new (o := HO.lst (js.map V.str)) hr')).trans (Evl.Ex.new (o := HO.tup (js.map V.str)) ht)
    exact k t _ js x (ex_none ((Evl.Ex.new hl).trans (Evl.Ex.new hr')) ht) upd_same hp hs
end
end Rw
end T_JO

section T_PB
set_option Elab.async false
set_option linter.all false
set_option maxRecDepth 100000
set_option maxHeartbeats 4000000
namespace Rw
open PySem L2 PyProof.Rows
section
variable {P : Program} {w : World} {K : PySem.W.Frag} {mg : Str → Option Value} {base : Heap}
def spSources (C : Addr) : Sp := fun vs H Q _ => ∃ (m : Addr) (ends dots ss ps : List Str) (o n : Str → List (Str × V)), vs = [.ref m] ∧ NetAt C H m ends dots ss ps o n ∧ ∀ p, H p = some (.tup (ss.map V.str)) → Q (.ref p) H
def spPosts (C : Addr) : Sp := fun vs H Q _ => ∃ (m : Addr) (ends dots ss ps : List Str) (o n : Str → List (Str × V)), vs = [.ref m] ∧ NetAt C H m ends dots ss ps o n ∧ ∀ p, H p = some (.tup (ps.map V.str)) → Q (.ref p) H
theorem sc_sources : FnScope ["self"] ["self"] (defScope c_Net_sources) := ⟨rfl, rfl, rfl, by decide +kernel, rfl, by decide +kernel, by decide +kernel⟩
theorem sc_posts : FnScope ["self"] ["self"] (defScope c_Net_posts) := ⟨rfl, rfl, rfl, by decide +kernel, rfl, by decide +kernel, by decide +kernel⟩
theorem ok_sources {f C : Addr} {fd : FuncData} (F : Fun K "sources" "Net.sources" c_Net_sources f fd) (T : NetTxt K C) : FnOk P w K mg base CX0 1 f fd ["self"] (spSources C) := by
  refine F.ok sc_sources (fun vs H Q E h => ?_) (fun cdv A outer s H vs Q E hr h => ?_)
  · obtain ⟨m, ends, dots, ss, ps, o, n, rfl, _⟩ := h
    rfl
  · obtain ⟨m, ends, dots, ss, ps, o, n, rfl, N, k⟩ := h
    refine ⟨_, pss_one (ps_ret (pe_fld (pv 0) rfl)), ?_⟩
    obtain ⟨dx, T', N', S, Po, rows, h1, h2, h3, h4, h5, h6, h7⟩ := N.ex
    exact ⟨.ref m, rfl, m, C, dx, _, .ref S, rfl, h1, T.cl, T.nS, nflds_sources _ _ _ _, k S h4⟩
theorem ok_posts {f C : Addr} {fd : FuncData} (F : Fun K "posts" "Net.posts" c_Net_posts f fd) (T : NetTxt K C) : FnOk P w K mg base CX0 1 f fd ["self"] (spPosts C) := by
  refine F.ok sc_posts (fun vs H Q E h => ?_) (fun cdv A outer s H vs Q E hr h => ?_)
  · obtain ⟨m, ends, dots, ss, ps, o, n, rfl, _⟩ := h
    rfl
  · obtain ⟨m, ends, dots, ss, ps, o, n, rfl, N, k⟩ := h
    refine ⟨_, pss_one (ps_ret (pe_fld (pv 0) rfl)), ?_⟩
    obtain ⟨dx, T', N', S, Po, rows, h1, h2, h3, h4, h5, h6, h7⟩ := N.ex
    exact ⟨.ref m, rfl, m, C, dx, _, .ref Po, rfl, h1, T.cl, T.nP, nflds_posts _ _ _ _, k Po h5⟩
/-! ### starts -/
/-- where packets that a wish speaks of begin -/
def startsOf (wd : Str) (dots ss : List Str) : List Str := if wd = ("rings" : Str) then dots else ss
def spStarts (C : Addr) : Sp := fun vs H Q _ => ∃ (m : Addr) (wd : Str) (ends dots ss ps : List Str) (o n : Str → List (Str × V)), vs = [.ref m, .str wd] ∧ NetAt C H m ends dots ss ps o n ∧ ∀ p, H p = some (.tup ((startsOf wd dots ss).map V.str)) → Q (.ref p) H
theorem sc_starts : FnScope ["net", "wish"] ["net", "wish"] (defScope p_starts) := ⟨rfl, rfl, rfl, by decide +kernel, rfl, by decide +kernel, by decide +kernel⟩
theorem ok_starts {f C : Addr} {fd : FuncData} (F : Fun K "starts" "starts" p_starts f fd) (T : NetTxt K C) (P1 : Prp P w K mg base C 1 "nodes" (spDots C)) (P2 : Prp P w K mg base C 1 "sources" (spSources C)) : FnOk P w K mg base CX0 3 f fd ["net", "wish"] (spStarts C) := by
  obtain ⟨p1, g1, fd1, at1, F1, b1⟩ := P1.ex
  obtain ⟨p2, g2, fd2, at2, F2, b2⟩ := P2.ex
  refine F.ok sc_starts (fun vs H Q E h => ?_) (fun cdv A outer s H vs Q E hr h => ?_)
  · obtain ⟨m, wd, ends, dots, ss, ps, o, n, rfl, _⟩ := h
    rfl
  · obtain ⟨m, wd, ends, dots, ss, ps, o, n, rfl, N, k⟩ := h
    refine ⟨_, pss_one (ps_ret (pe_ifExp (pt_cmpR op_eq (pv 1) pe_str (nomark _)) (pe_prop (pv 0) T.cl at1 F1 hr b1 .nil pass0 rfl) (pe_prop (pv 0) T.cl at2 F2 hr b2 .nil pass0 rfl))), ?_⟩
    have N2 := N
    obtain ⟨dx, T', N', S, Po, rows, h1, h2, h3, h4, h5, h6, h7⟩ := N.ex
    refine ⟨.str wd, rfl, rfl, _, rfl, ite2 (fun e => ?_) (fun e => ?_)⟩
    · have ew : wd = ("rings" : Str) := by simpa using of_decide_eq_true e
      refine ⟨.ref m, rfl, m, dx, _, rfl, h1, m, ends, dots, ss, ps, o, n, rfl, N2, fun p hp => k p ?_⟩
      unfold startsOf
      rw [if_pos ew]
      exact hp
    · have ew : ¬ wd = ("rings" : Str) := fun z => by
        subst z
        exact absurd e (by decide)
      refine ⟨.ref m, rfl, m, dx, _, rfl, h1, m, ends, dots, ss, ps, o, n, rfl, N2, fun p hp => k p ?_⟩
      unfold startsOf
      rw [if_neg ew]
      exact hp
/-! ### the posts that are passed -/
def stepP (ps : List Str) (k : Nat) (v : V) : Nat := match ps[k]? with
  | some z => if v = .str z then k + 1 else k
  | none => k
def passedBy (ps : List Str) (row : List V) : Nat := row.foldl (stepP ps) 0
theorem stepP_le {ps : List Str} {k : Nat} {v : V} (h : k ≤ ps.length) : stepP ps k v ≤ ps.length := by
  unfold stepP
  cases e : ps[k]? with
  | none => exact h
  | some z =>
    have hk : k < ps.length := (List.getElem?_eq_some_iff.mp e).1
    show (if v = V.str z then k + 1 else k) ≤ _
    split <;> omega
def spPassedWith : Sp := fun vs H Q _ => ∃ (a : Addr) (ps : List Str) (k : Nat) (v : V), vs = [.ref a, .int (k : Int), v] ∧ SqT K H a (ps.map V.str) ∧ ps.length ≤ 100 ∧ k ≤ ps.length ∧ Spot v ∧ Q (.int (stepP ps k v : Int)) H
theorem sc_passed_with : FnScope ["posts", "passed", "place"] ["posts", "passed", "place"] (defScope p_passed_with) := ⟨rfl, rfl, rfl, by decide +kernel, rfl, by decide +kernel, by decide +kernel⟩
theorem ok_passed_with {f : Addr} {fd : FuncData} (F : Fun K "passed_with" "passed_with" p_passed_with f fd) (mLen : mg "len" = none) : FnOk P w K mg base CX0 1 f fd ["posts", "passed", "place"] (spPassedWith (K := K)) := by
  refine F.ok sc_passed_with (fun vs H Q E h => ?_) (fun cdv A outer s H vs Q E hr h => ?_)
  · obtain ⟨a, ps, k, v, rfl, _⟩ := h
    rfl
  · obtain ⟨a, ps, k, v, rfl, ha, few, hk, hv, q⟩ := h
    refine ⟨_, pss_one (ps_ret (pe_ifExp (PW.pt (pw_and (pt_cmpR op_lt (pv 1) (pe_callB call_len (by rfl) mLen PySem.boot_len (pa_cons (pv 0) pa_nil)) (nomark _)) (pw_and1 (pt_cmpR op_eq (pe_ix ix_tup (pv 0) (pv 1) (fun _ _ => rfl)) (pv 2) (nomark _))))) (pe_op op_add (pv 1) pe_int) (pv 1))), ?_⟩
    refine ⟨.int k, rfl, .ref a, rfl, .ref a, (ps.map V.str).length, rfl, .inr ⟨_, ha, rfl⟩, (k : Int), ((ps.map V.str).length : Int), rfl, rfl, _, rfl, ?_⟩
    by_cases lt : k < ps.length
    · rw [decide_eq_true (show (k : Int) < ((ps.map V.str).length : Int) by rw [List.length_map]; omega)]
      have gk : ps[k]? = some ps[k] := List.getElem?_eq_getElem lt
      have sc : scal (.str ps[k]) v = true := by rcases hv with rfl | ⟨y, rfl, _⟩ <;> rfl
      refine iteT ⟨.ref a, rfl, .int k, rfl, a, ps.map V.str, (k : Int), .str ps[k], rfl, rfl, ha, atI_nat (by rw [List.getElem?_map, gk]; rfl), v, rfl, sc, _, rfl, ?_⟩
      by_cases e : V.str ps[k] = v
      · rw [decide_eq_true e]
        refine iteT ⟨.int k, rfl, (k : Int), 1, rfl, rfl, ?_⟩
        have q' : stepP ps k v = k + 1 := by unfold stepP; rw [gk]; exact if_pos e.symm
        rw [q'] at q
        exact q
      · rw [decide_eq_false e]
        refine iteF ⟨.int k, rfl, ?_⟩
        have q' : stepP ps k v = k := by unfold stepP; rw [gk]; exact if_neg fun z => e z.symm
        rw [q'] at q
        exact q
    · rw [decide_eq_false (show ¬ (k : Int) < ((ps.map V.str).length : Int) by rw [List.length_map]; omega)]
      refine iteF (iteF ⟨.int k, rfl, ?_⟩)
      have q' : stepP ps k v = k := by unfold stepP; rw [List.getElem?_eq_none (by omega)]
      rw [q'] at q
      exact q
def spPostsPassed : Sp := fun vs H Q _ => ∃ (a b : Addr) (ps : List Str) (row : List V), vs = [.ref a, .ref b] ∧ SqT K H a (ps.map V.str) ∧ SqL K H b row ∧ ps.length ≤ 100 ∧ (∀ v ∈ row, Spot v) ∧ Q (.int (passedBy ps row : Int)) H
abbrev nPostsPassed : List Str := ["posts", "places", "passed", "place"]
theorem sc_posts_passed : FnScope nPostsPassed ["posts", "places"] (defScope p_posts_passed) := ⟨rfl, rfl, rfl, by decide +kernel, rfl, by decide +kernel, by decide +kernel⟩
theorem ok_posts_passed {f : Addr} {fd : FuncData} (F : Fun K "posts_passed" "posts_passed" p_posts_passed f fd) (C1 : Cal P w K mg base 1 "passed_with" ["posts", "passed", "place"] (spPassedWith (K := K))) : FnOk P w K mg base CX0 2 f fd ["posts", "places"] (spPostsPassed (K := K)) := by
  obtain ⟨f1, fd1, F1, k1, b1, g1⟩ := C1.ex
  refine F.ok sc_posts_passed (fun vs H Q E h => ?_) (fun cdv A outer s H vs Q E hr h => ?_)
  · obtain ⟨a, b, ps, row, rfl, _⟩ := h
    rfl
  · obtain ⟨a, b, ps, row, rfl, ha, hb, few, hv, q⟩ := h
    have nd := sc_posts_passed.nd
    refine ⟨_, pss_cons (ps_set (i := 2) nd rfl (.inl rfl) pe_int)
      (pss_cons (ps_for PassesOwn.never rfl (pi_list (pv 1)) (pg_name (i := 3) nd rfl (.inl rfl)) (pss_one (ps_set (i := 2) nd rfl (.inl rfl) (pe_call F1 hr rfl g1 k1 b1 .nil pass0 (pa_cons (pv 0) (pa_cons (pv 2) (pa_cons (pv 3) pa_nil)))))))
      (pss_one (ps_ret (pv 2)))), ?_⟩
    refine ⟨.ref b, rfl, b, rfl, ⟨_, hb⟩, for_list (K := K) (a := b) (xs := row)
      (fun i σ H' => H' = H ∧ ∃ (k : Nat) (x3 : Option V), σ = [some (.ref a), some (.ref b), some (.int (k : Int)), x3] ∧ k ≤ ps.length ∧ k = (row.take i).foldl (stepP ps) 0)
      ⟨rfl, 0, none, rfl, Nat.zero_le _, rfl⟩ (fun i σ H' _ h => by rw [h.1]; exact hb) ?_ ?_⟩
    · rintro i v σ H' hi ⟨rfl, k, x3, rfl, hk, ek⟩
      refine ⟨.ref a, rfl, .int k, rfl, v, rfl, a, ps, k, v, rfl, ha, few, hk, hv v (List.mem_of_getElem? hi), ?_⟩
      refine ⟨rfl, stepP ps k v, some v, rfl, stepP_le hk, ?_⟩
      rw [List.take_add_one, hi, List.foldl_append, ← ek]
      rfl
    · rintro σ H' ⟨rfl, k, x3, rfl, hk, ek⟩
      rw [List.take_length] at ek
      refine ⟨_, rfl, ?_⟩
      rw [ek]
      exact q
/-! ### breaks -/
def lastV (row : List V) : V := row.getLastD .non
def breaksB (wd e : Str) (ps : List Str) (row : List V) : Bool :=
  if wd = ("lost" : Str) then decide (lastV row = .non)
  else if wd = ("posts" : Str) then decide (lastV row = .str e) && decide (passedBy ps row < ps.length)
  else decide (lastV row ∈ row.dropLast)
end
end Rw
end T_PB

section T_PA
set_option Elab.async false
set_option linter.all false
set_option maxRecDepth 100000
set_option maxHeartbeats 4000000
namespace Rw
open PySem L2 PyProof.Rows LamX
section
variable {P : Program} {w : World} {K : PySem.W.Frag} {mg : Str → Option Value} {base : Heap}
/-- shorter rows first, then by their names -/
abbrev RowsSrt (Ls : List (List Str)) : Prop := Ls.Pairwise fun p q => numRow ((q.length : Int), q) ((p.length : Int), p) = false
def spParts (T : List (Addr × Str)) : Sp := fun vs H Q _ => ∃ (a : Addr) (zs : List Str), vs = [.ref a] ∧ SqT K H a (zs.map V.str) ∧ zs.length ≤ 6 ∧ Tabs T H ∧
  ∀ (p : Addr) (H' : Hp) (L : List (Addr × List Str)), Evl.Ex (nt H) (nt H') → Tabs T H' → H' p = some (.lst (L.map fun q => V.ref q.1)) → RowsT H' L → (L.map (·.2)).Perm (parts0 zs) → RowsSrt (L.map (·.2)) → Q (.ref p) H'
abbrev nParts : List Str := ["lot", "parts", "node", "part"]
theorem sc_parts : FnScope nParts ["lot"] (defScope p_parts_of) := ⟨rfl, rfl, rfl, by decide +kernel, rfl, by decide +kernel, by decide +kernel⟩
theorem sqt_nt {H : Hp} {a : Addr} {xs : List V} (h : SqT K H a xs) : SqT K (nt H) a xs := by
  rcases h with (h | ⟨o, h⟩) | h
  · exact .inl (.inl (nt_tup h))
  · exact .inl (.inr ⟨o, nt_of h fun _ z => by cases z⟩)
  · exact .inr h
theorem ok_parts_of {f c Pt : Addr} {fd : FuncData} {T : List (Addr × Str)} (F : FunC K "parts_of" "parts_of" p_parts_of f fd c) (TB : TabB base mg c Pt) (hmT : (Pt, ("parts_of.<locals>.<lambda>" : Str)) ∈ T) (hu : ∀ p ∈ T, p.1 = Pt → p.2 = ("parts_of.<locals>.<lambda>" : Str))
    (mSorted : mg "sorted" = none) (mLen : mg "len" = none) : FnOk P w K mg base CX0 5 f fd ["lot"] (spParts (K := K) T) := by
  refine F.ok sc_parts (fun vs H Q E h => ?_) (fun A outer s H vs Q E hr h => ?_)
  · obtain ⟨a, zs, rfl, _⟩ := h
    rfl
  · obtain ⟨a, zs, rfl, hS, h6, hT, k⟩ := h
    have nd := sc_parts.nd
    have hr4 : Room 4 _ := hr
    refine ⟨_, pss_cons (ps_set (i := 1) nd rfl (.inl rfl) (pe_lst (pa_cons (pe_tup pa_nil) pa_nil)))
      (pss_cons (ps_for PassesOwn.never rfl (pi_tup (pv 0)) (pg_name (i := 2) nd rfl (.inr rfl))
        (pss_one (ps_set (i := 1) nd rfl (.inl rfl) (pe_op op_cat (pv 1)
          (pe_lc (own := [("part", 3)]) (g := gName 3) (tt := tYes) (te := tTup (StX.tStar K (tVar 3) (tCons (tVar 2) tNil))) rfl nd (pi_list (pv 1)) (blkOk_by (own := [("part", 3)]) (N := nParts) (sc := defScope p_parts_of) (by decide +kernel))
            (fun _ _ _ _ _ => pg_name (i := 3) nd rfl (Or.inl rfl)) (fun _ _ _ _ _ => pts_nil) (fun _ _ _ _ _ => pe_tup (StX.pa_star (pv 3) (pa_cons (pv 2) pa_nil))))))))
      (pss_one (ps_ret (pe_sortedLam (T := T) (c := c) (P := Pt) (k := 1) (n := "part") (by rfl) mSorted (pv 1) TB rfl hmT hu hr4
        ⟨rfl, rfl, rfl, by decide +kernel, rfl⟩ rfl (fun q cl pm cv ctv v => by rfl)
        (tb := tTup (tCons (tCB (fun xs H Q => ∃ x n, xs = [x] ∧ LenV K x H n ∧ Q (.int n) H) (tCons (tVar 0) tNil)) (tCons (tVar 0) tNil)))
        (fun A outer s H f' c' hr' => pe_tup (pa_cons (pe_callB call_len (by rfl) mLen PySem.boot_len (pa_cons (pv 0) pa_nil)) (pa_cons (pv 0) pa_nil)))
        (fun x b zs H Q e hb q => ?_))))), ?_⟩
    · subst e
      exact ⟨.ref b, rfl, .ref b, (zs.map V.str).length, rfl, .inr ⟨_, Evl.st_of hb, rfl⟩, .ref b, rfl, by show 2 ≤ sizeLine; decide, fun p hp => by rw [List.length_map]; exact q p hp⟩
    · -- parts = [()]
      refine ⟨by show 0 ≤ sizeLine; decide, fun e0 he0 => ⟨by show 1 ≤ sizeLine; decide, fun p0 hp0 => ?_⟩⟩
      have x1 : Evl.Ex H (upd (upd H e0 (.tup [])) p0 (.lst [.ref e0])) := (Evl.Ex.new he0).trans (Evl.Ex.new hp0)
      have l1 : (upd (upd H e0 (.tup [])) p0 (.lst [.ref e0])) p0 = some (.lst ([(e0, ([] : List Str))].map fun q => V.ref q.1)) := upd_same
      have t1 : RowsT (upd (upd H e0 (.tup [])) p0 (.lst [.ref e0])) [(e0, [])] := fun q hq => by
        rw [List.mem_singleton.mp hq]
        rw [upd_ne (ne_of_none (upd_same (H := H) (a := e0) (o := .tup [])) hp0)]
        exact upd_same
      generalize upd (upd H e0 (.tup [])) p0 (.lst [.ref e0]) = H1 at x1 l1 t1
      refine ⟨.ref a, rfl, a, rfl, ⟨_, Evl.ex_t x1 hS⟩, for_tup (K := K) (a := a) (xs := zs.map V.str)
        (fun i σ H' => i ≤ zs.length ∧ Evl.Ex H H' ∧ ∃ (p : Addr) (L : List (Addr × List Str)) (x2 : Option V), σ = [some (.ref a), some (.ref p), x2, none] ∧ H' p = some (.lst (L.map fun q => V.ref q.1)) ∧ RowsT H' L ∧ L.map (·.2) = parts0 (zs.take i))
        ⟨Nat.zero_le _, x1, p0, [(e0, [])], none, rfl, l1, t1, rfl⟩ (fun i σ H' _ h => Evl.ex_t h.2.1 hS) ?_ ?_⟩
      · rintro i y σ H2 hi ⟨_, x2, p, L, v2, rfl, hp, tL, eL⟩
        obtain ⟨z, hz, rfl⟩ := str_at hi
        have hil : i < zs.length := (List.getElem?_eq_some_iff.mp hz).1
        have few : L.length ≤ 64 := by
          have h1 := congrArg List.length eL
          rw [List.length_map, parts0_len i _ (by rw [List.length_take]; omega)] at h1
          rw [h1]
          exact Nat.le_trans (Nat.pow_le_pow_right (by decide) (by omega : i ≤ 6)) (by decide)
        have rowsLen : ∀ q ∈ L, q.2.length ≤ 6 := fun q hq => by
          have hm : q.2 ∈ parts0 (zs.take i) := by rw [← eL]; exact List.mem_map_of_mem hq
          exact Nat.le_trans (parts0_sub hm).length_le (by rw [List.length_take]; omega)
        refine ⟨.ref p, rfl, .ref p, rfl, p, rfl, ⟨_, Evl.sq_of hp⟩, fun D hD => lc_list (K := K) (a := p) (xs := L.map fun q => V.ref q.1)
          (fun j H' => j ≤ L.length ∧ Evl.Ex H2 H' ∧ ∃ M : List (Addr × List Str), H' D = some (.lst (M.map fun q => V.ref q.1)) ∧ RowsT H' M ∧ M.map (·.2) = (L.take j).map fun q => q.2 ++ [z])
          ⟨Nat.zero_le _, Evl.Ex.new hD, [], upd_same, (fun q hq => nomatch hq), rfl⟩ (fun j H' _ h => Evl.sq_of (h.2.1 _ _ hp)) ?_ ?_⟩
        · rintro j v H3 hj ⟨_, x3, M, hM, tM, eM⟩
          obtain ⟨q, hq, rfl⟩ := rowsT_at hj
          have hjl : j < L.length := (List.getElem?_eq_some_iff.mp hq).1
          have mq := List.mem_of_getElem? hq
          have tq := x3 _ _ (tL q mq)
          have Ml : M.length ≤ 64 := by
            have := congrArg List.length eM
            rw [List.length_map, List.length_map, List.length_take] at this
            omega
          refine ⟨rfl, yes_if ?_⟩
          refine ⟨.ref q.1, rfl, q.1, _, rfl, .inl (Evl.st_of tq), .str z, rfl, ?_, fun t ht => ?_⟩
          · rw [List.length_append, List.length_map]
            have := rowsLen q mq
            exact Nat.le_of_lt (small1000 (by simp only [List.length_cons, List.length_nil]; omega))
          have y1 : Evl.Ex H3 (upd H3 t (.tup (q.2.map V.str ++ [.str z]))) := Evl.Ex.new ht
          have t2 : (upd H3 t (.tup (q.2.map V.str ++ [.str z]))) t = some (.tup ((q.2 ++ [z]).map V.str)) := by rw [upd_same, List.map_append]; rfl
          generalize upd H3 t (.tup (q.2.map V.str ++ [.str z])) = H4 at y1 t2
          refine ⟨_, y1 _ _ hM, by rw [List.length_map]; exact small1000 (by omega), hjl, (x3.trans y1).mut hD, M ++ [(t, q.2 ++ [z])], ?_, ?_, ?_⟩
          · rw [upd_same, List.map_append]
            rfl
          · refine RowsT.mut (RowsT.app (tM.to y1) fun q' hq' => ?_) (y1 _ _ hM)
            rw [List.mem_singleton.mp hq']
            exact t2
          · rw [List.map_append, eM, List.take_add_one, hq, List.map_append]
            rfl
        · rintro H3 ⟨_, x3, M, hM, tM, eM⟩
          rw [List.length_map, List.take_length] at eM
          have Ml : M.length ≤ 64 := by
            have := congrArg List.length eM
            rw [List.length_map, List.length_map] at this
            omega
          refine ⟨p, D, _, _, rfl, rfl, x3 _ _ hp, hM, Nat.le_of_lt (small1000 (by rw [List.length_map, List.length_map]; omega)), fun r hr' => ?_⟩
          refine ⟨hil, (x2.trans x3).trans (Evl.Ex.new hr'), r, L ++ M, _, rfl, ?_, RowsT.to (RowsT.app (tL.to x3) tM) (Evl.Ex.new hr'), ?_⟩
          · rw [upd_same, List.map_append]
          · rw [List.map_append, eM, eL, List.take_add_one, hz]
            show _ = parts0 (zs.take i ++ [z])
            rw [parts0_snoc, ← eL, List.map_map]
            rfl
      · rintro σ H2 ⟨_, x2, p, L, v2, rfl, hp, tL, eL⟩
        rw [List.length_map, List.take_length] at eL
        refine ⟨.ref p, rfl, p, L.map (fun q => V.ref q.1), rowAt H2, rfl, hp, fun x hx => ?_, hT.ext x2, fun ys r H3 hpm hsr eN T3 hn hr3 => ?_⟩
        · obtain ⟨q, hq, rfl⟩ := List.mem_map.mp hx
          exact ⟨q.1, rfl, by rw [rowAt_of (tL q hq)]; exact tL q hq⟩
        · obtain ⟨M, rfl, tM, pM, eM⟩ := rowsT_perm tL hpm
          refine k r H3 M ((nt_ex x2).trans (nt_ext eN)) T3 hr3 (fun q hq => eN _ _ (tM q hq) fun _ z => by cases z) (by rw [← eL]; exact pM) ?_
          show List.Pairwise _ _
          rw [eM, List.pairwise_map]
          exact hsr
end
end Rw
end T_PA

section T_PC
set_option Elab.async false
set_option linter.all false
set_option maxRecDepth 100000
set_option maxHeartbeats 4000000
namespace Rw
open PySem L2 PyProof.Rows LamX
theorem lastV_snoc (l : List V) (v : V) : lastV (l ++ [v]) = v := by
  unfold lastV
  rw [List.getLastD_eq_getLast?, List.getLast?_concat]
  rfl
theorem inV_non : ∀ zs : List Str, inV .non (zs.map V.str) = false
  | [] => rfl
  | z :: zs => by
    show (decide (V.non = V.str z) || inV .non (zs.map V.str)) = false
    rw [inV_non zs]
    rfl
theorem inV_spot {v : V} (hv : Spot v) (zs : List Str) : inV v (zs.map V.str) = decide (v ∈ zs.map V.str) := by
  rcases hv with rfl | ⟨y, rfl, _⟩
  · rw [inV_non, decide_eq_false]
    intro h
    obtain ⟨z, _, e⟩ := List.mem_map.mp h
    cases e
  · rw [inV_str]
    by_cases m : y ∈ zs
    · rw [decide_eq_true m, decide_eq_true (List.mem_map_of_mem m)]
    · rw [decide_eq_false m, decide_eq_false]
      intro h
      obtain ⟨z, hz, e⟩ := List.mem_map.mp h
      cases e
      exact m hz
/-- a walk is names and one place -/
theorem track_form {tb : List (Str × V)} (h : ∀ q ∈ tb, Spot q.2) : ∀ (k : Nat) (zs : List Str) (v : V), Spot v → ∃ (ys : List Str) (u : V), track tb k zs v = ys.map V.str ++ [u] ∧ Spot u := by
  intro k
  induction k with
  | zero => exact fun zs v hv => ⟨zs, v, rfl, hv⟩
  | succ k ih =>
    intro zs v hv
    rcases hv with rfl | ⟨y, rfl, hy⟩
    · exact ⟨zs, .non, track_non, .inl rfl⟩
    · cases q : valV (tkv tb) (Sum.inr y) with
      | none => exact ⟨zs, .str y, track_out q, .inr ⟨y, rfl, hy⟩⟩
      | some u =>
        by_cases m : y ∈ zs
        · exact ⟨zs, .str y, track_ring m, .inr ⟨y, rfl, hy⟩⟩
        · rw [track_on q m]
          have hk : y ∈ tb.map (·.1) := by
            by_cases hm : y ∈ tb.map (·.1)
            · exact hm
            · rw [tkv_none hm] at q; cases q
          obtain ⟨u', h1, h2⟩ := tkv_some hk
          rw [q] at h1
          rw [Option.some.inj h1]
          exact ih _ _ (h _ h2)
section
variable {P : Program} {w : World} {K : PySem.W.Frag} {mg : Str → Option Value} {base : Heap}
def spBreaks (C : Addr) : Sp := fun vs H Q _ => ∃ (m b : Addr) (wd e : Str) (zs : List Str) (v : V) (ends dots ss ps : List Str) (o n : Str → List (Str × V)), vs = [.ref m, .str wd, .str e, .ref b] ∧ NetAt C H m ends dots ss ps o n ∧ H b = some (.lst (zs.map V.str ++ [v])) ∧ (∀ z ∈ zs, Nm z) ∧ Spot v ∧ zs.length ≤ 200 ∧ ps.length ≤ 100 ∧
  ∀ H', Evl.Ex H H' → Q (.bl (breaksB wd e ps (zs.map V.str ++ [v]))) H'
theorem sc_breaks : FnScope ["net", "wish", "goal", "places"] ["net", "wish", "goal", "places"] (defScope p_breaks) := ⟨rfl, rfl, rfl, by decide +kernel, rfl, by decide +kernel, by decide +kernel⟩
theorem ok_breaks {f C : Addr} {fd : FuncData} (F : Fun K "breaks" "breaks" p_breaks f fd) (T : NetTxt K C) (P1 : Prp P w K mg base C 1 "posts" (spPosts C)) (C1 : Cal P w K mg base 2 "posts_passed" ["posts", "places"] (spPostsPassed (K := K))) (mLen : mg "len" = none) : FnOk P w K mg base CX0 3 f fd ["net", "wish", "goal", "places"] (spBreaks C) := by
  obtain ⟨p1, g1, fd1, at1, F1, b1⟩ := P1.ex
  obtain ⟨f2, fd2, F2, k2, b2, g2⟩ := C1.ex
  refine F.ok sc_breaks (fun vs H Q E h => ?_) (fun cdv A outer s H vs Q E hr h => ?_)
  · obtain ⟨m, b, wd, e, zs, v, ends, dots, ss, ps, o, n, rfl, _⟩ := h
    rfl
  · obtain ⟨m, b, wd, e, zs, v, ends, dots, ss, ps, o, n, rfl, N, hb, hz, hv, few, few2, k⟩ := h
    refine ⟨_, pss_cons (ps_if (pt_cmpR op_eq (pv 1) pe_str (nomark _)) (pss_one (ps_ret (pe_cmpR op_isN (pe_ix ix_list (pv 3) (pe_un un_neg pe_int) (fun _ _ => rfl)) pe_non (nomark _)))) pss_nil)
      (pss_cons (ps_if (pt_cmpR op_eq (pv 1) pe_str (nomark _)) (pss_one (ps_ret (pe_and (pe_cmpR op_eq (pe_ix ix_list (pv 3) (pe_un un_neg pe_int) (fun _ _ => rfl)) (pv 2) (nomark _))
          (pe_one (pe_cmpR op_lt (pe_call F2 hr rfl g2 k2 b2 .nil pass0 (pa_cons (pe_prop (pv 0) T.cl at1 F1 hr b1 .nil pass0 rfl) (pa_cons (pv 3) pa_nil))) (pe_callB call_len (by rfl) mLen PySem.boot_len (pa_cons (pe_prop (pv 0) T.cl at1 F1 hr b1 .nil pass0 rfl) pa_nil)) (nomark _)))))) pss_nil)
      (pss_one (ps_ret (pe_cmpR op_in_seq (pe_ix ix_list (pv 3) (pe_un un_neg pe_int) (fun _ _ => rfl)) (pe_slice sl_list (pv 3) po_none (po_some (pe_un un_neg pe_int))) rfl)))), ?_⟩
    have N2 := N
    obtain ⟨dx, T', N', S, Po, rows, h1, h2, h3, h4, h5, h6, h7⟩ := N.ex
    have hl := Evl.sq_of (K := K) hb
    have spots : ∀ u ∈ zs.map V.str ++ [v], Spot u := fun u hu => by
      rcases List.mem_append.mp hu with hu | hu
      · obtain ⟨z, hz', rfl⟩ := List.mem_map.mp hu
        exact .inr ⟨z, rfl, hz z hz'⟩
      · rw [List.mem_singleton.mp hu]
        exact hv
    refine ⟨.str wd, rfl, rfl, _, rfl, ite2 (fun q => ?_) (fun q => ?_)⟩
    · have ew : wd = ("lost" : Str) := by simpa using of_decide_eq_true q
      refine ⟨.ref b, rfl, 1, rfl, b, _, -1, v, rfl, rfl, hl, atI_last _ _, rfl, ?_⟩
      have eb : breaksB wd e ps (zs.map V.str ++ [v]) = decide (v = .non) := by unfold breaksB; rw [if_pos ew, lastV_snoc]
      rw [← eb]
      exact k H (Evl.Ex.refl _)
    · have ew : ¬ wd = ("lost" : Str) := fun z => by subst z; exact absurd q (by decide)
      refine ⟨.str wd, rfl, rfl, _, rfl, ite2 (fun q2 => ?_) (fun q2 => ?_)⟩
      · have ew2 : wd = ("posts" : Str) := by simpa using of_decide_eq_true q2
        have eb : breaksB wd e ps (zs.map V.str ++ [v]) = (decide (v = .str e) && decide (passedBy ps (zs.map V.str ++ [v]) < ps.length)) := by unfold breaksB; rw [if_neg ew, if_pos ew2, lastV_snoc]
        have sc : scal v (.str e) = true := by rcases hv with rfl | ⟨y, rfl, _⟩ <;> rfl
        refine ⟨.ref b, rfl, 1, rfl, b, _, -1, v, rfl, rfl, hl, atI_last _ _, .str e, rfl, sc, decide (v = .str e), rfl, ?_⟩
        by_cases ve : v = .str e
        · rw [decide_eq_true ve]
          refine iteT ?_
          refine ⟨.ref m, rfl, m, dx, _, rfl, h1, m, ends, dots, ss, ps, o, n, rfl, N2, fun p hp => ⟨.ref b, rfl, p, b, ps, _, rfl, Evl.st_of hp, hl, few2, spots, ?_⟩⟩
          refine ⟨.ref m, rfl, m, dx, _, rfl, h1, m, ends, dots, ss, ps, o, n, rfl, N2, fun p2 hp2 => ⟨.ref p2, (ps.map V.str).length, rfl, .inr ⟨_, Evl.st_of hp2, rfl⟩, _, _, rfl, rfl, ?_⟩⟩
          have e2 : decide (((passedBy ps (zs.map V.str ++ [v]) : Nat) : Int) < (((ps.map V.str).length : Nat) : Int)) = breaksB wd e ps (zs.map V.str ++ [v]) := by
            rw [eb, decide_eq_true ve, Bool.true_and, List.length_map]
            by_cases h : passedBy ps (zs.map V.str ++ [v]) < ps.length
            · rw [decide_eq_true h, decide_eq_true (by omega)]
            · rw [decide_eq_false h, decide_eq_false (by omega)]
          have kk := k H (Evl.Ex.refl _)
          rw [← e2] at kk
          exact kk
        · rw [decide_eq_false ve]
          refine iteF ?_
          rw [decide_eq_false ve, Bool.false_and] at eb
          rw [← eb]
          exact k H (Evl.Ex.refl _)
      · have ew2 : ¬ wd = ("posts" : Str) := fun z => by subst z; exact absurd q2 (by decide)
        have eb : breaksB wd e ps (zs.map V.str ++ [v]) = decide (v ∈ zs.map V.str) := by unfold breaksB; rw [if_neg ew, if_neg ew2, lastV_snoc, List.dropLast_concat]
        refine ⟨.ref b, rfl, 1, rfl, b, _, -1, v, rfl, rfl, hl, atI_last _ _, .ref b, rfl, 1, rfl, _, rfl, b, _, rfl, hl, fun c hc => ?_⟩
        have ecut : cutV (zs.map V.str ++ [v]) none (some (-1)) = zs.map V.str := by
          rw [cut_last]
          exact List.dropLast_concat
        rw [ecut]
        have fl : flatV v = true := by rcases hv with rfl | ⟨y, rfl, _⟩ <;> rfl
        refine ⟨c, zs.map V.str, rfl, .inl (Evl.sq_of upd_same), fl, flat_strs zs, ?_⟩
        rw [inV_spot hv, ← eb]
        exact k _ (Evl.Ex.new hc)
end
end Rw
end T_PC

section T_PD
set_option Elab.async false
set_option linter.all false
set_option maxRecDepth 100000
set_option maxHeartbeats 4000000
namespace Rw
open PySem L2 PyProof.Rows LamX
/-! ### what breaks a wish -/
/-- the packet for e that begins at z, while just the nodes of on have their new ways, breaks the wish -/
def brk (dots ps : List Str) (o n : Str → List (Str × V)) (wd : Str) (on : List Str) (e z : Str) : Bool :=
  breaksB wd e ps (walkOf (nowTab dots (o e) (n e) on) (dots.length + 1) z)
def places (wd : Str) (ends dots ss : List Str) : List (Str × Str) := ends.flatMap fun e => (startsOf wd dots ss).map fun z => (e, z)
def faultAt (ends dots ss ps : List Str) (o n : Str → List (Str × V)) (wd : Str) (on : List Str) : Option (Str × Str) :=
  (places wd ends dots ss).find? fun q => brk dots ps o n wd on q.1 q.2
theorem nowTab_congr {dots : List Str} {o n : List (Str × V)} {on on' : List Str} (h : ∀ z, z ∈ on ↔ z ∈ on') : nowTab dots o n on = nowTab dots o n on' := by
  unfold nowTab
  refine List.map_congr_left fun z _ => ?_
  by_cases m : z ∈ on
  · rw [if_pos m, if_pos ((h z).mp m)]
  · rw [if_neg m, if_neg fun q => m ((h z).mpr q)]
theorem brk_congr {dots ps : List Str} {o n : Str → List (Str × V)} {wd : Str} {on on' : List Str} (h : ∀ z, z ∈ on ↔ z ∈ on') (e z : Str) : brk dots ps o n wd on e z = brk dots ps o n wd on' e z := by
  unfold brk
  rw [nowTab_congr h]
theorem faultAt_congr {ends dots ss ps : List Str} {o n : Str → List (Str × V)} {wd : Str} {on on' : List Str} (h : ∀ z, z ∈ on ↔ z ∈ on') : faultAt ends dots ss ps o n wd on = faultAt ends dots ss ps o n wd on' := by
  unfold faultAt
  congr 1
  funext q
  exact brk_congr h _ _
theorem find_here {α : Type} {p : α → Bool} {A B : List α} {x : α} (hA : ∀ a ∈ A, p a = false) (hx : p x = true) : (A ++ x :: B).find? p = some x := by
  induction A with
  | nil => rw [List.nil_append, List.find?_cons, hx]
  | cons a A ih =>
    rw [List.cons_append, List.find?_cons, hA a List.mem_cons_self]
    exact ih fun b hb => hA b (List.mem_cons_of_mem _ hb)
theorem find_none {α : Type} {p : α → Bool} {A : List α} (hA : ∀ a ∈ A, p a = false) : A.find? p = none := by
  rw [List.find?_eq_none]
  intro a ha
  rw [hA a ha]
  decide
/-- no fault ahead of this place -/
theorem fault_here {ends dots ss ps : List Str} {o n : Str → List (Str × V)} {wd : Str} {on : List Str} {i j : Nat} {e z : Str} (hi : ends[i]? = some e) (hj : (startsOf wd dots ss)[j]? = some z)
    (h1 : ∀ q ∈ places wd (ends.take i) dots ss, brk dots ps o n wd on q.1 q.2 = false) (h2 : ∀ y ∈ (startsOf wd dots ss).take j, brk dots ps o n wd on e y = false) (h3 : brk dots ps o n wd on e z = true) : faultAt ends dots ss ps o n wd on = some (e, z) := by
  unfold faultAt
  have e1 : ends = ends.take i ++ e :: ends.drop (i + 1) := by
    have hl := (List.getElem?_eq_some_iff.mp hi)
    obtain ⟨hlt, he⟩ := hl
    rw [← he, List.getElem_cons_drop, List.take_append_drop]
  have e2 : startsOf wd dots ss = (startsOf wd dots ss).take j ++ z :: (startsOf wd dots ss).drop (j + 1) := by
    obtain ⟨hlt, he⟩ := (List.getElem?_eq_some_iff.mp hj)
    rw [← he, List.getElem_cons_drop, List.take_append_drop]
  have e3 : places wd ends dots ss = (places wd (ends.take i) dots ss ++ ((startsOf wd dots ss).take j).map fun y => (e, y)) ++ (e, z) :: ((((startsOf wd dots ss).drop (j + 1)).map fun y => (e, y)) ++ places wd (ends.drop (i + 1)) dots ss) := by
    have q1 : places wd ends dots ss = places wd (ends.take i) dots ss ++ ((startsOf wd dots ss).map (fun y => (e, y)) ++ places wd (ends.drop (i + 1)) dots ss) := by
      unfold places
      conv => lhs; rw [e1]
      rw [List.flatMap_append, List.flatMap_cons]
    have q2 : (startsOf wd dots ss).map (fun y => (e, y)) = ((startsOf wd dots ss).take j).map (fun y => (e, y)) ++ (e, z) :: ((startsOf wd dots ss).drop (j + 1)).map (fun y => (e, y)) := by
      conv => lhs; rw [e2]
      rw [List.map_append, List.map_cons]
    rw [q1, q2, List.append_assoc, List.append_assoc, List.cons_append]
  rw [e3]
  refine find_here (fun q hq => ?_) h3
  rcases List.mem_append.mp hq with hq | hq
  · exact h1 q hq
  · obtain ⟨y, hy, rfl⟩ := List.mem_map.mp hq
    exact h2 y hy
/-! ### the parts in their order -/
theorem numRow_anti {p q : List Str} (h1 : numRow ((q.length : Int), q) ((p.length : Int), p) = false) (h2 : numRow ((p.length : Int), p) ((q.length : Int), q) = false) : p = q := by
  unfold numRow at h1 h2
  dsimp only at h1 h2
  by_cases e : (q.length : Int) = (p.length : Int)
  · rw [if_pos e] at h1
    rw [if_pos e.symm] at h2
    exact lexS_tot h2 h1
  · rw [if_neg e, decide_eq_false_iff_not] at h1
    rw [if_neg (fun z => e z.symm), decide_eq_false_iff_not] at h2
    omega
theorem rowsSrt_uniq : ∀ {l m : List (List Str)}, l.Perm m → RowsSrt l → RowsSrt m → l = m := by
  intro l
  induction l with
  | nil => intro m hp _ _; exact (List.nil_perm.mp hp).symm
  | cons a l ih =>
    intro m hp hl hm
    cases m with
    | nil => exact absurd hp.length_eq (by simp)
    | cons b m =>
      have hab : a = b := by
        have ha : a ∈ b :: m := hp.mem_iff.mp List.mem_cons_self
        have hb : b ∈ a :: l := hp.mem_iff.mpr List.mem_cons_self
        rcases List.mem_cons.mp ha with e | ha
        · exact e
        · rcases List.mem_cons.mp hb with e | hb
          · exact e.symm
          · exact numRow_anti ((List.pairwise_cons.mp hl).1 b hb) ((List.pairwise_cons.mp hm).1 a ha)
      subst hab
      rw [ih (List.perm_cons a |>.mp hp) (List.pairwise_cons.mp hl).2 (List.pairwise_cons.mp hm).2]
open Classical in
noncomputable def partsS (zs : List Str) : List (List Str) := if h : ∃ Ls : List (List Str), Ls.Perm (parts0 zs) ∧ RowsSrt Ls then Classical.choose h else parts0 zs
theorem partsS_is {zs : List Str} {Ls : List (List Str)} (hp : Ls.Perm (parts0 zs)) (hs : RowsSrt Ls) : Ls = partsS zs := by
  have h : ∃ Ls : List (List Str), Ls.Perm (parts0 zs) ∧ RowsSrt Ls := ⟨Ls, hp, hs⟩
  unfold partsS
  rw [dif_pos h]
  have c := Classical.choose_spec h
  exact rowsSrt_uniq (hp.trans c.1.symm) hs c.2
theorem partsS_sub {zs : List Str} {p : List Str} (h : p ∈ partsS zs) : p.Sublist zs := by
  unfold partsS at h
  split at h
  · rename_i c
    exact parts0_sub ((Classical.choose_spec c).1.mem_iff.mp h)
  · exact parts0_sub h
theorem partsS_has {zs : List Str} {p : List Str} (h : p.Sublist zs) : p ∈ partsS zs := by
  unfold partsS
  split
  · rename_i c
    exact (Classical.choose_spec c).1.mem_iff.mpr (parts0_has h)
  · exact parts0_has h
/-- the first fault of a round -/
noncomputable def firstFault (ends dots ss ps : List Str) (o n : Str → List (Str × V)) (wd : Str) (zs ys : List Str) : Option (Str × List Str × Str) :=
  (partsS ys).findSome? fun on => (faultAt ends dots ss ps o n wd (zs ++ on)).map fun q => (q.1, on, q.2)
theorem findSome_here {α β : Type} {f : α → Option β} {A B : List α} {x : α} {b : β} (hA : ∀ a ∈ A, f a = none) (hx : f x = some b) : (A ++ x :: B).findSome? f = some b := by
  induction A with
  | nil => rw [List.nil_append, List.findSome?_cons, hx]
  | cons a A ih =>
    rw [List.cons_append, List.findSome?_cons, hA a List.mem_cons_self]
    exact ih fun b hb => hA b (List.mem_cons_of_mem _ hb)
theorem findSome_none {α β : Type} {f : α → Option β} {A : List α} (hA : ∀ a ∈ A, f a = none) : A.findSome? f = none := by
  rw [List.findSome?_eq_none_iff]
  exact hA
end Rw
end T_PD

section T_LC
set_option Elab.async false
set_option linter.all false
set_option maxRecDepth 100000
set_option maxHeartbeats 4000000
namespace Rw
open PySem L2 PyProof.Rows
/-! ### comprehensions with two for -/
theorem lc2_out {J : It} {n : Nat} {G : Hp → Prop} {Y : Nat → Hp → V → Hp → Prop} (wk : Walk J n G Y) {g g1 : TG} {tt tt1 : TT} {te : TE} {wi1 : TI} {vs vs1 : List Nat} {σ : L2.St} {H1 : Hp} {D : Addr} {Qd : Hp → Prop} (Pv : Nat → Hp → Prop) (start : Pv 0 (upd H1 D (.lst []))) (hG : ∀ i H, i ≤ n → Pv i H → G H)
    (turn : ∀ i x H H', i < n → Pv i H → Y i H x H' → g x (wipe σ vs) H' fun σ2 H2 => wipe σ2 vs = wipe σ vs ∧ tt σ2 H2 fun b H3 => if b = true then wi1 σ2 H3 fun J1 H4 => ∃ W1 : Nat → Nat → Hp → Prop, (∃ m, W1 0 m H4) ∧ ∀ j k H, W1 j k H →
      (J1.stop j H ∧ Pv (i + 1) H) ∨ (J1.go j H ∧ ∃ Nx1 : Hp → Prop, (∀ H', Nx1 H' → ∃ k', k' < k ∧ W1 (j + 1) k' H') ∧ ∀ x H', J1.yld j H x H' → g1 x (wipe σ2 vs1) H' fun σ3 H5 => wipe σ3 vs1 = wipe σ2 vs1 ∧ tt1 σ3 H5 fun b H6 =>
        if b = true then te σ3 H6 fun y H7 => ∃ acc, H7 D = some (.lst acc) ∧ acc.length < sizeLine ∧ Nx1 (upd H7 D (.lst (acc ++ [y]))) else Nx1 H6) else Pv (i + 1) H3) (fin : ∀ H, Pv n H → Qd H) :
    ∃ W : Nat → Nat → Hp → Prop, (∃ m, W 0 m (upd H1 D (.lst []))) ∧ ∀ i m H, W i m H →
      (J.stop i H ∧ Qd H) ∨ (J.go i H ∧ ∃ Nx : Hp → Prop, (∀ H', Nx H' → ∃ m', m' < m ∧ W (i + 1) m' H') ∧ ∀ x H', J.yld i H x H' → g x (wipe σ vs) H' fun σ2 H2 => wipe σ2 vs = wipe σ vs ∧ tt σ2 H2 fun b H3 =>
        if b = true then wi1 σ2 H3 fun J1 H4 => ∃ W1 : Nat → Nat → Hp → Prop, (∃ m, W1 0 m H4) ∧ ∀ j k H, W1 j k H →
          (J1.stop j H ∧ Nx H) ∨ (J1.go j H ∧ ∃ Nx1 : Hp → Prop, (∀ H', Nx1 H' → ∃ k', k' < k ∧ W1 (j + 1) k' H') ∧ ∀ x H', J1.yld j H x H' → g1 x (wipe σ2 vs1) H' fun σ3 H5 => wipe σ3 vs1 = wipe σ2 vs1 ∧ tt1 σ3 H5 fun b H6 =>
            if b = true then te σ3 H6 fun y H7 => ∃ acc, H7 D = some (.lst acc) ∧ acc.length < sizeLine ∧ Nx1 (upd H7 D (.lst (acc ++ [y]))) else Nx1 H6)
        else Nx H3) := by
  refine ⟨fun i m H => m = n - i ∧ i ≤ n ∧ Pv i H, ⟨n, by simp, Nat.zero_le _, start⟩, ?_⟩
  rintro i m H ⟨rfl, hi, p⟩
  by_cases lt : i < n
  · exact .inr ⟨wk.goes i H lt (hG i H hi p), Pv (i + 1), fun H' p' => ⟨n - (i + 1), by omega, rfl, lt, p'⟩, fun x H' y => turn i x H H' lt p (wk.yields i H x H' lt (hG i H hi p) y)⟩
  · have e : i = n := by omega
    subst e
    exact .inl ⟨wk.stops H (hG _ H hi p), fin H p⟩
theorem lc2_in {J : It} {n : Nat} {G : Hp → Prop} {Y : Nat → Hp → V → Hp → Prop} (wk : Walk J n G Y) {g1 : TG} {tt1 : TT} {te : TE} {vs1 : List Nat} {σ : L2.St} {H4 : Hp} {D : Addr} {Nx : Hp → Prop} (Pv : Nat → Hp → Prop) (start : Pv 0 H4) (hG : ∀ i H, i ≤ n → Pv i H → G H)
    (turn : ∀ j x H H', j < n → Pv j H → Y j H x H' → g1 x (wipe σ vs1) H' fun σ3 H5 => wipe σ3 vs1 = wipe σ vs1 ∧ tt1 σ3 H5 fun b H6 =>
      if b = true then te σ3 H6 fun y H7 => ∃ acc, H7 D = some (.lst acc) ∧ acc.length < sizeLine ∧ Pv (j + 1) (upd H7 D (.lst (acc ++ [y]))) else Pv (j + 1) H6) (fin : ∀ H, Pv n H → Nx H) :
    ∃ W1 : Nat → Nat → Hp → Prop, (∃ m, W1 0 m H4) ∧ ∀ j k H, W1 j k H →
      (J.stop j H ∧ Nx H) ∨ (J.go j H ∧ ∃ Nx1 : Hp → Prop, (∀ H', Nx1 H' → ∃ k', k' < k ∧ W1 (j + 1) k' H') ∧ ∀ x H', J.yld j H x H' → g1 x (wipe σ vs1) H' fun σ3 H5 => wipe σ3 vs1 = wipe σ vs1 ∧ tt1 σ3 H5 fun b H6 =>
        if b = true then te σ3 H6 fun y H7 => ∃ acc, H7 D = some (.lst acc) ∧ acc.length < sizeLine ∧ Nx1 (upd H7 D (.lst (acc ++ [y]))) else Nx1 H6) := by
  refine ⟨fun j k H => k = n - j ∧ j ≤ n ∧ Pv j H, ⟨n, by simp, Nat.zero_le _, start⟩, ?_⟩
  rintro j k H ⟨rfl, hj, p⟩
  by_cases lt : j < n
  · exact .inr ⟨wk.goes j H lt (hG j H hj p), Pv (j + 1), fun H' p' => ⟨n - (j + 1), by omega, rfl, lt, p'⟩, fun x H' y => turn j x H H' lt p (wk.yields j H x H' lt (hG j H hj p) y)⟩
  · have e : j = n := by omega
    subst e
    exact .inl ⟨wk.stops H (hG _ H hj p), fin H p⟩
end Rw
end T_LC

section T_LL
set_option Elab.async false
set_option linter.all false
set_option maxRecDepth 100000
set_option maxHeartbeats 8000000
namespace Rw
open PySem L2 PyProof.Rows
section
variable {P : Program} {w : World} {K : PySem.W.Frag} {mg : Str → Option Value} {base : Heap}
/-! ### all parts, as the law tells them -/
def spLots (K : PySem.W.Frag) : Sp := fun vs H Q _ => ∃ (a : Addr) (zs : List Str), vs = [.ref a] ∧ (SqL K H a (zs.map V.str) ∨ SqT K H a (zs.map V.str)) ∧ zs.length ≤ 6 ∧
  ∀ (p : Addr) (H' : Hp) (L : List (Addr × List Str)) (js : List Str), js.Perm zs → sortedS js = true → Evl.Ex H H' → H p = none → H' p = some (.lst (L.map fun q => V.ref q.1)) → RowsT H' L → L.map (·.2) = partsS js → Q (.ref p) H'
abbrev nLots : List Str := ["some", "found", "dot", "lot_here", "size"]
theorem sc_lots : FnScope nLots ["some"] (defScope s_lots) := ⟨rfl, rfl, rfl, by decide +kernel, rfl, by decide +kernel, by decide +kernel⟩
theorem ok_llots {f : Addr} {fd : FuncData} (F : Fun K "_law_lots" "_law_lots" s_lots f fd) (mLen : mg "len" = none) (mSorted : mg "sorted" = none) : FnOk P w K mg base CX0 1 f fd ["some"] (spLots K) := by
  refine F.ok sc_lots (fun vs H Q E h => ?_) (fun cdv A outer s H vs Q E hr h => ?_)
  · obtain ⟨a, zs, rfl, _⟩ := h
    rfl
  · obtain ⟨a, zs0, rfl, hS, h60, k⟩ := h
    have nd := sc_lots.nd
    refine ⟨_, pss_cons (ps_set (i := 1) nd rfl (.inl rfl) (pe_lst (pa_cons (pe_tup pa_nil) pa_nil)))
      (pss_cons (ps_for PassesOwn.never rfl (pi_list (pe_callB cr_sortedLU (by rfl) mSorted (by decide +kernel) (pa_cons (pv 0) pa_nil))) (pg_name (i := 2) nd rfl (.inr rfl))
        (pss_one (ps_set (i := 1) nd rfl (.inl rfl) (pe_op op_cat (pv 1)
          (pe_lc (own := [("lot_here", 3)]) (g := gName 3) (tt := tYes) (te := tOp rCatU (tVar 3) (tTup (tCons (tVar 2) tNil))) rfl nd (pi_list (pv 1)) (blkOk_by (own := [("lot_here", 3)]) (N := nLots) (sc := defScope s_lots) (by decide +kernel))
            (fun _ _ _ _ _ => pg_name (i := 3) nd rfl (Or.inl rfl)) (fun _ _ _ _ _ => pts_nil) (fun _ _ _ _ _ => pe_op op_catU (pv 3) (pe_tup (pa_cons (pv 2) pa_nil))))))))
      (pss_one (ps_ret (pe_lc (own := [("size", 4), ("lot_here", 3)]) (g := gTup K 2 (gCons (gName 4) (gCons (gName 3) gNil))) (tt := tYes) (te := tVar 3) rfl nd
          (pi_list (pe_callB (cr_sortNR (Nat.lt_of_le_of_lt (Nat.add_le_add_left (show 2 ≤ 64 by decide) _) hr.units)) (by rfl) mSorted (by decide +kernel) (pa_cons (pe_lc (own := [("lot_here", 3)]) (g := gName 3) (tt := tYes) (te := tTup (tCons (tCB (fun xs H Q => ∃ x n, xs = [x] ∧ LenV K x H n ∧ Q (.int (n : Nat)) H) (tCons (tVar 3) tNil)) (tCons (tVar 3) tNil))) rfl nd (pi_list (pv 1)) (blkOk_by (own := [("lot_here", 3)]) (N := nLots) (sc := defScope s_lots) (by decide +kernel))
            (fun _ _ _ _ _ => pg_name (i := 3) nd rfl (Or.inl rfl)) (fun _ _ _ _ _ => pts_nil) (fun _ _ _ _ _ => pe_tup (pa_cons (pe_callB call_len (by rfl) mLen PySem.boot_len (pa_cons (pv 3) pa_nil)) (pa_cons (pv 3) pa_nil)))) pa_nil)))
          (blkOk_by (own := [("size", 4), ("lot_here", 3)]) (N := nLots) (sc := defScope s_lots) (by decide +kernel))
          (fun _ _ _ _ _ => pg_tup rfl (pgs_cons (pg_name (i := 4) nd rfl (Or.inl rfl)) (pgs_cons (pg_name (i := 3) nd rfl (Or.inl rfl)) pgs_nil))) (fun _ _ _ _ _ => pts_nil) (fun _ _ _ _ _ => pv 3))))), ?_⟩
    -- found = [()]
    refine ⟨by show 0 ≤ sizeLine; decide, fun e0 he0 => ⟨by show 1 ≤ sizeLine; decide, fun p0 hp0 => ?_⟩⟩
    have x1 : Evl.Ex H (upd (upd H e0 (.tup [])) p0 (.lst [.ref e0])) := (Evl.Ex.new he0).trans (Evl.Ex.new hp0)
    have l1 : (upd (upd H e0 (.tup [])) p0 (.lst [.ref e0])) p0 = some (.lst ([(e0, ([] : List Str))].map fun q => V.ref q.1)) := upd_same
    have t1 : RowsT (upd (upd H e0 (.tup [])) p0 (.lst [.ref e0])) [(e0, [])] := fun q hq => by
      rw [List.mem_singleton.mp hq]
      rw [upd_ne (ne_of_none (upd_same (H := H) (a := e0) (o := .tup [])) hp0)]
      exact upd_same
    generalize upd (upd H e0 (.tup [])) p0 (.lst [.ref e0]) = H1 at x1 l1 t1
    refine ⟨.ref a, rfl, a, zs0, rfl, hS.imp (Evl.ex_l x1) (Evl.ex_t x1), by omega, fun zs b hperm hsort hb => ?_⟩
    have h6 : zs.length ≤ 6 := by rw [hperm.length_eq]; exact h60
    have yb : Evl.Ex H1 (upd H1 b (.lst (zs.map V.str))) := Evl.Ex.new hb
    have sb : (upd H1 b (.lst (zs.map V.str))) b = some (.lst (zs.map V.str)) := upd_same
    replace x1 := x1.trans yb
    replace l1 := yb _ _ l1
    replace t1 := t1.to yb
    generalize upd H1 b (.lst (zs.map V.str)) = H1b at yb sb x1 l1 t1
    refine ⟨b, rfl, ⟨_, Evl.sq_of sb⟩, for_list (K := K) (a := b) (xs := zs.map V.str)
      (fun i σ H' => i ≤ zs.length ∧ (Evl.Ex H H' ∧ H' b = some (.lst (zs.map V.str))) ∧ ∃ (p : Addr) (L : List (Addr × List Str)) (x2 : Option V), σ = [some (.ref a), some (.ref p), x2, none, none] ∧ H' p = some (.lst (L.map fun q => V.ref q.1)) ∧ RowsT H' L ∧ L.map (·.2) = parts0 (zs.take i))
      ⟨Nat.zero_le _, ⟨x1, sb⟩, p0, [(e0, [])], none, rfl, l1, t1, rfl⟩ (fun i σ H' _ h => Evl.sq_of h.2.1.2) ?_ ?_⟩
    · rintro i y σ H2 hi ⟨_, ⟨x2, b2⟩, p, L, v2, rfl, hp, tL, eL⟩
      obtain ⟨z, hz, rfl⟩ := str_at hi
      have hil : i < zs.length := (List.getElem?_eq_some_iff.mp hz).1
      have few : L.length ≤ 64 := by
        have h1 := congrArg List.length eL
        rw [List.length_map, parts0_len i _ (by rw [List.length_take]; omega)] at h1
        rw [h1]
        exact Nat.le_trans (Nat.pow_le_pow_right (by decide) (by omega : i ≤ 6)) (by decide)
      have rowsLen : ∀ q ∈ L, q.2.length ≤ 6 := fun q hq => by
        have hm : q.2 ∈ parts0 (zs.take i) := by rw [← eL]; exact List.mem_map_of_mem hq
        exact Nat.le_trans (parts0_sub hm).length_le (by rw [List.length_take]; omega)
      refine ⟨.ref p, rfl, .ref p, rfl, p, rfl, ⟨_, Evl.sq_of hp⟩, fun D hD => lc_list (K := K) (a := p) (xs := L.map fun q => V.ref q.1)
        (fun j H' => j ≤ L.length ∧ Evl.Ex H2 H' ∧ ∃ M : List (Addr × List Str), H' D = some (.lst (M.map fun q => V.ref q.1)) ∧ RowsT H' M ∧ M.map (·.2) = (L.take j).map fun q => q.2 ++ [z])
        ⟨Nat.zero_le _, Evl.Ex.new hD, [], upd_same, (fun q hq => nomatch hq), rfl⟩ (fun j H' _ h => Evl.sq_of (h.2.1 _ _ hp)) ?_ ?_⟩
      · rintro j v H3 hj ⟨_, x3, M, hM, tM, eM⟩
        obtain ⟨q, hq, rfl⟩ := rowsT_at hj
        have hjl : j < L.length := (List.getElem?_eq_some_iff.mp hq).1
        have mq := List.mem_of_getElem? hq
        have tq := x3 _ _ (tL q mq)
        have Ml : M.length ≤ 64 := by
          have := congrArg List.length eM
          rw [List.length_map, List.length_map, List.length_take] at this
          omega
        refine ⟨rfl, yes_if ?_⟩
        refine ⟨.ref q.1, rfl, .str z, rfl, by show 1 ≤ sizeLine; decide, fun s hs => ?_⟩
        have y0 : Evl.Ex H3 (upd H3 s (.tup [.str z])) := Evl.Ex.new hs
        have s0 : (upd H3 s (.tup [.str z])) s = some (.tup [.str z]) := upd_same
        generalize upd H3 s (.tup [.str z]) = H3' at y0 s0
        refine ⟨q.1, s, _, _, rfl, rfl, y0 _ _ tq, s0, ?_, fun t H4 y1 t2 => ?_⟩
        · rw [List.length_map]
          have := rowsLen q mq
          exact Nat.le_of_lt (small1000 (by simp only [List.length_cons, List.length_nil]; omega))
        have t2' : H4 t = some (.tup ((q.2 ++ [z]).map V.str)) := by rw [t2, List.map_append]; rfl
        have y01 := y0.trans y1
        refine ⟨_, y01 _ _ hM, by rw [List.length_map]; exact small1000 (by omega), hjl, (x3.trans y01).mut hD, M ++ [(t, q.2 ++ [z])], ?_, ?_, ?_⟩
        · rw [upd_same, List.map_append]
          rfl
        · refine RowsT.mut (RowsT.app (tM.to y01) fun q' hq' => ?_) (y01 _ _ hM)
          rw [List.mem_singleton.mp hq']
          exact t2'
        · rw [List.map_append, eM, List.take_add_one, hq, List.map_append]
          rfl
      · rintro H3 ⟨_, x3, M, hM, tM, eM⟩
        rw [List.length_map, List.take_length] at eM
        have Ml : M.length ≤ 64 := by
          have := congrArg List.length eM
          rw [List.length_map, List.length_map] at this
          omega
        refine ⟨p, D, _, _, rfl, rfl, x3 _ _ hp, hM, Nat.le_of_lt (small1000 (by rw [List.length_map, List.length_map]; omega)), fun r hr' => ?_⟩
        refine ⟨hil, ⟨(x2.trans x3).trans (Evl.Ex.new hr'), (x3.trans (Evl.Ex.new hr')) _ _ b2⟩, r, L ++ M, _, rfl, ?_, RowsT.to (RowsT.app (tL.to x3) tM) (Evl.Ex.new hr'), ?_⟩
        · rw [upd_same, List.map_append]
        · rw [List.map_append, eM, eL, List.take_add_one, hz]
          show _ = parts0 (zs.take i ++ [z])
          rw [parts0_snoc, ← eL, List.map_map]
          rfl
    · rintro σ H2 ⟨_, ⟨x2, b2⟩, p, L, v2, rfl, hp, tL, eL⟩
      rw [List.length_map, List.take_length] at eL
      have few : L.length ≤ 64 := by
        have h1 := congrArg List.length eL
        rw [List.length_map, parts0_len zs.length _ rfl] at h1
        rw [h1]
        exact Nat.le_trans (Nat.pow_le_pow_right (by decide) h6) (by decide)
      -- the pairs
      refine ⟨.ref p, rfl, p, rfl, ⟨_, Evl.sq_of hp⟩, fun R hR => lc_list (K := K) (a := p) (xs := L.map fun q => V.ref q.1)
        (fun i H' => ∃ T : List (Addr × Addr × List Str), H' R = some (.lst (T.map fun t => V.ref t.1)) ∧ T.map (·.2) = L.take i ∧ (∀ t ∈ T, H' t.1 = some (.tup [.int ((t.2.2.length : Nat) : Int), .ref t.2.1])) ∧ Evl.Ex H2 H')
        ⟨[], upd_same, rfl, (fun t ht => nomatch ht), Evl.Ex.new hR⟩ (fun i H' _ h => let ⟨_, _, _, _, h⟩ := h; Evl.sq_of (h _ _ hp)) ?_ ?_⟩
      · rintro i v H6 hi ⟨T, t6, eT, tt, x6⟩
        obtain ⟨q, hq, rfl⟩ := rowsT_at hi
        have tq := x6 _ _ (tL q (List.mem_of_getElem? hq))
        have Tl : T.length ≤ 64 := by
          have := congrArg List.length eT
          rw [List.length_map, List.length_take] at this
          omega
        refine ⟨rfl, ?_⟩
        refine yes_if ?_
        refine ⟨.ref q.1, rfl, .ref q.1, (q.2.map V.str).length, rfl, .inr ⟨_, Evl.st_of tq, rfl⟩, .ref q.1, rfl, by show 2 ≤ sizeLine; decide, fun t ht => ?_⟩
        have y6 : Evl.Ex H6 (upd H6 t (.tup [.int ((q.2.map V.str).length : Nat), .ref q.1])) := Evl.Ex.new ht
        have t7 : (upd H6 t (.tup [.int ((q.2.map V.str).length : Nat), .ref q.1])) t = some (.tup [.int (q.2.length : Nat), .ref q.1]) := by rw [upd_same, List.length_map]
        generalize upd H6 t (.tup [.int ((q.2.map V.str).length : Nat), .ref q.1]) = H7 at y6 t7
        refine ⟨_, y6 _ _ t6, by rw [List.length_map]; exact small1000 (by omega), T ++ [(t, q)], ?_, ?_, fun u hu => ?_, (x6.trans y6).mut hR⟩
        · rw [upd_same, List.map_append]
          rfl
        · rw [List.map_append, eT, List.take_add_one, hq]
          rfl
        · rcases List.mem_append.mp hu with hu | hu
          · rw [upd_ne (ne_of (y6 _ _ (tt u hu)) (y6 _ _ t6) (by intro z; cases z))]
            exact y6 _ _ (tt u hu)
          · rw [List.mem_singleton.mp hu]
            show (upd H7 R _) t = _
            rw [upd_ne (ne_of t7 (y6 _ _ t6) (by intro z; cases z))]
            exact t7
      · rintro H6 ⟨T, t6, eT, tt, x6⟩
        rw [List.length_map, List.take_length] at eT
        have mT : ∀ t ∈ T, t.2 ∈ L := fun t ht => by rw [← eT]; exact List.mem_map_of_mem ht
        have keys : ∀ t ∈ T, keyN H6 (.ref t.1) = (((t.2.2.length : Nat) : Int), t.2.2) := fun t ht => keyN_of (tt t ht) (x6 _ _ (tL _ (mT t ht)))
        refine ⟨R, T.map (fun t => V.ref t.1), keyN H6, rfl, Evl.sq_of t6, fun x hx => ?_, fun ys so perm srd hso => ?_⟩
        · obtain ⟨t, ht, rfl⟩ := List.mem_map.mp hx
          refine ⟨t.1, t.2.1, rfl, ?_, ?_⟩
          · rw [keys t ht]
            exact tt t ht
          · rw [keys t ht]
            exact x6 _ _ (tL _ (mT t ht))
        obtain ⟨T', rfl, pT⟩ := perm_map perm T rfl
        have y7 : Evl.Ex H6 (upd H6 so (.lst (T'.map fun t => V.ref t.1))) := Evl.Ex.new hso
        have s7 : (upd H6 so (.lst (T'.map fun t => V.ref t.1))) so = some (.lst (T'.map fun t => V.ref t.1)) := upd_same
        generalize upd H6 so (.lst (T'.map fun t => V.ref t.1)) = H7 at y7 s7
        have mT' : ∀ t ∈ T', t ∈ T := fun t ht => pT.mem_iff.mp ht
        have Tl : T'.length ≤ 64 := by
          have := congrArg List.length eT
          rw [List.length_map, ← pT.length_eq] at this
          omega
        refine ⟨so, rfl, ⟨_, Evl.sq_of s7⟩, fun R2 hR2 => lc_list (K := K) (a := so) (xs := T'.map fun t => V.ref t.1)
          (fun i H' => H' R2 = some (.lst ((T'.take i).map fun t => V.ref t.2.1)) ∧ Evl.Ex H7 H') ⟨upd_same, Evl.Ex.new hR2⟩ (fun i H' _ h => Evl.sq_of (h.2 _ _ s7)) ?_ ?_⟩
        · rintro i v H8 hi ⟨a8, x8⟩
          rw [List.getElem?_map] at hi
          obtain ⟨t, ht, rfl⟩ : ∃ t, T'[i]? = some t ∧ v = .ref t.1 := by
            cases e : T'[i]? with
            | none => rw [e] at hi; cases hi
            | some t => rw [e] at hi; exact ⟨t, rfl, (Option.some.inj hi).symm⟩
          have mt := mT' t (List.mem_of_getElem? ht)
          refine ⟨t.1, _, rfl, Evl.st_of ((y7.trans x8) _ _ (tt t mt)), rfl, _, _, rfl, _, [], rfl, rfl, rfl, ?_⟩
          refine yes_if ?_
          refine ⟨.ref t.2.1, rfl, _, a8, ?_, ?_, x8.mut hR2⟩
          · rw [List.length_map, List.length_take]
            exact small1000 (by omega)
          · rw [upd_same, List.take_add_one, ht, List.map_append]
            rfl
        · rintro H8 ⟨a8, x8⟩
          rw [List.length_map, List.take_length] at a8
          have x28 := (x6.trans y7).trans x8
          have hR2' : H R2 = none := ex_none (x2.trans (x6.trans y7)) hR2
          refine k R2 H8 (T'.map (·.2)) zs hperm hsort (x2.trans x28) hR2' (by rw [a8, List.map_map]; rfl) (fun q hq => ?_) (partsS_is ?_ ?_)
          · obtain ⟨t, ht, rfl⟩ := List.mem_map.mp hq
            exact x28 _ _ (tL _ (mT t (mT' t ht)))
          · rw [← eL, ← eT]
            exact (pT.map _).map _
          · show List.Pairwise _ _
            rw [List.map_map, List.pairwise_map]
            refine List.Pairwise.imp_of_mem (fun {a b} ha hb h => ?_) (List.pairwise_map.mp srd)
            have h' : numRow (keyN H6 (.ref b.1)) (keyN H6 (.ref a.1)) = false := h
            rw [keys a (mT' a ha), keys b (mT' b hb)] at h'
            exact h'
end
end Rw
end T_LL

section T_BD
set_option Elab.async false
set_option linter.all false
set_option maxRecDepth 100000
set_option maxHeartbeats 4000000
namespace Rw
open PySem L2 PyProof.Rows
/-! ### the nodes that are not done -/
def restOf (zs ys : List Str) : List Str := ys.filter fun z => decide (z ∉ zs)
theorem restOf_snoc (zs l : List Str) (z : Str) : restOf zs (l ++ [z]) = restOf zs l ++ if z ∈ zs then [] else [z] := by
  unfold restOf
  rw [List.filter_append]
  by_cases m : z ∈ zs
  · rw [if_pos m, List.filter_cons_of_neg (by rw [decide_eq_false (not_not_intro m)]; decide)]
    rfl
  · rw [if_neg m, List.filter_cons_of_pos (by rw [decide_eq_true m])]
    rfl
end Rw
end T_BD

section T_PE
set_option Elab.async false
set_option linter.all false
set_option maxRecDepth 100000
set_option maxHeartbeats 4000000
namespace Rw
open PySem L2 PyProof.Rows LamX
structure TabsOk (ends dots : List Str) (o n : Str → List (Str × V)) : Prop where
  to : ∀ e ∈ ends, TabOk dots e (o e)
  tn : ∀ e ∈ ends, TabOk dots e (n e)
theorem places_snoc (wd : Str) (l : List Str) (e : Str) (dots ss : List Str) : places wd (l ++ [e]) dots ss = places wd l dots ss ++ (startsOf wd dots ss).map fun z => (e, z) := by
  unfold places
  rw [List.flatMap_append, List.flatMap_cons, List.flatMap_nil, List.append_nil]
theorem sqt_to {K : PySem.W.Frag} {H H' : Hp} {a : Addr} {xs : List V} (h : SqT K H a xs) (x : Evl.Ex H H') : SqT K H' a xs := Evl.ex_t x h
section
variable {P : Program} {w : World} {K : PySem.W.Frag} {mg : Str → Option Value} {base : Heap}
/-- what an optional pair of names is as a value -/
def PairIs (H : Hp) (v : V) : Option (Str × Str) → Prop
  | none => v = .non
  | some (e, z) => ∃ p, v = .ref p ∧ H p = some (.tup [.str e, .str z])
def spFaultAt (C : Addr) : Sp := fun vs H Q _ => ∃ (m a : Addr) (wd : Str) (on ends dots ss ps : List Str) (o n : Str → List (Str × V)), vs = [.ref m, .ref a, .str wd] ∧ NetAt C H m ends dots ss ps o n ∧ ModelOk ends dots ss ps ∧ TabsOk ends dots o n ∧ SqT K H a (on.map V.str) ∧
  ∀ v H', Evl.Ex H H' → PairIs H' v (faultAt ends dots ss ps o n wd on) → Q v H'
abbrev nFaultAt : List Str := ["net", "changed", "wish", "goal", "table", "node"]
theorem sc_fault_at : FnScope nFaultAt ["net", "changed", "wish"] (defScope p_fault_at) := ⟨rfl, rfl, rfl, by decide +kernel, rfl, by decide +kernel, by decide +kernel⟩
theorem ok_fault_at {f C : Addr} {fd : FuncData} (F : Fun K "fault_at" "fault_at" p_fault_at f fd) (T : NetTxt K C) (P1 : Prp P w K mg base C 1 "goals" (spGoals C)) (C1 : Cal P w K mg base 3 "ways_at" ["net", "done", "changed", "goal"] (spWaysAt (K := K) C))
    (C2 : Cal P w K mg base 3 "starts" ["net", "wish"] (spStarts C)) (C3 : Cal P w K mg base 3 "breaks" ["net", "wish", "goal", "places"] (spBreaks C)) (C4 : Cal P w K mg base 1 "followed" ["table", "node"] spFollowed) :
    FnOk P w K mg base CX0 4 f fd ["net", "changed", "wish"] (spFaultAt (K := K) C) := by
  obtain ⟨p1, g1, fd1, at1, F1, b1⟩ := P1.ex
  obtain ⟨f2, fd2, F2, k2, b2, g2⟩ := C1.ex
  obtain ⟨f3, fd3, F3, k3, b3, g3⟩ := C2.ex
  obtain ⟨f4, fd4, F4, k4, b4, g4⟩ := C3.ex
  obtain ⟨f5, fd5, F5, k5, b5, g5⟩ := C4.ex
  refine F.ok sc_fault_at (fun vs H Q E h => ?_) (fun cdv A outer s H vs Q E hr h => ?_)
  · obtain ⟨m, a, wd, on, ends, dots, ss, ps, o, n, rfl, _⟩ := h
    rfl
  · obtain ⟨m, a, wd, on, ends, dots, ss, ps, o, n, rfl, N, ok, tok, ha, k⟩ := h
    have nd := sc_fault_at.nd
    have hr1 : Room 1 _ := hr.mono (by decide)
    have hr2 : Room 2 _ := hr.mono (by decide)
    refine ⟨_, pss_cons (ps_for PassesOwn.never rfl (pi_tup (pe_prop (pv 0) T.cl at1 F1 hr2 b1 .nil pass0 rfl)) (pg_name (i := 3) nd rfl (.inl rfl))
        (pss_cons (ps_set (i := 4) nd rfl (.inl rfl) (pe_call F2 hr rfl g2 k2 b2 .nil pass0 (pa_cons (pv 0) (pa_cons (pe_tup pa_nil) (pa_cons (pv 1) (pa_cons (pv 3) pa_nil))))))
        (pss_one (ps_for PassesOwn.never rfl (pi_tup (pe_call F3 hr rfl g3 k3 b3 .nil pass0 (pa_cons (pv 0) (pa_cons (pv 2) pa_nil)))) (pg_name (i := 5) nd rfl (.inl rfl))
          (pss_one (ps_if (pt_val (pe_call F4 hr rfl g4 k4 b4 .nil pass0 (pa_cons (pv 0) (pa_cons (pv 2) (pa_cons (pv 3) (pa_cons (pe_call F5 hr1 rfl g5 k5 b5 .nil pass0 (pa_cons (pv 4) (pa_cons (pv 5) pa_nil))) pa_nil))))))
            (pss_one (ps_ret (pe_tup (pa_cons (pv 3) (pa_cons (pv 5) pa_nil))))) pss_nil))))))
      (pss_one (ps_ret pe_non)), ?_⟩
    have e2 := ok.e2
    have d6 := ok.d6
    have p2 := ok.p2
    have N2 := N
    obtain ⟨dx, T', N', S, Po, rows, h1, h2, h3, h4, h5, h6, h7⟩ := N.ex
    refine ⟨.ref m, rfl, m, dx, _, rfl, h1, m, ends, dots, ss, ps, o, n, rfl, N2, by omega, fun q hq => ?_⟩
    have x0 : Evl.Ex H (upd H q (.tup (ends.map V.str))) := Evl.Ex.new hq
    have tq : (upd H q (.tup (ends.map V.str))) q = some (.tup (ends.map V.str)) := upd_same
    generalize upd H q (.tup (ends.map V.str)) = H0 at x0 tq
    refine ⟨q, rfl, ⟨_, Evl.st_of tq⟩, for_tup (K := K) (a := q) (xs := ends.map V.str)
      (fun i σ H' => i ≤ ends.length ∧ Evl.Ex H0 H' ∧ (∃ x3 x4 x5 : Option V, σ = [some (.ref m), some (.ref a), some (.str wd), x3, x4, x5]) ∧ ∀ q ∈ places wd (ends.take i) dots ss, brk dots ps o n wd on q.1 q.2 = false)
      ⟨Nat.zero_le _, Evl.Ex.refl _, ⟨none, none, none, rfl⟩, fun q hq => nomatch hq⟩ (fun i σ H' _ h => Evl.st_of (h.2.1 _ _ tq)) ?_ ?_⟩
    · rintro i y σ H1 hi ⟨_, x1, ⟨x3, x4, x5, rfl⟩, no⟩
      obtain ⟨e, he, rfl⟩ := str_at hi
      have hil : i < ends.length := (List.getElem?_eq_some_iff.mp he).1
      have em := List.mem_of_getElem? he
      have x01 := x0.trans x1
      -- table = ways_at(net, (), changed, goal)
      refine ⟨.ref m, rfl, ?_⟩
      refine ⟨by show 0 ≤ sizeLine; decide, fun t0 ht0 => ⟨.ref a, rfl, .str e, rfl, ?_⟩⟩
      have y1 : Evl.Ex H1 (upd H1 t0 (.tup [])) := Evl.Ex.new ht0
      have st0 : SqT K (upd H1 t0 (.tup [])) t0 (([] : List Str).map V.str) := Evl.st_of upd_same
      generalize upd H1 t0 (.tup []) = H2 at y1 st0
      have x02 := x01.trans y1
      refine ⟨m, t0, a, e, [], on, ends, dots, ss, ps, o, n, rfl, N2.to x02, by omega, ok.en, by omega, ok.dn, em, st0, sqt_to ha x02, fun D H3 x3' hD dD => ?_⟩
      rw [List.nil_append] at dD
      have x03 := x02.trans x3'
      -- for node in starts(net, wish)
      refine ⟨.ref m, rfl, .str wd, rfl, m, wd, ends, dots, ss, ps, o, n, rfl, N2.to x03, fun r hr' => ?_⟩
      have sub : ∀ z ∈ startsOf wd dots ss, z ∈ dots := fun z hz => by
        unfold startsOf at hz
        split at hz
        · exact hz
        · exact ok.sd z hz
      have LD : LeadOk dots (nowTab dots (o e) (n e) on) := nowTab_lead (tok.to e em) (tok.tn e em) ok.dm (ok.em e em)
      refine ⟨r, rfl, ⟨_, Evl.st_of hr'⟩, for_tup (K := K) (a := r) (xs := (startsOf wd dots ss).map V.str)
        (fun j σ H' => j ≤ (startsOf wd dots ss).length ∧ Evl.Ex H3 H' ∧ (∃ x5 : Option V, σ = [some (.ref m), some (.ref a), some (.str wd), some (.str e), some (.ref D), x5]) ∧ ∀ y ∈ (startsOf wd dots ss).take j, brk dots ps o n wd on e y = false)
        ⟨Nat.zero_le _, Evl.Ex.refl _, ⟨x5, rfl⟩, fun y hy => nomatch hy⟩ (fun j σ H' _ h => Evl.st_of (h.2.1 _ _ hr')) ?_ ?_⟩
      · rintro j v σ H4 hj ⟨_, x4', ⟨x5', rfl⟩, no2⟩
        obtain ⟨z, hz, rfl⟩ := str_at hj
        have hjl : j < (startsOf wd dots ss).length := (List.getElem?_eq_some_iff.mp hz).1
        have zd := sub z (List.mem_of_getElem? hz)
        have x34 := x4'
        refine ⟨.ref m, rfl, .str wd, rfl, .str e, rfl, ?_⟩
        refine ⟨.ref D, rfl, .str z, rfl, D, z, dots, _, rfl, x4' _ _ dD, LD, by omega, ok.dm z zd, fun b H5 x5'' hb hb5 => ?_⟩
        obtain ⟨zs, u, ew, hu⟩ := track_form (tb := nowTab dots (o e) (n e) on) LD.sp (dots.length + 1) [] (.str z) (.inr ⟨z, rfl, ok.dm z zd⟩)
        have ewl : walkOf (nowTab dots (o e) (n e) on) (dots.length + 1) z = zs.map V.str ++ [u] := ew
        have len : zs.length ≤ 200 := by
          have q1 := track_len (tb := nowTab dots (o e) (n e) on) (dots.length + 1) [] (.str z)
          rw [ew, List.length_append, List.length_map] at q1
          simp only [List.length_nil, List.length_cons] at q1
          omega
        have nmz : ∀ y ∈ zs, Nm y := fun y hy => by
          have q1 := track_spots (tb := nowTab dots (o e) (n e) on) LD.sp (dots.length + 1) [] (.str z) (fun _ h => nomatch h) (.inr ⟨z, rfl, ok.dm z zd⟩) (.str y) (by rw [ew]; exact List.mem_append_left _ (List.mem_map_of_mem hy))
          rcases q1 with q1 | ⟨y', q1, q2⟩
          · cases q1
          · cases q1
            exact q2
        rw [ewl] at hb5
        have x05 := (x03.trans x4').trans x5''
        refine ⟨m, b, wd, e, zs, u, ends, dots, ss, ps, o, n, rfl, N2.to x05, hb5, nmz, hu, len, by omega, fun H6 x6 => ?_⟩
        have eb : breaksB wd e ps (zs.map V.str ++ [u]) = brk dots ps o n wd on e z := by unfold brk; rw [ewl]
        rw [eb]
        refine ⟨_, rfl, ite2 (fun q => ?_) (fun q => ?_)⟩
        · refine ⟨.str e, rfl, .str z, rfl, by show 2 ≤ sizeLine; decide, fun t ht => k _ _ ((x05.trans x6).trans (Evl.Ex.new ht)) ?_⟩
          rw [fault_here he hz no no2 q]
          exact ⟨t, rfl, upd_same⟩
        · have q' : brk dots ps o n wd on e z = false := by
            cases h : brk dots ps o n wd on e z with
            | true => exact absurd h q
            | false => rfl
          refine ⟨hjl, (x4'.trans x5'').trans x6, ⟨_, rfl⟩, fun y hy => ?_⟩
          rw [List.take_add_one, hz] at hy
          rcases List.mem_append.mp hy with hy | hy
          · exact no2 y hy
          · rw [List.mem_singleton.mp hy]
            exact q'
      · rintro σ H4 ⟨_, x4', ⟨x5', rfl⟩, no2⟩
        rw [List.length_map, List.take_length] at no2
        refine ⟨hil, ((x1.trans y1).trans x3').trans x4', ⟨_, _, _, rfl⟩, fun q hq => ?_⟩
        rw [List.take_add_one, he] at hq
        have hq' : q ∈ places wd (ends.take i ++ [e]) dots ss := hq
        rw [places_snoc] at hq'
        rcases List.mem_append.mp hq' with hq' | hq'
        · exact no q hq'
        · obtain ⟨y, hy, rfl⟩ := List.mem_map.mp hq'
          exact no2 y hy
    · rintro σ H1 ⟨_, x1, ⟨x3, x4, x5, rfl⟩, no⟩
      rw [List.length_map, List.take_length] at no
      refine k .non H1 (x0.trans x1) ?_
      unfold faultAt
      rw [find_none no]
      rfl
end
end Rw
end T_PE

section T_TD
set_option Elab.async false
set_option linter.all false
set_option maxRecDepth 100000
set_option maxHeartbeats 4000000
/-! ### {k: v for ..}, its keys being tuples -/
namespace L2
open PySem PySem.Spec PyProof.Rows
theorem d_dictSetT {X : Cx} {pins : List (Addr × Obj)} {σ : L2.St} {H : Hp} {s : Shared} {E : Value → Shared → Prop} {D b : Addr} {kvs : List (List Key × V)} {k : List Key} {v : V} {r : Value} {Q : Unit → Shared → Prop}
    (room : (tupleKind (mixKind X.prog X.w)).room X.A) (I : L2.Inv X pins σ H s) (e : H D = some (.dT kvs)) (l : kvs.length < sizeLine) (eb : H b = some (.tup (k.map kV))) (rv : L2.RelV v r) (h : ∀ s', L2.Inv X pins σ (upd H D (.dT (putK kvs k v))) s' → Q () s') :
    wpAny (model X.prog X.w) X.A (dictSet D (.ref b) r) Q E s := by
  obtain ⟨z, hd, xs, rel, dd⟩ := dt_of I.hok e
  have hz : xs.length ≤ sizeLine := by rw [← Paired.length rel]; exact z
  have hl : (putK kvs k v).length ≤ sizeLine := by have := length_putK kvs k v; omega
  refine wpAny_dictSet_heap room (key_of I.hok eb) dd (fun h' dd' hs => h _ ?_) hz
  obtain ⟨q, es, ep, hq, h2, h3, h4, _, h5⟩ := dd'
  exact d_write I (by rw [e]; trivial) hs ⟨q, hq⟩ ⟨hl, hd, storedH xs k b r, KT.keeps (KT.put rel k eb rv) (fun c ys ec => by rw [upd_ne (ne_of ec e fun z => nomatch z)]; exact ec), q, es, ep, hq, h2, h3, h4, h5⟩
/-- one turn of such a comprehension -/
def stepT (g : TG) (tt : TT) (tk tv : TE) (vs : List Nat) (σ : L2.St) (D : Addr) (x : V) (H' : Hp) (Nx : Hp → Prop) : Prop :=
  g x (wipe σ vs) H' fun σ2 H2 => wipe σ2 vs = wipe σ vs ∧ tt σ2 H2 fun b H3 => if b = true then tk σ2 H3 fun y H4 => tv σ2 H4 fun z H5 =>
    ∃ kvs k a, y = V.ref a ∧ H5 a = some (.tup (k.map kV)) ∧ H5 D = some (.dT kvs) ∧ kvs.length < sizeLine ∧ Nx (upd H5 D (.dT (putK kvs k z))) else Nx H3
def turnT (g : TG) (tt : TT) (tk tv : TE) (vs : List Nat) (σ : L2.St) (D : Addr) (J : It) (W : Nat → Nat → Hp → Prop) (Qd : Hp → Prop) : Prop :=
  ∀ i m H, W i m H → J.stop i H ∧ Qd H ∨ J.go i H ∧ ∃ Nx : Hp → Prop, (∀ H', Nx H' → ∃ m', m' < m ∧ W (i + 1) m' H') ∧ ∀ x H', J.yld i H x H' → stepT g tt tk tv vs σ D x H' Nx
def tDcT : TI → TG → TT → TE → TE → List Nat → TE := fun wi g tt tk tv vs σ H Q =>
  wi σ H fun J H1 => ∀ D, H1 D = none → ∃ W : Nat → Nat → Hp → Prop, (∃ m, W 0 m (upd H1 D (.dT []))) ∧ turnT g tt tk tv vs σ D J W (Q (.ref D))
theorem dcT_loop {Xb : Cx} {fp : List Addr} {it : Addr} {tn : Nat → Heap → Prop} {J : It} {kx vx tg iter : Expr} {ifs : List Expr} {scope : Scope} {pos : Pos} {g : TG} {tt : TT} {tk tv : TE} {vs : List Nat} {σ : L2.St} {D : Addr} {W : Nat → Nat → Hp → Prop} {Qd : Hp → Prop} {R : Result → Shared → Prop}
    (hc : Xb.calm = true) (hxe : Xb.xe = fun _ _ => False) (room : (tupleKind (mixKind Xb.prog Xb.w)).room Xb.A) (pg : PG Xb tg g) (pt : PTs Xb ifs tt) (pk : PE Xb kx tk) (pe : PE Xb vx tv) (T : Turn Xb.prog Xb.w Xb.K tg J fp it tn)
    (stat : ∀ {σ' : L2.St} {H' : Hp} {s' : Shared}, L2.Inv Xb [] σ' H' s' → (∀ b ∈ fp, H' b = none) → ∀ b ∈ fp, FpOk Xb [] H' b)
    (turn : turnT g tt tk tv vs σ D J W Qd) (done : ∀ {H6 : Hp} {s6 : Shared}, L2.Inv Xb [] (wipe σ vs) H6 s6 → Qd H6 → R (.ok .next) s6)
    {n : Nat} {s : Shared} (hI : ∃ i H', L2.Inv Xb [] (wipe σ vs) H' s ∧ tn i s.heap ∧ (∀ b ∈ fp, H' b = none) ∧ W i n H') :
    codeAny (model Xb.prog Xb.w) Xb.A (Code.compLoop (kx.DictComp vx [⟨tg, iter, ifs, 0⟩] scope pos) 0 (.ref it) (.ref D) Xb.env) R s := by
  refine compLoop_anyD (fun n s' => ∃ i H', L2.Inv Xb [] (wipe σ vs) H' s' ∧ tn i s'.heap ∧ (∀ b ∈ fp, H' b = none) ∧ W i n H') (fun n s5 a => ?_) n hI
  obtain ⟨i, H5, I5, st5, n5, w5⟩ := a
  rcases turn i n H5 w5 with ⟨stop, qq⟩ | ⟨go, Nx, hNx, step⟩
  · refine thnF (T.done Xb rfl rfl rfl hc i [] s5 _ H5 _ I5 (stat I5 n5) st5 stop) fun r s6 x => ?_
    obtain ⟨hr, I6⟩ := x
    subst hr
    exact done I6 qq
  · refine thnF (T.item Xb rfl rfl rfl hc i [] s5 _ H5 _ I5 (stat I5 n5) st5 go) fun r s6 x => ?_
    obtain ⟨u, hr, h6⟩ := x
    subst hr
    refine thnF h6 fun _ s7 x => ?_
    obtain ⟨x, H7, I7, r7, y7, st7, n7⟩ := x
    have I7' := Inv.pinned I7 (stat I7 n7) (T.obj (i + 1) s7.heap st7)
    have z := pg.run ([] ++ pinsAt fp s7.heap) s7 (wipe σ vs) H7 x u _ I7' r7 (step x H7 y7)
    rw [hxe] at z
    refine thnF z fun _ s8 x => ?_
    obtain ⟨σ8, H8, I8, hw8, q8⟩ := x
    have z := pt.run _ s8 σ8 H8 _ I8 q8
    rw [hxe] at z
    refine thnF z fun b s9 x => ?_
    obtain ⟨H9, I9, q9⟩ := x
    have fin : ∀ {s' : Shared} {H' : Hp}, L2.Inv Xb ([] ++ pinsAt fp s7.heap) σ8 H' s' → Nx H' → ∃ m, m < n ∧ ∃ i H', L2.Inv Xb [] (wipe σ vs) H' s' ∧ tn i s'.heap ∧ (∀ b ∈ fp, H' b = none) ∧ W i m H' := fun {s' H'} I' nx => by
      obtain ⟨m', hm, w'⟩ := hNx H' nx
      have pin' : ∀ b ∈ fp, ∀ o, s7.heap.get? b = some o → s'.heap.get? b = some o ∧ H' b = none := fun b hb o e => by
        have z := I'.pin (b, o) (List.mem_append_right _ (List.mem_append_right [] (mem_pinsAt hb e)))
        exact ⟨z.1, z.2.1⟩
      have hl : (wipe σ vs).length = σ8.length := by rw [← hw8, wipe_length]
      refine ⟨m', hm, i + 1, H', Inv.weak (Inv.unpinned I') hl (fun j v e => (wipe_some (by rw [hw8]; exact e)).1), T.keep (i + 1) s7.heap s'.heap st7 (fun b hb o e => (pin' b hb o e).1), fun b hb => ?_, w'⟩
      obtain ⟨o, e, _⟩ := T.obj (i + 1) s7.heap st7 b hb
      exact (pin' b hb o e).2
    cases b with
    | false => exact fin I9 q9
    | true =>
      have q9' : tk σ8 H9 fun y H4 => tv σ8 H4 fun z H5 => ∃ kvs k a, y = V.ref a ∧ H5 a = some (.tup (k.map kV)) ∧ H5 D = some (.dT kvs) ∧ kvs.length < sizeLine ∧ Nx (upd H5 D (.dT (putK kvs k z))) := q9
      have z := pk.run _ s9 σ8 H9 _ I9 q9'
      rw [hxe] at z
      refine thnF z fun kv s10 x => ?_
      obtain ⟨y, H10, I10, r10, q10⟩ := x
      have z := pe.run _ s10 σ8 H10 _ I10 q10
      rw [hxe] at z
      refine thnF z fun vv s11 x => ?_
      obtain ⟨z, H11, I11, r11, kvs, k, a, ey, ha, hD, hz, nx⟩ := x
      subst ey
      obtain rfl : kv = Value.ref a := r10
      exact d_dictSetT room I11 hD hz ha r11 fun s12 I12 => fin I12 nx
theorem dcT_core {X : Cx} {pins : List (Addr × Obj)} {s : Shared} {σ : L2.St} {H : Hp} {Q : VK} {kx vx tg iter : Expr} {ifs : List Expr} {scope : Scope} {own : List (Str × Nat)} {pos pos' : Pos} {wi : TI} {g : TG} {tt : TT} {tk tv : TE} {use : Option (Value → Sem Unit)} {Qf : Value → Shared → Prop}
    (room : (tupleKind (mixKind X.prog X.w)).room X.A) (hc : X.calm = true) (hN : X.N.Nodup) (I : L2.Inv X pins σ H s) (hi : PI X tg iter wi) (ok : BlkOk X.N X.env.scope scope own)
    (hg : ∀ (s : Shared) (H : Hp) (C : Addr) (cl : List (Str × Addr)) (fp : List Addr), PG (X.blk s H scope (compEnvC scope cl C X.env) fp) tg g)
    (ht : ∀ (s : Shared) (H : Hp) (C : Addr) (cl : List (Str × Addr)) (fp : List Addr), PTs (X.blk s H scope (compEnvC scope cl C X.env) fp) ifs tt)
    (hk : ∀ (s : Shared) (H : Hp) (C : Addr) (cl : List (Str × Addr)) (fp : List Addr), PE (X.blk s H scope (compEnvC scope cl C X.env) fp) kx tk)
    (he : ∀ (s : Shared) (H : Hp) (C : Addr) (cl : List (Str × Addr)) (fp : List Addr), PE (X.blk s H scope (compEnvC scope cl C X.env) fp) vx tv)
    (hs : ∀ x, foldedSetIterable iter X.env x = pure x) (h : tDcT wi g tt tk tv (own.map (·.2)) σ H Q)
    (hRR : ∀ (D C : Addr) (s' : Shared) (m : Str → Option Value) (H' : Hp), L2.Inv X pins σ H' s' → Q (V.ref D) H' → s'.heap.Ns C m → FpOk X pins H' C → compPost (model X.prog X.w) X.A X.xe use Qf (Value.ref D) C (Except.ok Flow.next) s') :
    wpAny (model X.prog X.w) X.A (comprehension (kx.DictComp vx [⟨tg, iter, ifs, 0⟩] scope pos) scope X.env pos' newDict false (eval iter X.env) use) Qf X.xe s := by
  have hfree : ∀ y ∈ scope.names, y.2 = NameKind.free → ∃ c, List.lookup y.1 X.env.cells = some c := fun y hy e => by
    rcases ok.free y hy e with k | k
    · exact I.ok.has y.1 (.inl k)
    · exact I.ok.has y.1 (.inr k)
  refine wpAny_comprehension_free rfl hs (closure_ok hfree) ok.kind (fun y hy e => by rw [ok.uniq y hy, e]) (thn (hi.run pins s σ H _ I h) fun xv s1 hx => thn hx fun itv s2 h2 => ?_)
  obtain ⟨it, fp, tn, J, H2, e, I2, T, st2, f2, q⟩ := h2
  subst e
  refine wpAny_newObj_type (newEnv_comp ?_)
  have hDn : H2 s2.heap.objs.size = none := HOk.fresh I2.hok (Nat.le_refl _)
  obtain ⟨W, ⟨m0, w0⟩, turn⟩ := q s2.heap.objs.size hDn
  have I3 : L2.Inv X pins σ (upd H2 s2.heap.objs.size (.dT [])) { s2 with heap := s2.heap.push { cls := Value.type "dict", data := Data.dict #[] } } :=
    Inv.laid (t' := s2.toks) I2 (fun b o e => Heap.get?_push_of_some _ e) (Nat.le_refl _) (dt_empty s2.heap (Inv.big I2))
  have sz : ∀ b ∈ fp, b < s2.heap.objs.size := fun b hb => by
    obtain ⟨o, e, _⟩ := T.obj 0 s2.heap st2 b hb
    exact Heap.lt_size e
  have f3 : ∀ b ∈ fp, FpOk X pins (upd H2 s2.heap.objs.size (.dT [])) b ∧ b < (s2.heap.push { cls := Value.type "dict", data := Data.dict #[] }).objs.size := fun b hb => by
    have hlt := sz b hb
    refine ⟨⟨by rw [upd_ne (Nat.ne_of_lt hlt)]; exact (f2 b hb).1, (f2 b hb).2⟩, ?_⟩
    rw [Heap.size_push]
    exact Nat.lt_succ_of_lt hlt
  have I4 := block_start I3 ok hN f3
  have st4 : tn 0 (pushCells ((s2.heap.push { cls := Value.type "dict", data := Data.dict #[] }).push { cls := Value.type "dict", data := Data.dict #[] }) scope.names) :=
    T.keep 0 s2.heap _ st2 fun b _ o e => pushCells_keeps scope.names _ b o (Heap.get?_push_of_some _ (Heap.get?_push_of_some _ e))
  refine (fun loop => codeAny_compStart_dict loop (T.self X.A 0 _ _ _ st4 loop)) ?_
  refine (dcT_loop (Xb := X.blk { s2 with heap := s2.heap.push { cls := Value.type "dict", data := Data.dict #[] } } (upd H2 s2.heap.objs.size (.dT [])) scope
      (compEnvC scope (cellsFrom ((s2.heap.push { cls := Value.type "dict", data := Data.dict #[] }).objs.size + 1) scope.names (cloFrom X.env.cells scope.names [])) (s2.heap.push { cls := Value.type "dict", data := Data.dict #[] }).objs.size X.env) fp)
      hc rfl room (hg _ _ _ _ _) (ht _ _ _ _ _) (hk _ _ _ _ _) (he _ _ _ _ _) T
      (fun {σ' H' s'} I' hn b hb => ⟨hn b hb, (I'.ok.exf b hb).1, I'.ok.exfs b hb, Or.inl hb, fun x c e => (I'.ok.exf b hb).2 x c e, fun p hp => absurd (show p ∈ ([] : List (Addr × Obj)) ++ [] from hp) (by simp)⟩)
      turn (fun {H6 s6} I6 qq => ?_) ⟨0, _, I4, st4, fun b hb => (f3 b hb).1.1, w0⟩)
  · have I7 := Inv.call' I3 I6.os I6.base I6.hok I6.bare fun b hb => ⟨(f3 b hb).1.2.2.2.1, (f3 b hb).1.2.1, (f3 b hb).1.2.2.2.2.1, (f3 b hb).1.2.2.2.2.2⟩
    have nC : H6 (s2.heap.push { cls := Value.type "dict", data := Data.dict #[] }).objs.size = none := I6.free
    obtain ⟨m, hn, _⟩ := I6.loc
    exact hRR s2.heap.objs.size _ s6 m H6 I7 qq hn (Inv.fpOk I3 (Nat.le_refl _) nC)
theorem roomT {P : Program} {w : World} {K : Type} [DecidableEq K] {knd : PySem.KeyKind P w K} {A : Around} (h : A.units < cLine) : (tupleKind knd).room A := h
theorem pe_dcT {X : Cx} {kx vx tg iter : Expr} {ifs : List Expr} {scope : Scope} {own : List (Str × Nat)} {pos : Pos} {wi : TI} {g : TG} {tt : TT} {tk tv : TE} (hu : X.A.units + 1 < cLine) (hc : X.calm = true) (hN : X.N.Nodup) (hi : PI X tg iter wi) (ok : BlkOk X.N X.env.scope scope own)
    (hg : ∀ (s : Shared) (H : Hp) (C : Addr) (cl : List (Str × Addr)) (fp : List Addr), PG (X.blk s H scope (compEnvC scope cl C X.env) fp) tg g)
    (ht : ∀ (s : Shared) (H : Hp) (C : Addr) (cl : List (Str × Addr)) (fp : List Addr), PTs (X.blk s H scope (compEnvC scope cl C X.env) fp) ifs tt)
    (hk : ∀ (s : Shared) (H : Hp) (C : Addr) (cl : List (Str × Addr)) (fp : List Addr), PE (X.blk s H scope (compEnvC scope cl C X.env) fp) kx tk)
    (he : ∀ (s : Shared) (H : Hp) (C : Addr) (cl : List (Str × Addr)) (fp : List Addr), PE (X.blk s H scope (compEnvC scope cl C X.env) fp) vx tv)
    (hs : ∀ x, foldedSetIterable iter X.env x = pure x := by intro _; rfl) : PE X (.DictComp kx vx [⟨tg, iter, ifs, 0⟩] scope pos) (tDcT wi g tt tk tv (own.map (·.2))) := by
  refine ⟨fun pins s σ H Q I h => ?_⟩
  rw [arm_eval_DictComp]
  refine dcT_core (roomT (by omega)) hc hN I hi ok hg ht hk he hs h fun D C s' m H' I' q hn f => ?_
  refine ⟨m, hn, fun h'' sb => ?_⟩
  obtain ⟨f0, f1, f2, f3, f4, f5⟩ := f
  exact ⟨V.ref D, H', Inv.turned I' (fun b o hb e => (sb.2 b hb).trans e) f0 f1 f3 f4 f5, rfl, q⟩
theorem dcT_it {J : It} {n : Nat} {G : Hp → Prop} {Y : Nat → Hp → V → Hp → Prop} (Wk : Walk J n G Y) {g : TG} {tt : TT} {tk tv : TE} {vs : List Nat} {σ : L2.St} {H1 : Hp} {D : Addr} {Qd : Hp → Prop} (Pv : Nat → Hp → Prop) (h0 : Pv 0 (upd H1 D (.dT [])))
    (hG : ∀ i H, i ≤ n → Pv i H → G H) (hstep : ∀ i x H H', i < n → Pv i H → Y i H x H' → stepT g tt tk tv vs σ D x H' (Pv (i + 1))) (hfin : ∀ H, Pv n H → Qd H) : ∃ W : Nat → Nat → Hp → Prop, (∃ m, W 0 m (upd H1 D (.dT []))) ∧ turnT g tt tk tv vs σ D J W Qd := by
  refine ⟨fun i m H => i ≤ n ∧ m = n - i ∧ Pv i H, ⟨n, Nat.zero_le _, rfl, h0⟩, ?_⟩
  rintro i m H ⟨hi, rfl, hp⟩
  by_cases e : i = n
  · subst e
    exact .inl ⟨Wk.stops H (hG _ H hi hp), hfin H hp⟩
  · have lt : i < n := by omega
    exact .inr ⟨Wk.goes i H lt (hG i H hi hp), Pv (i + 1), fun H' h => ⟨n - (i + 1), by omega, by omega, rfl, h⟩, fun x H' y => hstep i x H H' lt hp (Wk.yields i H x H' lt (hG i H hi hp) y)⟩
end L2
end T_TD

section T_BH
set_option Elab.async false
set_option linter.all false
set_option maxRecDepth 100000
set_option maxHeartbeats 8000000
namespace Rw
open PySem L2 PyProof.Rows
/-! ### dicts whose keys are tuples of names -/
def kT (T : List (List Str × Addr)) : List (List Key × V) := T.map fun t => (t.1.map Sum.inr, .ref t.2)
theorem inr_inj {a b : List Str} (h : a.map (Sum.inr : Str → Key) = b.map Sum.inr) : a = b := (List.map_inj_right (fun _ _ z => Sum.inr.inj z)).mp h
theorem keyS (p : List Str) : (p.map (Sum.inr : Str → Key)).map kV = p.map V.str := by rw [List.map_map]; rfl
theorem kT_none {T : List (List Str × Addr)} {p : List Str} (h : p ∉ T.map (·.1)) : valV (kT T) (p.map Sum.inr) = none := by
  induction T with
  | nil => rfl
  | cons t T ih =>
    show valV ((t.1.map Sum.inr, V.ref t.2) :: kT T) (p.map Sum.inr) = none
    rw [valV_neg (fun e => h (by rw [← inr_inj e]; exact List.mem_cons_self))]
    exact ih fun q => h (List.mem_cons_of_mem _ q)
theorem kT_get {T : List (List Str × Addr)} {t : List Str × Addr} (nd : (T.map (·.1)).Nodup) (h : t ∈ T) : valV (kT T) (t.1.map Sum.inr) = some (.ref t.2) := by
  induction T with
  | nil => cases h
  | cons u T ih =>
    show valV ((u.1.map Sum.inr, V.ref u.2) :: kT T) (t.1.map Sum.inr) = _
    rcases List.mem_cons.mp h with rfl | h
    · exact valV_pos rfl
    · have nd' := List.nodup_cons.mp nd
      rw [valV_neg (fun e => nd'.1 (show u.1 ∈ T.map (·.1) by rw [inr_inj e]; exact List.mem_map_of_mem h))]
      exact ih nd'.2 h
theorem kT_new {T : List (List Str × Addr)} {p : List Str} {a : Addr} (h : p ∉ T.map (·.1)) : putK (kT T) (p.map Sum.inr) (.ref a) = kT (T ++ [(p, a)]) := by
  rw [putK_new _ (kT_none h)]
  unfold kT
  rw [List.map_append]
  rfl
theorem kT_len (T : List (List Str × Addr)) : (kT T).length = T.length := by unfold kT; rw [List.length_map]
theorem parts0_nodup : ∀ (r : List Str), r.reverse.Nodup → (parts0 r.reverse).Nodup
  | [], _ => by decide
  | z :: r, h => by
    rw [List.reverse_cons] at h ⊢
    rw [parts0_snoc, List.nodup_append]
    have h' := List.nodup_append.mp h
    have ih := parts0_nodup r h'.1
    refine ⟨ih, ?_, fun a ha b hb e => ?_⟩
    · refine List.Pairwise.map _ (R := fun a b : List Str => a ≠ b) (fun a b ne e => ne ?_) ih
      exact (List.append_inj' e rfl).1
    · obtain ⟨c, _, rfl⟩ := List.mem_map.mp hb
      have hz : z ∈ a := by rw [e]; exact List.mem_append_right _ List.mem_cons_self
      exact h'.2.2 z ((parts0_sub ha).subset hz) z List.mem_cons_self rfl
theorem partsS_perm (zs : List Str) : (partsS zs).Perm (parts0 zs) := by
  unfold partsS
  split
  · rename_i c
    exact (Classical.choose_spec c).1
  · exact List.Perm.refl _
theorem partsS_nodup {zs : List Str} (h : zs.Nodup) : (partsS zs).Nodup := by
  rw [(partsS_perm zs).nodup_iff]
  have := parts0_nodup zs.reverse (by rw [List.reverse_reverse]; exact h)
  rwa [List.reverse_reverse] at this
theorem partsS_len {zs : List Str} (h : zs.length ≤ 6) : (partsS zs).length ≤ 64 := by
  rw [(partsS_perm zs).length_eq, parts0_len _ zs rfl]
  exact Nat.le_trans (Nat.pow_le_pow_right (by decide) h) (by decide)
/-! ### the wishes that are broken at a moment -/
abbrev wishes4 : List Str := ["home", "lost", "posts", "rings"]
def badB (ends dots ss ps : List Str) (o n : Str → List (Str × V)) (on : List Str) (wd : Str) : Bool := (places wd ends dots ss).any fun q => brk dots ps o n wd on q.1 q.2
def bads (ends dots ss ps : List Str) (o n : Str → List (Str × V)) (on : List Str) : List Str := wishes4.filter (badB ends dots ss ps o n on)
theorem wishes4_sorted : sortedS wishes4 = true := by decide +kernel
theorem bads_is {ends dots ss ps : List Str} {o n : Str → List (Str × V)} {on ws ys : List Str} (h : ∀ x, x ∈ ws ↔ x ∈ wishes4 ∧ badB ends dots ss ps o n on x = true) (hp : ys.Perm (seen ws)) (hs : sortedS ys = true) : ys = bads ends dots ss ps o n on := by
  refine sorted_uniq hs (sorted_sub List.filter_sublist wishes4_sorted) (hp.trans ?_)
  obtain ⟨h1, h2, _⟩ := seen_rev ws
  refine (List.perm_ext_iff_of_nodup h1 (List.Pairwise.filter _ (by decide +kernel))).mpr fun x => ?_
  rw [h2, h, List.mem_filter]
/-- a dict from parts to the wishes that f tells -/
structure BadAt (H : Hp) (b : Addr) (f : List Str → List Str) (Ps : List (List Str)) : Prop where
  ex : ∃ T : List (List Str × Addr), H b = some (.dT (kT T)) ∧ T.map (·.1) = Ps ∧ ∀ t ∈ T, H t.2 = some (.lst ((f t.1).map V.str))
theorem BadAt.to {H H' : Hp} {b : Addr} {f : List Str → List Str} {Ps : List (List Str)} (h : BadAt H b f Ps) (x : Evl.Ex H H') : BadAt H' b f Ps := by
  obtain ⟨T, h1, h2, h3⟩ := h
  exact ⟨T, x _ _ h1, h2, fun t ht => x _ _ (h3 t ht)⟩
theorem badB_mem {ends dots ss ps : List Str} {o n : Str → List (Str × V)} {on : List Str} {wd : Str} : badB ends dots ss ps o n on wd = true ↔ ∃ e ∈ ends, ∃ z ∈ startsOf wd dots ss, brk dots ps o n wd on e z = true := by
  unfold badB places
  rw [List.any_eq_true]
  constructor
  · rintro ⟨q, hq, h⟩
    obtain ⟨e, he, hq⟩ := List.mem_flatMap.mp hq
    obtain ⟨z, hz, rfl⟩ := List.mem_map.mp hq
    exact ⟨e, he, z, hz, h⟩
  · rintro ⟨e, he, z, hz, h⟩
    exact ⟨(e, z), List.mem_flatMap.mpr ⟨e, he, List.mem_map_of_mem hz⟩, h⟩
theorem row_form {dots ss : List Str} {e : Str} {o n : Str → List (Str × V)} {on : List Str} {z : Str} (ho : TabOk dots e (o e)) (hn : TabOk dots e (n e)) (dm : ∀ y ∈ dots, Nm y) (em : Nm e) (hz : z ∈ dots) :
    ∃ (zs : List Str) (u : V), walkOf (nowTab dots (o e) (n e) on) (dots.length + 1) z = zs.map V.str ++ [u] ∧ Spot u ∧ ∀ y ∈ zs, Nm y := by
  have LD : LeadOk dots (nowTab dots (o e) (n e) on) := nowTab_lead ho hn dm em
  obtain ⟨zs, u, ew, hu⟩ := track_form (tb := nowTab dots (o e) (n e) on) LD.sp (dots.length + 1) [] (.str z) (.inr ⟨z, rfl, dm z hz⟩)
  refine ⟨zs, u, ew, hu, fun y hy => ?_⟩
  have q1 := track_spots (tb := nowTab dots (o e) (n e) on) LD.sp (dots.length + 1) [] (.str z) (fun _ h => nomatch h) (.inr ⟨z, rfl, dm z hz⟩) (.str y) (by rw [ew]; exact List.mem_append_left _ (List.mem_map_of_mem hy))
  rcases q1 with q1 | ⟨y', q1, q2⟩
  · cases q1
  · cases q1
    exact q2
theorem filter_nil_iff {zs : List Str} {p : Str → Bool} : (zs.filter p).isEmpty = true ↔ ∀ z ∈ zs, ¬ p z = true := by
  rw [List.isEmpty_iff, List.filter_eq_nil_iff]
end Rw
end T_BH

section T_BO
set_option Elab.async false
set_option linter.all false
set_option maxRecDepth 100000
set_option maxHeartbeats 4000000
namespace Rw
open PySem L2 PyProof.Rows
/-! ### dicts whose keys are tuples, each with True -/
def kB (M : List (List Str)) : List (List Key × V) := M.map fun p => (p.map Sum.inr, .bl true)
theorem kB_none {M : List (List Str)} {p : List Str} (h : p ∉ M) : valV (kB M) (p.map Sum.inr) = none := by
  induction M with
  | nil => rfl
  | cons t M ih =>
    show valV ((t.map Sum.inr, V.bl true) :: kB M) (p.map Sum.inr) = none
    rw [valV_neg (fun e => h (by rw [← inr_inj e]; exact List.mem_cons_self))]
    exact ih fun q => h (List.mem_cons_of_mem _ q)
theorem kB_some {M : List (List Str)} {p : List Str} (h : p ∈ M) : valV (kB M) (p.map Sum.inr) = some (.bl true) := by
  induction M with
  | nil => cases h
  | cons t M ih =>
    show valV ((t.map Sum.inr, V.bl true) :: kB M) (p.map Sum.inr) = _
    by_cases e : t = p
    · subst e
      exact valV_pos rfl
    · rw [valV_neg (fun z => e (inr_inj z))]
      exact ih ((List.mem_cons.mp h).resolve_left fun z => e z.symm)
theorem kB_has (M : List (List Str)) (p : List Str) : (valV (kB M) (p.map Sum.inr)).isSome = decide (p ∈ M) := by
  by_cases m : p ∈ M
  · rw [kB_some m, decide_eq_true m]
    rfl
  · rw [kB_none m, decide_eq_false m]
    rfl
theorem kB_new {M : List (List Str)} {p : List Str} (h : p ∉ M) : putK (kB M) (p.map Sum.inr) (.bl true) = kB (M ++ [p]) := by
  rw [putK_new _ (kB_none h)]
  unfold kB
  rw [List.map_append]
  rfl
theorem kB_len (M : List (List Str)) : (kB M).length = M.length := by unfold kB; rw [List.length_map]
end Rw
end T_BO

section T_RD
set_option Elab.async false
set_option linter.all false
set_option maxRecDepth 100000
set_option maxHeartbeats 8000000
namespace Rw
open PySem L2 PyProof.Rows
/-! ### tuples of names as data -/
theorem dpa_strs {K : PySem.W.Frag} {H : Hp} : ∀ zs : List Str, DpAll K H (zs.map V.str) (zs.map PyData.str)
  | [] => .nil
  | z :: zs => .cons (.str z) (dpa_strs zs)
theorem eqvAll_strs : ∀ zs ys : List Str, PyData.eqvAll (zs.map PyData.str) (ys.map PyData.str) = decide (zs = ys)
  | [], [] => rfl
  | [], _ :: _ => rfl
  | _ :: _, [] => rfl
  | z :: zs, y :: ys => by
    show (PyData.eqv (.str z) (.str y) && PyData.eqvAll (zs.map PyData.str) (ys.map PyData.str)) = _
    rw [eqvAll_strs zs ys, show PyData.eqv (.str z) (.str y) = (z == y) from rfl]
    by_cases e : z = y
    · subst e
      by_cases f : zs = ys
      · subst f; simp
      · simp [f]
    · simp [e]
theorem dp_row {K : PySem.W.Frag} {H : Hp} {a : Addr} {zs : List Str} (h : H a = some (.tup (zs.map V.str))) : Dp K H (.ref a) (.tuple (zs.map PyData.str)) := .tup (Evl.st_of h) (dpa_strs zs)
theorem dpa_rows {K : PySem.W.Frag} {H : Hp} : ∀ {L : List (Addr × List Str)}, RowsT H L → DpAll K H (L.map fun q => V.ref q.1) (L.map fun q => PyData.tuple (q.2.map PyData.str))
  | [], _ => .nil
  | q :: L, h => .cons (dp_row (h q List.mem_cons_self)) (dpa_rows fun r hr => h r (List.mem_cons_of_mem _ hr))
theorem lay_strs : ∀ {zs : List Str}, (∀ z ∈ zs, Nm z) → PyData.canLayAll0 (zs.map PyData.str) = true ∧ PyData.depthAll (zs.map PyData.str) = 0
  | [], _ => ⟨rfl, rfl⟩
  | z :: zs, h => by
    obtain ⟨h1, h2⟩ := lay_strs fun y hy => h y (List.mem_cons_of_mem _ hy)
    constructor
    · show (PyData.strOk z && PyData.canLayAll0 (zs.map PyData.str)) = true
      rw [h1, nm_ok (h z List.mem_cons_self)]
      rfl
    · show max 0 (PyData.depthAll (zs.map PyData.str)) = 0
      rw [h2]
      rfl
theorem row_shaped {zs : List Str} (h : ∀ z ∈ zs, Nm z) : SeqAt.shaped (.tuple (zs.map PyData.str)) = true := by
  obtain ⟨h1, h2⟩ := lay_strs h
  exact shaped_tup h1 (by omega)
theorem lay_rows : ∀ {L : List (Addr × List Str)}, (∀ q ∈ L, ∀ z ∈ q.2, Nm z) → PyData.canLayAll0 (L.map fun q => PyData.tuple (q.2.map PyData.str)) = true ∧ PyData.depthAll (L.map fun q => PyData.tuple (q.2.map PyData.str)) ≤ 1
  | [], _ => ⟨rfl, Nat.zero_le _⟩
  | q :: L, h => by
    obtain ⟨h1, h2⟩ := lay_rows fun r hr => h r (List.mem_cons_of_mem _ hr)
    obtain ⟨h3, h4⟩ := lay_strs (h q List.mem_cons_self)
    constructor
    · show (PyData.canLayAll0 (q.2.map PyData.str) && PyData.canLayAll0 (L.map fun q => PyData.tuple (q.2.map PyData.str))) = true
      rw [h1, h3]
      rfl
    · show max (PyData.depthAll (q.2.map PyData.str) + 1) (PyData.depthAll (L.map fun q => PyData.tuple (q.2.map PyData.str))) ≤ 1
      omega
theorem rows_shaped {L : List (Addr × List Str)} (h : ∀ q ∈ L, ∀ z ∈ q.2, Nm z) : SeqAt.shaped (.list (L.map fun q => PyData.tuple (q.2.map PyData.str))) = true := by
  obtain ⟨h1, h2⟩ := lay_rows h
  unfold SeqAt.shaped
  rw [show PyData.canLay0 (.list (L.map fun q => PyData.tuple (q.2.map PyData.str))) = PyData.canLayAll0 (L.map fun q => PyData.tuple (q.2.map PyData.str)) from rfl, h1, show PyData.depth (.list (L.map fun q => PyData.tuple (q.2.map PyData.str))) = PyData.depthAll (L.map fun q => PyData.tuple (q.2.map PyData.str)) + 1 from rfl]
  exact decide_eq_true (show PyData.depthAll _ + 1 ≤ 64 by omega)
theorem any_rows (L : List (Addr × List Str)) (zs : List Str) : ((L.map fun q => PyData.tuple (q.2.map PyData.str)).any fun z => PyData.eqv z (.tuple (zs.map PyData.str))) = decide (zs ∈ L.map (·.2)) := by
  induction L with
  | nil => rfl
  | cons q L ih =>
    show (PyData.eqvAll (q.2.map PyData.str) (zs.map PyData.str) || (L.map fun q => PyData.tuple (q.2.map PyData.str)).any fun z => PyData.eqv z (.tuple (zs.map PyData.str))) = _
    rw [ih, eqvAll_strs]
    by_cases e : q.2 = zs
    · rw [decide_eq_true e, decide_eq_true (show zs ∈ (q :: L).map (·.2) by rw [← e]; exact List.mem_cons_self)]
      rfl
    · rw [decide_eq_false e, Bool.false_or]
      by_cases m : zs ∈ L.map (·.2)
      · rw [decide_eq_true m, decide_eq_true (show zs ∈ (q :: L).map (·.2) from List.mem_cons_of_mem _ m)]
      · rw [decide_eq_false m, decide_eq_false (fun h : zs ∈ (q :: L).map (·.2) => (List.mem_cons.mp h).elim (fun h => e h.symm) m)]
end Rw
end T_RD

section T_GL
set_option Elab.async false
set_option linter.all false
set_option maxRecDepth 100000
set_option maxHeartbeats 8000000
namespace Rw
open PySem L2 PyProof.Rows
/-! ### greatest rounds -/
/-- a part with one more node -/
def insS (rest fr : List Str) (z : Str) : List Str := rest.filter fun y => decide (y ∈ fr ++ [z])
def growB (rest : List Str) (safe : List (List Str)) (fr : List Str) (z : Str) : Bool := decide (z ∉ fr) && decide (insS rest fr z ∈ safe)
def topB (rest : List Str) (safe : List (List Str)) (fr : List Str) : Bool := (rest.filter (growB rest safe fr)).isEmpty
def greatestL (rest : List Str) (safe : List (List Str)) : List (List Str) := safe.filter (topB rest safe)
theorem insS_is {rest fr js : List Str} {z : Str} (hr : sortedS rest = true) (nd : rest.Nodup) (hf : fr.Sublist rest) (hz : z ∈ rest) (hn : z ∉ fr) (hp : js.Perm (fr ++ [z])) (hs : sortedS js = true) : js = insS rest fr z := by
  refine sorted_uniq hs (sorted_sub List.filter_sublist hr) (hp.trans ?_)
  have nd2 : (fr ++ [z]).Nodup := by
    rw [List.nodup_append]
    exact ⟨nd.sublist hf, by simp, fun a ha b hb e => hn (by rw [List.mem_singleton.mp hb] at e; exact e ▸ ha)⟩
  refine (List.perm_ext_iff_of_nodup nd2 (List.Pairwise.filter _ nd)).mpr fun x => ?_
  rw [List.mem_filter]
  constructor
  · intro h
    refine ⟨?_, decide_eq_true h⟩
    rcases List.mem_append.mp h with h | h
    · exact hf.subset h
    · rw [List.mem_singleton.mp h]; exact hz
  · exact fun h => of_decide_eq_true h.2
theorem un65 {k : Nat} {A : Around} (h : Room k A) : A.units + 65 < cLine := by
  have := h.un
  omega
theorem restOf_sub (zs ys : List Str) : (restOf zs ys).Sublist ys := List.filter_sublist
end Rw
end T_GL

section T_S6
set_option Elab.async false
set_option linter.all false
set_option maxRecDepth 100000
set_option maxHeartbeats 4000000
namespace Rw
open PySem PySem.Spec PyProof.Rows
/-! ### sorted(tuples of texts) -/
theorem lexS_swo {α : Type} (k : α → List Str) : SrtO.Swo fun a b => lexS (k a) (k b) := ⟨fun _ _ h => lexS_no h, fun _ _ _ h1 h2 => lexS_tr h1 h2⟩
section
variable {prog : Program} {w : World} {A : Around} {E : Value → Shared → Prop} {s : Shared}
/-- a tuple of texts, not empty -/
def IsTS (h : Heap) (v : Value) (xs : List Str) : Prop := ∃ (a : Addr) (us : Array Value), v = .ref a ∧ IsTup h a us ∧ StrsAre us.toList xs ∧ xs ≠ []
theorem IsTS.on {h h' : Heap} {v : Value} {k : List Str} (x : IsTS h v k) (keep : ∀ b o, h.get? b = some o → o.cls = .type "tuple" → h'.get? b = some o) : IsTS h' v k := by
  obtain ⟨a, us, e, ⟨o, h1, h2, h3⟩, r, n⟩ := x
  exact ⟨a, us, e, ⟨o, keep _ _ h1 h2, h2, h3⟩, r, n⟩
theorem ts_lex {L1 L2 : Nat} : ∀ {as bs : List Value} {xs ys : List Str}, StrsAre as xs → StrsAre bs ys → xs.length + L2 = ys.length + L1 → ∀ i,
    PySem.W.KatLex prog w A true (decide (L1 < L2)) (fun r t => t = s ∧ r = lexS xs ys) (as.zip bs) i s
  | _, _, _, _, .nil, .nil, hl, i => PySem.W.kat_nil ⟨rfl, decide_eq_false (by simp only [List.length_nil] at hl; omega)⟩
  | _, _, _, _, .nil, .cons y t2 hb, hl, i => PySem.W.kat_nil ⟨rfl, decide_eq_true (by simp only [List.length_nil, List.length_cons] at hl; omega)⟩
  | _, _, _, _, .cons x t1 ha, .nil, hl, i => by
    rw [List.zip_nil_right]
    exact PySem.W.kat_nil ⟨rfl, decide_eq_false (by simp only [List.length_nil, List.length_cons] at hl; omega)⟩
  | _, _, _, _, .cons x t1 ha, .cons y t2 hb, hl, i => by
    rw [List.zip_cons_cons]
    refine PySem.W.kat_cons (SeqAt.EqAt.str_str x t1 y t2 prog w _ _ ?_)
    refine PySem.W.kat_go (fun e1 => ?_) (fun e1 => ?_)
    · have e : x = y := by simpa using e1
      rw [lexS_step, if_pos e]
      exact PySem.W.kat_yes (ts_lex ha hb (by simp only [List.length_cons] at hl; omega) (i + 1))
    · have e : ¬ x = y := by simpa using e1
      rw [lexS_step, if_neg e]
      exact PySem.W.kat_no (oneLt_any_str ⟨rfl, rfl⟩)
theorem ts_cmp {vs : List Value} {k : Value → List Str} (hp : ∀ v ∈ vs, IsTS s.heap v (k v)) : SrtO.Cmp prog w A s (tuples' true) (fun p => p.1 ∈ vs) (SrtO.lt2 fun v u => lexS (k v) (k u)) := by
  intro p q m1 m2
  have h1 := hp _ m1
  have h2 := hp _ m2
  show wpAny (model prog w) A (keyLt' (tuples' true) p.1 q.1) (fun r t => t = s ∧ r = lexS (k p.1) (k q.1)) (fun _ _ => False) s
  generalize k p.1 = xs at h1 ⊢
  generalize k q.1 = ys at h2 ⊢
  obtain ⟨a, us, ep, ⟨o, g1, g2, n, g3⟩, rs, _⟩ := h1
  obtain ⟨a', us', eq, ⟨o', g1', g2', n', g3'⟩, rs', _⟩ := h2
  rw [ep, eq]
  refine PySem.W.kat_lt g1 g3 g1' g3' ?_
  have l1 : us.size = xs.length := by rw [← rs.len_eq, Array.length_toList]
  have l2 : us'.size = ys.length := by rw [← rs'.len_eq, Array.length_toList]
  exact ts_lex rs rs' (by omega) 0
theorem ts_firsts {h : Heap} {k : Value → List Str} : ∀ {vs : List Value}, (∀ v ∈ vs, IsTS h v (k v)) → ∃ fs : List Value, PySem.W.KatTups h vs fs ∧ fs.length = vs.length ∧ ∀ f ∈ fs, ∃ x t, f = Value.str x t
  | [], _ => ⟨[], PySem.W.KatTups.nil, rfl, fun _ z => nomatch z⟩
  | v :: vs, hp => by
    obtain ⟨fs, g1, g2, g3⟩ := ts_firsts (vs := vs) fun u hu => hp u (List.mem_cons_of_mem _ hu)
    obtain ⟨a, us, rfl, ⟨o, h1, h2, n, h3⟩, r, ne⟩ := hp v List.mem_cons_self
    obtain ⟨x, t, h0⟩ : ∃ x t, us[0]? = some (Value.str x t) := by
      rw [← Array.getElem?_toList]
      cases r' : us.toList with
      | nil =>
        rw [r'] at r
        cases q : k (.ref a) with
        | nil => exact absurd q ne
        | cons y ys => rw [q] at r; cases r
      | cons u r2 =>
        rw [r'] at r
        cases q : k (.ref a) with
        | nil => exact absurd q ne
        | cons y ys =>
          rw [q] at r
          cases r with
          | cons _ t _ => exact ⟨y, t, rfl⟩
    refine ⟨.str x t :: fs, PySem.W.KatTups.cons h1 h2 h3 h0 g1, congrArg (· + 1) g2, fun f hf => ?_⟩
    rcases List.mem_cons.mp hf with rfl | hf
    · exact ⟨_, t, rfl⟩
    · exact g3 f hf
theorem ts_sortable {a : Addr} {vs : List Value} {k : Value → List Str} (h0 : 0 < vs.length) (hp : ∀ v ∈ vs, IsTS s.heap v (k v)) (ha : ∀ o, s.heap.get? a = some o → o.cls ≠ .type "tuple") : SrtO.SortableO prog w A s a vs fun v u => lexS (k v) (k u) := by
  intro h' keep
  have hp' : ∀ v ∈ vs, IsTS h' v (k v) := fun v hv => (hp v hv).on fun b o e c => keep b o (fun z => by subst z; exact ha o e c) e
  obtain ⟨fs, g1, g2, g3⟩ := ts_firsts hp'
  refine ⟨tuples' true, fun Q E hq => ?_, ts_cmp (s := { s with heap := h' }) hp'⟩
  refine PySem.W.kat_kind (T := .type "str") g1 (by omega) (fun f hf => ?_) (by rfl) ?_
  · obtain ⟨x, t, rfl⟩ := g3 f hf
    exact PySem.W.Looks.now
  · rw [show (Value.type "str" != Value.type "tuple") = true by first | decide +kernel | rfl]
    exact hq
end
end Rw
namespace L2
open PySem PySem.Spec PyProof.Rows
/-- sorted(xs), xs a list of tuples of texts, none empty: a new list, in order -/
def rSortTS (K : PySem.W.Frag) : List V → Hp → VK → Prop := fun vs H Q => ∃ (a : Addr) (xs : List V) (k : V → List Str), vs = [V.ref a] ∧ SqL K H a xs ∧ (∀ x ∈ xs, ∃ t, x = V.ref t ∧ H t = some (.tup ((k x).map V.str)) ∧ k x ≠ []) ∧
  ∀ ys p, ys.Perm xs → SrtO.Srtd (fun x y => Rw.lexS (k x) (k y)) ys → H p = none → Q (.ref p) (upd H p (.lst ys))
theorem cr_sortTS {X : Cx} : CallR X (.builtin "sorted") (rSortTS X.K) := by
  intro pins s σ H vs us Q I r h
  obtain ⟨a, xs, k, rfl, hs, hx, q⟩ := h
  obtain ⟨its, rv, hl, hz⟩ := I.list hs
  obtain ⟨u, rfl, ru⟩ := vals1 r
  obtain rfl : u = Value.ref a := ru
  obtain ⟨e1, e2⟩ := refs_back rv fun x m => by
    obtain ⟨t, e, _⟩ := hx x m
    exact ⟨t, e⟩
  have all : ∀ v ∈ its, Rw.IsTS s.heap v (k (backV v)) := fun v hv => by
    obtain ⟨t, rfl⟩ := e2 v hv
    have hm : V.ref t ∈ xs := by rw [e1]; exact List.mem_map.mpr ⟨_, hv, rfl⟩
    obtain ⟨t', e, ht, ne⟩ := hx _ hm
    cases e
    obtain ⟨_, i3, r3, o3, ho3, hc3, n3, hd3⟩ := I.hok _ _ ht
    exact ⟨t, i3.toArray, rfl, ⟨o3, ho3, hc3, n3, hd3⟩, Vals.strs r3, ne⟩
  refine SrtO.sorted_ord (Rw.lexS_swo fun v => k (backV v)) hl.isList (by rw [← rv.length]; exact hz) (fun h2 h1 d hd kk => ?_) fun out hs1 hb1 => ?_
  · refine Rw.ts_sortable (s := { s with heap := h1 }) (by omega) (fun v hv => (all v hv).on fun b o e _ => (kk b o e).2) fun o e => ?_
    have e' : some o = some (seqObj "list" its.toArray 0) := e.symm.trans hd
    cases e'
    intro c
    exact absurd (Value.type.inj c) (by decide)
  · have h3 : ∀ u ∈ out, ∃ a, u = Value.ref a := fun u hu => e2 u (hb1.perm.mem_iff.mp hu)
    have hp : (out.map backV).Perm xs := by rw [e1]; exact hb1.perm.map _
    obtain ⟨n, hn⟩ := sortedAll_at s.heap its out.toArray
    refine ⟨.ref (s.heap.objs.size + 1), upd H (s.heap.objs.size + 1) (.lst (out.map backV)), I.laid (t' := s.toks) (fun b o e => sortedAll_old e) (Nat.le_succ _) ⟨?_, out, n, vals_back h3, hn⟩, rfl, q _ _ hp (SrtO.srtd_map (f := backV) (lt := fun x y => Rw.lexS (k x) (k y)) hs1) (I.hok.fresh (Nat.le_succ _))⟩
    rw [hp.length_eq]
    exact hz
end L2
end T_S6

section T_CB
set_option Elab.async false
set_option linter.all false
set_option maxRecDepth 100000
set_option maxHeartbeats 4000000
namespace Rw
open PySem L2 PyProof.Rows LamX
theorem sub_filter {p rest : List Str} (h : p.Sublist rest) (nd : rest.Nodup) : p = rest.filter fun z => decide (z ∈ p) := by
  induction h with
  | slnil => rfl
  | cons a h ih =>
    rename_i l1 l2
    have nd' := List.nodup_cons.mp nd
    have na : a ∉ l1 := fun m => nd'.1 (h.subset m)
    rw [List.filter_cons_of_neg (by rw [decide_eq_false na]; decide)]
    exact ih nd'.2
  | cons_cons a h ih =>
    rename_i l1 l2
    have nd' := List.nodup_cons.mp nd
    rw [List.filter_cons_of_pos (by rw [decide_eq_true List.mem_cons_self])]
    congr 1
    refine (ih nd'.2).trans (List.filter_congr fun z hz => ?_)
    have ne : z ≠ a := fun e => nd'.1 (e ▸ hz)
    by_cases m : z ∈ l1
    · rw [decide_eq_true m, decide_eq_true (List.mem_cons_of_mem _ m)]
    · rw [decide_eq_false m, decide_eq_false (fun q => (List.mem_cons.mp q).elim ne m)]
theorem sub_eq {p q rest : List Str} (hp : p.Sublist rest) (hq : q.Sublist rest) (nd : rest.Nodup) (h : ∀ z, z ∈ p ↔ z ∈ q) : p = q := by
  rw [sub_filter hp nd, sub_filter hq nd]
  refine List.filter_congr fun z _ => ?_
  by_cases m : z ∈ p
  · rw [decide_eq_true m, decide_eq_true ((h z).mp m)]
  · rw [decide_eq_false m, decide_eq_false fun q => m ((h z).mpr q)]
theorem sub_less {p q rest : List Str} (hp : p.Sublist rest) (hq : q.Sublist rest) (nd : rest.Nodup) (h : ∀ z ∈ p, z ∈ q) (ne : p ≠ q) : p.length < q.length := by
  rcases Nat.lt_or_ge p.length q.length with l | l
  · exact l
  · exfalso
    refine ne (sub_eq hp hq nd fun z => ⟨h z, fun hz => Decidable.byContradiction fun m => ?_⟩)
    have h1 := nodup_le (z :: p) q (List.nodup_cons.mpr ⟨m, nd.sublist hp⟩) fun y hy => (List.mem_cons.mp hy).elim (fun e => e ▸ hz) (h y)
    rw [List.length_cons] at h1
    omega
theorem numRow_le {p q : List Str} (h : numRow ((q.length : Int), q) ((p.length : Int), p) = false) : p.length ≤ q.length := by
  unfold numRow at h
  dsimp only at h
  by_cases e : (q.length : Int) = (p.length : Int)
  · omega
  · rw [if_neg e, decide_eq_false_iff_not] at h
    omega
theorem srt_ex (l : List (List Str)) : ∃ Ls : List (List Str), Ls.Perm l ∧ RowsSrt Ls := by
  have sw := numRow_swo fun p : List Str => ((p.length : Int), p)
  refine ⟨l.mergeSort fun p q => !numRow ((q.length : Int), q) ((p.length : Int), p), List.mergeSort_perm _ _, ?_⟩
  refine (List.pairwise_mergeSort (fun a b c h1 h2 => ?_) (fun a b => ?_) l).imp fun {a b} h => by simpa using h
  · simp only [Bool.not_eq_true'] at h1 h2 ⊢
    exact sw.2 a b c h1 h2
  · cases e : numRow ((b.length : Int), b) ((a.length : Int), a) with
    | false => rfl
    | true =>
      have := sw.1 _ _ e
      rw [this]
      rfl
theorem partsS_srt (zs : List Str) : RowsSrt (partsS zs) := by
  unfold partsS
  split
  · rename_i c
    exact (Classical.choose_spec c).2
  · rename_i c
    exact absurd (srt_ex (parts0 zs)) c
theorem partsS_mem {zs p : List Str} : p ∈ partsS zs ↔ p.Sublist zs := ⟨partsS_sub, partsS_has⟩
/-- the least lots are those that have no lesser one -/
theorem badB_fault {ends dots ss ps : List Str} {o n : Str → List (Str × V)} {on : List Str} {wd : Str} : badB ends dots ss ps o n on wd = (faultAt ends dots ss ps o n wd on).isSome := by
  unfold badB faultAt
  rw [List.isSome_find?]
theorem pair_some {H : Hp} {v : V} {r : Option (Str × Str)} (h : PairIs H v r) : (!decide (v = .non)) = r.isSome := by
  cases r with
  | none =>
    have e : v = .non := h
    rw [e]
    rfl
  | some q =>
    obtain ⟨e, z⟩ := q
    obtain ⟨p, rfl, _⟩ := h
    rfl
/-- two lists in order of the same lots -/
theorem lex_uniq : ∀ {l m : List (List Str)}, l.Perm m → (l.Pairwise fun p q => lexS q p = false) → (m.Pairwise fun p q => lexS q p = false) → l = m := by
  intro l
  induction l with
  | nil => intro m hp _ _; exact (List.nil_perm.mp hp).symm
  | cons a l ih =>
    intro m hp hl hm
    cases m with
    | nil => exact absurd hp.length_eq (by simp)
    | cons b m =>
      have hab : a = b := by
        have ha : a ∈ b :: m := hp.mem_iff.mp List.mem_cons_self
        have hb : b ∈ a :: l := hp.mem_iff.mpr List.mem_cons_self
        rcases List.mem_cons.mp ha with e | ha
        · exact e
        · rcases List.mem_cons.mp hb with e | hb
          · exact e.symm
          · exact lexS_tot ((List.pairwise_cons.mp hm).1 a ha) ((List.pairwise_cons.mp hl).1 b hb)
      subst hab
      rw [ih (List.perm_cons a |>.mp hp) (List.pairwise_cons.mp hl).2 (List.pairwise_cons.mp hm).2]
end Rw
end T_CB

section T_U0
set_option Elab.async false
set_option linter.all false
set_option maxRecDepth 100000
set_option maxHeartbeats 4000000
namespace Rw
open PySem L2 PyProof.Rows
/-! ### plans: lots, safe rounds, numbers of rounds, plans counted and numbered -/
/-- the nodes of either lot -/
def mixS (ys zs p : List Str) : List Str := ys.filter fun z => decide (z ∈ zs ∨ z ∈ p)
theorem mixS_sub (ys zs p : List Str) : (mixS ys zs p).Sublist ys := List.filter_sublist
theorem mixS_mem {ys zs p : List Str} (hz : zs.Sublist ys) (hp : p.Sublist ys) {x : Str} : x ∈ mixS ys zs p ↔ x ∈ zs ∨ x ∈ p := by
  unfold mixS
  rw [List.mem_filter]
  exact ⟨fun h => of_decide_eq_true h.2, fun h => ⟨h.elim (fun q => hz.subset q) (fun q => hp.subset q), decide_eq_true h⟩⟩
theorem mixS_is {ys zs p js : List Str} (so : sortedS ys = true) (nd : ys.Nodup) (hz : zs.Sublist ys) (hq : p.Sublist ys) (dis : ∀ x ∈ p, x ∉ zs) (hp : js.Perm (zs ++ p)) (hs : sortedS js = true) : js = mixS ys zs p := by
  refine sorted_uniq hs (sorted_sub List.filter_sublist so) (hp.trans ?_)
  have nd2 : (zs ++ p).Nodup := by
    rw [List.nodup_append]
    exact ⟨nd.sublist hz, nd.sublist hq, fun a ha b hb e => dis b hb (e ▸ ha)⟩
  refine (List.perm_ext_iff_of_nodup nd2 (List.Pairwise.filter _ nd)).mpr fun x => ?_
  rw [List.mem_append]
  exact (mixS_mem hz hq).symm
theorem mixS_nil {ys zs : List Str} (nd : ys.Nodup) (hz : zs.Sublist ys) : mixS ys zs [] = zs :=
  sub_eq (mixS_sub _ _ _) hz nd fun x => (mixS_mem hz (List.nil_sublist _)).trans ⟨fun h => h.resolve_right (fun q => nomatch q), .inl⟩
theorem restOf_mem {zs ys : List Str} {x : Str} : x ∈ restOf zs ys ↔ x ∈ ys ∧ x ∉ zs := by
  unfold restOf
  rw [List.mem_filter]
  exact ⟨fun h => ⟨h.1, of_decide_eq_true h.2⟩, fun h => ⟨h.1, decide_eq_true h.2⟩⟩
theorem rest_lot {ys zs p : List Str} (h : p.Sublist (restOf zs ys)) : p.Sublist ys ∧ ∀ x ∈ p, x ∉ zs := ⟨h.trans (restOf_sub _ _), fun x hx => (restOf_mem.mp (h.subset hx)).2⟩
theorem lot_rest {ys zs p : List Str} (nd : ys.Nodup) (h : p.Sublist ys) (hd : ∀ x ∈ p, x ∉ zs) : p.Sublist (restOf zs ys) := by
  have e : p = (restOf zs ys).filter fun z => decide (z ∈ p) := by
    rw [sub_filter h nd]
    unfold restOf
    rw [List.filter_filter]
    refine List.filter_congr fun z _ => ?_
    rw [← sub_filter h nd]
    by_cases m : z ∈ p
    · rw [decide_eq_true m, decide_eq_true (hd z m)]
      rfl
    · rw [decide_eq_false m]
      rfl
  rw [e]
  exact List.filter_sublist
/-- no lot within the round is broken -/
def okB (brk : List Str → Bool) (ys zs p : List Str) : Bool := (parts0 p).all fun q => !(brk (mixS ys zs q))
theorem okB_iff {brk : List Str → Bool} {ys zs p : List Str} : okB brk ys zs p = true ↔ ∀ q, q.Sublist p → brk (mixS ys zs q) = false := by
  unfold okB
  rw [List.all_eq_true]
  constructor
  · intro h q hq
    have := h q (parts0_has hq)
    rw [Bool.not_eq_true'] at this
    exact this
  · intro h q hq
    rw [h q (parts0_sub hq)]
    rfl
/-- the safe rounds behind zs as they are found -/
def safeM (brk : List Str → Bool) (ys zs l : List Str) : List (List Str) := (parts0 l).filter (okB brk ys zs)
theorem safeM_nil (brk : List Str → Bool) {ys zs : List Str} (nd : ys.Nodup) (hz : zs.Sublist ys) : safeM brk ys zs [] = if brk zs = true then [] else [[]] := by
  have e : okB brk ys zs [] = !(brk zs) := by
    unfold okB parts0
    show ((!(brk (mixS ys zs []))) && true) = _
    rw [Bool.and_true, mixS_nil nd hz]
  show List.filter (okB brk ys zs) [[]] = _
  cases h : brk zs with
  | true =>
    rw [h] at e
    rw [List.filter_cons_of_neg (by rw [e]; decide)]
    rfl
  | false =>
    rw [h] at e
    rw [List.filter_cons_of_pos (by rw [e]; rfl)]
    rfl
theorem okB_snoc {brk : List Str → Bool} {ys zs p : List Str} {z : Str} (nd : ys.Nodup) (hz : zs.Sublist ys) (hp : (p ++ [z]).Sublist (restOf zs ys)) : okB brk ys zs (p ++ [z]) = (okB brk ys zs p && okB brk ys (mixS ys zs [z]) p) := by
  obtain ⟨s1, d1⟩ := rest_lot hp
  have zin : z ∈ ys := s1.subset (List.mem_append_right _ List.mem_cons_self)
  have pz : p.Sublist ys := (List.sublist_append_left p [z]).trans s1
  have hz1 : ([z] : List Str).Sublist ys := List.singleton_sublist.mpr zin
  have key : ∀ q, q.Sublist p → mixS ys zs (q ++ [z]) = mixS ys (mixS ys zs [z]) q := fun q hq => by
    have q1 := hq.trans pz
    have q2 : (q ++ [z]).Sublist ys := (hq.append (List.Sublist.refl [z])).trans s1
    refine sub_eq (mixS_sub _ _ _) (mixS_sub _ _ _) nd fun x => ?_
    rw [mixS_mem hz q2, mixS_mem (mixS_sub _ _ _) q1, mixS_mem hz hz1, List.mem_append]
    constructor
    · rintro (h | h | h)
      · exact .inl (.inl h)
      · exact .inr h
      · exact .inl (.inr h)
    · rintro ((h | h) | h)
      · exact .inl h
      · exact .inr (.inr h)
      · exact .inr (.inl h)
  rw [Bool.eq_iff_iff, Bool.and_eq_true, okB_iff, okB_iff, okB_iff]
  constructor
  · intro h
    exact ⟨fun q hq => h q (hq.trans (List.sublist_append_left _ _)), fun q hq => by rw [← key q hq]; exact h _ (hq.append (List.Sublist.refl _))⟩
  · rintro ⟨h1, h2⟩ q hq
    obtain ⟨q1, q2, rfl, g1, g2⟩ := List.sublist_append_iff.mp hq
    rcases List.sublist_cons_iff.mp g2 with g3 | ⟨r, rfl, g3⟩
    · rw [List.sublist_nil.mp g3, List.append_nil]
      exact h1 q1 g1
    · rw [List.sublist_nil.mp g3, key q1 g1]
      exact h2 q1 g1
/-- the safe rounds behind a lot, all of them -/
def safeA (brk : List Str → Bool) (ys zs : List Str) : List (List Str) := safeM brk ys zs (restOf zs ys)
theorem safeM_mem {brk : List Str → Bool} {ys zs l p : List Str} : p ∈ safeM brk ys zs l ↔ p.Sublist l ∧ okB brk ys zs p = true := by
  unfold safeM
  rw [List.mem_filter]
  exact ⟨fun h => ⟨parts0_sub h.1, h.2⟩, fun h => ⟨parts0_has h.1, h.2⟩⟩
theorem safeA_mem {brk : List Str → Bool} {ys zs p : List Str} : p ∈ safeA brk ys zs ↔ p.Sublist (restOf zs ys) ∧ okB brk ys zs p = true := safeM_mem
theorem safeM_snoc {brk : List Str → Bool} {ys zs l : List Str} {z : Str} (nd : ys.Nodup) (hz : zs.Sublist ys) (hl : (l ++ [z]).Sublist (restOf zs ys)) :
    safeM brk ys zs (l ++ [z]) = safeM brk ys zs l ++ ((safeM brk ys zs l).filter fun p => decide (p ∈ safeA brk ys (mixS ys zs [z]))).map fun p => p ++ [z] := by
  have hlz := rest_lot hl
  have zin : z ∈ ys := hlz.1.subset (List.mem_append_right _ List.mem_cons_self)
  have hz1 : ([z] : List Str).Sublist ys := List.singleton_sublist.mpr zin
  have nl : (l ++ [z]).Nodup := nd.sublist hlz.1
  have zl : z ∉ l := fun h => (List.nodup_append.mp nl).2.2 z h z (List.mem_singleton.mpr rfl) rfl
  unfold safeM
  rw [parts0_snoc, List.filter_append]
  congr 1
  rw [List.filter_map, List.filter_filter]
  congr 1
  refine List.filter_congr fun p hp => ?_
  have ps := parts0_sub hp
  have hpz : (p ++ [z]).Sublist (restOf zs ys) := (ps.append (List.Sublist.refl _)).trans hl
  show okB brk ys zs (p ++ [z]) = _
  rw [okB_snoc nd hz hpz, Bool.and_comm]
  congr 1
  have pr : p.Sublist (restOf (mixS ys zs [z]) ys) := by
    obtain ⟨a, b⟩ := rest_lot ((List.sublist_append_left p [z]).trans hpz)
    refine lot_rest nd a fun x hx m => ?_
    rcases (mixS_mem hz hz1).mp m with m | m
    · exact b x hx m
    · rw [List.mem_singleton.mp m] at hx
      exact zl (ps.subset hx)
  rw [Bool.eq_iff_iff, decide_eq_true_iff]
  exact ⟨fun h => safeA_mem.mpr ⟨pr, h⟩, fun h => (safeA_mem.mp h).2⟩
theorem safeM_nodup {brk : List Str → Bool} {ys zs l : List Str} (nd : l.Nodup) : (safeM brk ys zs l).Nodup := by
  have h := parts0_nodup l.reverse (by rw [List.reverse_reverse]; exact nd)
  rw [List.reverse_reverse] at h
  exact List.Pairwise.filter _ h
theorem safeM_len {brk : List Str → Bool} {ys zs l : List Str} (h : l.length ≤ 6) : (safeM brk ys zs l).length ≤ 64 := by
  refine Nat.le_trans (List.length_filter_le _ _) ?_
  rw [parts0_len _ l rfl]
  exact Nat.le_trans (Nat.pow_le_pow_right (by decide) h) (by decide)
theorem parts0_head (l : List Str) : (parts0 l).head? = some [] := by
  have main : ∀ (l : List Str) (ps : List (List Str)), ps.head? = some [] → (l.foldl (fun ps z => ps ++ ps.map fun p => p ++ [z]) ps).head? = some [] := by
    intro l
    induction l with
    | nil => exact fun ps h => h
    | cons z l ih =>
      intro ps h
      refine ih _ ?_
      cases ps with
      | nil => cases h
      | cons p ps => exact h
  exact main l [[]] rfl
theorem safeA_head {brk : List Str → Bool} {ys zs p : List Str} (h : (safeA brk ys zs).head? = some p) : p = [] := by
  have e0 : okB brk ys zs [] = true := by
    have m : p ∈ safeA brk ys zs := List.mem_of_mem_head? h
    refine okB_iff.mpr fun q hq => ?_
    exact okB_iff.mp (safeA_mem.mp m).2 q (hq.trans (List.nil_sublist _))
  unfold safeA safeM at h
  have h0 := parts0_head (restOf zs ys)
  cases e : parts0 (restOf zs ys) with
  | nil => rw [e] at h0; cases h0
  | cons r rs =>
    rw [e] at h h0
    cases h0
    rw [List.filter_cons_of_pos e0] at h
    exact (Option.some.inj h).symm
/-- the same lots in order -/
def lexL (l : List (List Str)) : List (List Str) := l.mergeSort fun a b => !(lexS b a)
theorem lexL_perm (l : List (List Str)) : (lexL l).Perm l := List.mergeSort_perm _ _
theorem lexL_srt (l : List (List Str)) : (lexL l).Pairwise fun p q => lexS q p = false := by
  have h := List.pairwise_mergeSort (le := fun a b : List Str => !(lexS b a)) (fun a b c h1 h2 => by
    rw [Bool.not_eq_true'] at h1 h2 ⊢
    exact lexS_tr h1 h2) (fun a b => by
    cases e : lexS b a with
    | false => rfl
    | true => rw [lexS_no e]; rfl) l
  refine h.imp fun {a b} q => ?_
  rw [Bool.not_eq_true'] at q
  exact q
theorem lexL_is {l m : List (List Str)} (hp : m.Perm l) (hs : m.Pairwise fun p q => lexS q p = false) : m = lexL l := lex_uniq (hp.trans (lexL_perm l).symm) hs (lexL_srt l)
/-- the safe rounds behind a lot, in order -/
def safeS (brk : List Str → Bool) (ys zs : List Str) : List (List Str) := lexL (safeA brk ys zs)
theorem safeS_mem {brk : List Str → Bool} {ys zs p : List Str} : p ∈ safeS brk ys zs ↔ p.Sublist (restOf zs ys) ∧ okB brk ys zs p = true := (lexL_perm _).mem_iff.trans safeA_mem
theorem longer_ahead {ys zs q : List Str} {A B : List (List Str)} (h : (partsS ys).reverse = A ++ zs :: B) (hq : q.Sublist ys) (hl : zs.length < q.length) : q ∈ A := by
  have h1 : partsS ys = B.reverse ++ zs :: A.reverse := by
    have := congrArg List.reverse h
    rw [List.reverse_reverse, List.reverse_append, List.reverse_cons, List.append_assoc, List.singleton_append] at this
    exact this
  have srt := partsS_srt ys
  have m : q ∈ partsS ys := partsS_has hq
  rw [h1] at srt m
  rcases List.mem_append.mp m with m | m
  · have := numRow_le ((List.pairwise_append.mp srt).2.2 q m zs List.mem_cons_self)
    omega
  · rcases List.mem_cons.mp m with rfl | m
    · omega
    · exact List.mem_reverse.mp m
theorem mixS_longer {ys zs : List Str} {z : Str} (hz : zs.Sublist ys) (nd : ys.Nodup) (zin : z ∈ ys) (zn : z ∉ zs) : zs.length < (mixS ys zs [z]).length := by
  refine sub_less hz (mixS_sub _ _ _) nd (fun x hx => (mixS_mem hz (List.singleton_sublist.mpr zin)).mpr (.inl hx)) fun e => zn ?_
  rw [e]
  exact (mixS_mem hz (List.singleton_sublist.mpr zin)).mpr (.inr List.mem_cons_self)
/-- a dict from all lots to the lists of their safe rounds -/
structure SafeD (H : Hp) (p : Addr) (brk : List Str → Bool) (ys : List Str) : Prop where
  ex : ∃ T : List (List Str × Addr), H p = some (.dT (kT T)) ∧ T.map (·.1) = (partsS ys).reverse ∧ ∀ t ∈ T, ∃ L : List (Addr × List Str), H t.2 = some (.lst (L.map fun q => V.ref q.1)) ∧ RowsT H L ∧ L.map (·.2) = safeS brk ys t.1
theorem SafeD.to {H H' : Hp} {p : Addr} {brk : List Str → Bool} {ys : List Str} (h : SafeD H p brk ys) (x : Evl.Ex H H') : SafeD H' p brk ys := by
  obtain ⟨T, h1, h2, h3⟩ := h
  refine ⟨T, x _ _ h1, h2, fun t ht => ?_⟩
  obtain ⟨L, g1, g2, g3⟩ := h3 t ht
  exact ⟨L, x _ _ g1, g2.to x, g3⟩
theorem SafeD.nt {H : Hp} {p : Addr} {brk : List Str → Bool} {ys : List Str} (h : SafeD H p brk ys) : SafeD (nt H) p brk ys := by
  obtain ⟨T, h1, h2, h3⟩ := h
  refine ⟨T, nt_of h1 (fun _ z => by cases z), h2, fun t ht => ?_⟩
  obtain ⟨L, g1, g2, g3⟩ := h3 t ht
  exact ⟨L, nt_lst g1, g2.nt, g3⟩
theorem restOf_len (zs ys : List Str) : (restOf zs ys).length ≤ ys.length := (restOf_sub zs ys).length_le
end Rw
end T_U0

section T_LJ
set_option Elab.async false
set_option linter.all false
set_option maxRecDepth 100000
set_option maxHeartbeats 8000000
namespace Rw
open PySem L2 PyProof.Rows
section
variable {P : Program} {w : World} {K : PySem.W.Frag} {mg : Str → Option Value} {base : Heap}
/-! ### the lot of two lots, as the law tells it -/
def spJoinL (K : PySem.W.Frag) : Sp := fun vs H Q _ => ∃ (a b : Addr) (zs ys : List Str), vs = [.ref a, .ref b] ∧ H a = some (.tup (zs.map V.str)) ∧ H b = some (.tup (ys.map V.str)) ∧ zs.length + ys.length ≤ 60 ∧
  ∀ (p : Addr) (H' : Hp) (js : List Str), Evl.Ex H H' → H' p = some (.tup (js.map V.str)) → js.Perm (zs ++ ys.filter fun z => decide (z ∉ zs)) → sortedS js = true → Q (.ref p) H'
abbrev nJoinL : List Str := ["one", "beside", "dot"]
theorem sc_joinL : FnScope nJoinL ["one", "beside"] (defScope s_join) := ⟨rfl, rfl, rfl, by decide +kernel, rfl, by decide +kernel, by decide +kernel⟩
theorem ok_joinL {f : Addr} {fd : FuncData} (F : Fun K "_law_join" "_law_join" s_join f fd) (mTup : mg "tuple" = none) (mSorted : mg "sorted" = none) : FnOk P w K mg base CX0 1 f fd ["one", "beside"] (spJoinL K) := by
  refine F.ok sc_joinL (fun vs H Q E h => ?_) (fun cdv A outer s H vs Q E hr h => ?_)
  · obtain ⟨a, b, zs, ys, rfl, _⟩ := h
    rfl
  · obtain ⟨a, b, zs, ys, rfl, ha, hb, few, k⟩ := h
    have nd := sc_joinL.nd
    refine ⟨_, pss_one (ps_ret (pe_callTy call_tuple_of (by rfl) mTup (by decide +kernel) (pa_cons (pe_callB cr_sortedLU (by rfl) mSorted (by decide +kernel) (pa_cons (pe_op op_catU (pv 0)
      (pe_callTy call_tuple_of (by rfl) mTup (by decide +kernel) (pa_cons (pe_lc (own := [("dot", 2)]) (g := gName 2) (tt := tTest (tOp (rIn K true) (tVar 2) (tVar 0))) (te := tVar 2) rfl nd (pi_tup (pv 1)) (blkOk_by (own := [("dot", 2)]) (N := nJoinL) (sc := defScope s_join) (by decide +kernel))
        (fun _ _ _ _ _ => pg_name (i := 2) nd rfl (Or.inl rfl)) (fun _ _ _ _ _ => pts_one (pt_cmpR op_notIn_seq (pv 2) (pv 0) rfl)) (fun _ _ _ _ _ => pv 2)) pa_nil))) pa_nil)) pa_nil))), ?_⟩
    refine ⟨.ref a, rfl, .ref b, rfl, b, rfl, ⟨_, Evl.st_of hb⟩, fun D hD => lc_tup (K := K) (a := b) (xs := ys.map V.str)
      (fun j H' => Evl.Ex H H' ∧ H' D = some (.lst (((ys.take j).filter fun z => decide (z ∉ zs)).map V.str))) ⟨Evl.Ex.new hD, upd_same⟩ (fun j H' _ h => Evl.st_of (h.1 _ _ hb)) ?_ ?_⟩
    · rintro j y H4 hj ⟨x4, d4⟩
      obtain ⟨z, hz, rfl⟩ := str_at hj
      have ez : ys.take (j + 1) = ys.take j ++ [z] := by rw [List.take_add_one, hz]; rfl
      have fl : ((ys.take j).filter fun z => decide (z ∉ zs)).length ≤ 100 := Nat.le_trans (List.length_filter_le _ _) (by rw [List.length_take]; omega)
      refine ⟨rfl, .str z, rfl, .ref a, rfl, a, zs.map V.str, rfl, .inr (Evl.st_of (x4 _ _ ha)), rfl, flat_strs _, _, rfl, ?_⟩
      rw [inV_str]
      by_cases m : z ∈ zs
      · rw [decide_eq_true m]
        refine iteF ⟨x4, ?_⟩
        rw [d4, ez, List.filter_append, List.filter_cons_of_neg (by simpa using m), List.filter_nil, List.append_nil]
      · rw [decide_eq_false m]
        refine iteT ⟨.str z, rfl, _, d4, by rw [List.length_map]; exact small1000 (by omega), x4.mut hD, ?_⟩
        rw [upd_same, ez, List.filter_append, List.filter_cons_of_pos (by simpa using m), List.filter_nil, List.map_append]
        rfl
    rintro H4 ⟨x4, d4⟩
    rw [List.length_map, List.take_length] at d4
    have fl : (ys.filter fun z => decide (z ∉ zs)).length ≤ ys.length := List.length_filter_le _ _
    refine ⟨D, _, rfl, .inl ⟨Evl.sq_of d4, fun t ht => ?_⟩⟩
    have y5 : Evl.Ex H4 (upd H4 t (.tup ((ys.filter fun z => decide (z ∉ zs)).map V.str))) := Evl.Ex.new ht
    have t5 : (upd H4 t (.tup ((ys.filter fun z => decide (z ∉ zs)).map V.str))) t = some (.tup ((ys.filter fun z => decide (z ∉ zs)).map V.str)) := upd_same
    generalize upd H4 t (.tup ((ys.filter fun z => decide (z ∉ zs)).map V.str)) = H5 at y5 t5
    have x5 := x4.trans y5
    refine ⟨a, t, _, _, rfl, rfl, x5 _ _ ha, t5, Nat.le_of_lt (small1000 (by rw [List.length_map, List.length_map]; omega)), fun c H6 y6 c6 => ?_⟩
    rw [← List.map_append] at c6
    refine ⟨c, _, rfl, .inr (Evl.st_of c6), by rw [List.length_append]; omega, fun js l jp jso hl => ?_⟩
    have y7 : Evl.Ex H6 (upd H6 l (.lst (js.map V.str))) := Evl.Ex.new hl
    refine ⟨l, _, rfl, .inl ⟨Evl.sq_of upd_same, fun p hp => ?_⟩⟩
    exact k p _ js (x5.trans (y6.trans (y7.trans (Evl.Ex.new hp)))) upd_same jp jso
end
end Rw
end T_LJ

section T_X2
set_option Elab.async false
set_option linter.all false
set_option maxRecDepth 100000
set_option maxHeartbeats 4000000
namespace Rw
open PySem L2 PyProof.Rows
section
variable {P : Program} {w : World} {K : PySem.W.Frag} {mg : Str → Option Value} {base : Heap}
/-! ### the law's ways at a moment -/
def spNow : Sp := fun vs H Q _ => ∃ (m tb db sb pb a p po pn : Addr) (e : Str) (os dots : List Str) (rows t1 t2 : List (Str × V)), vs = [.ref m, .str e, .ref a] ∧ H m = some (.dK (mkv tb db sb pb)) ∧ Rd H tb (.dK (tkv rows)) ∧ valV (tkv rows) (Sum.inr e) = some (.ref p) ∧ PairAt H dots e p po pn t1 t2 ∧ H db = some (.lst (dots.map V.str)) ∧ dots.Nodup ∧ dots.length ≤ 100 ∧ H a = some (.tup (os.map V.str)) ∧
  ∀ D H', Evl.Ex H H' → H D = none → H' D = some (.dK (tkv (nowTab dots t1 t2 os))) → Q (.ref D) H'
theorem dget_rd {H : Hp} {a : Addr} {kvs : List (Key × V)} {k : Key} {v : V} (h : Rd H a (.dK kvs)) (hv : valV kvs k = some v) : DGet H a (kV k) (some v) := .inl ⟨kvs, k, h, rfl, hv.symm⟩
abbrev nNow : List Str := ["model", "end", "on", "old", "new", "dot"]
theorem sc_now : FnScope nNow ["model", "end", "on"] (defScope s_now) := ⟨rfl, rfl, rfl, by decide +kernel, rfl, by decide +kernel, by decide +kernel⟩
theorem ok_now {f : Addr} {fd : FuncData} (F : Fun K "_law_now" "_law_now" s_now f fd) (mDict : mg "dict" = none) : FnOk P w K mg base CX0 1 f fd ["model", "end", "on"] spNow := by
  refine F.ok sc_now (fun vs H Q E h => ?_) (fun cdv A outer s H vs Q E hr h => ?_)
  · obtain ⟨m, tb, db, sb, pb, a, p, po, pn, e, os, dots, rows, t1, t2, rfl, _⟩ := h
    rfl
  · obtain ⟨m, tb, db, sb, pb, a, p, po, pn, e, os, dots, rows, t1, t2, rfl, hm, htb, hv, pa, hdb, dn, d6, ha, k⟩ := h
    have nd := sc_now.nd
    have hu := hu_of hr
    refine ⟨_, pss_cons (ps_asg (pe_dget hu (pe_dget hu (pv 0) pe_str (fun _ _ => rfl)) (pv 1) (fun _ _ => rfl)) (pg_tup rfl (pgs_cons (pg_name (i := 3) nd rfl (.inr rfl)) (pgs_cons (pg_name (i := 4) nd rfl (.inr rfl)) pgs_nil))))
      (pss_one (ps_ret (pe_callTy (call_dictP rfl) (by rfl) mDict (by decide +kernel) (pa_cons
        (pe_lc (own := [("dot", 5)]) (g := gName 5) (tt := tYes) (te := tTup (tCons (tVar 5) (tCons (tIf (tTest (tOp (rIn K false) (tVar 5) (tVar 2))) (tDGet (tVar 4) (tVar 5)) (tDGet (tVar 3) (tVar 5))) tNil))) rfl nd
          (pi_list (pe_dget hu (pv 0) pe_str (fun _ _ => rfl))) (blkOk_by (own := [("dot", 5)]) (N := nNow) (sc := defScope s_now) (by decide +kernel))
          (fun _ _ _ _ _ => pg_name (i := 5) nd rfl (Or.inl rfl)) (fun _ _ _ _ _ => pts_nil)
          (fun _ _ _ _ _ => pe_tup (pa_cons (pv 5) (pa_cons (pe_ifExp (pt_cmpR op_in_seq (pv 5) (pv 2) rfl) (pe_dget hu (pv 4) (pv 5) (fun _ _ => rfl)) (pe_dget hu (pv 3) (pv 5) (fun _ _ => rfl))) pa_nil)))) pa_nil)))), ?_⟩
    refine ⟨.ref m, rfl, m, .ref tb, rfl, dget_of hm (mkv_tables _ _ _ _), .str e, rfl, tb, .ref p, rfl, dget_rd (k := Sum.inr e) htb hv, p, _, rfl, Evl.st_of pa.hp, rfl, _, _, rfl, _, [], rfl, rfl, ?_⟩
    refine ⟨.ref m, rfl, m, _, rfl, dget_of hm (mkv_dots _ _ _ _), db, rfl, ⟨_, Evl.sq_of hdb⟩, fun Dl hDl => lc_list (K := K) (a := db) (xs := dots.map V.str)
      (fun j H' => j ≤ dots.length ∧ Evl.Ex H H' ∧ ∃ qs : List Addr, qs.length = j ∧ H' Dl = some (.lst (qs.map V.ref)) ∧ Paired (fun q kv => H' q = some (.tup [kV kv.1, kv.2])) qs (tkv (nowTab (dots.take j) t1 t2 os)))
      ⟨Nat.zero_le _, Evl.Ex.new hDl, [], rfl, upd_same, .nil⟩ (fun j H' _ h => Evl.sq_of (h.2.1 _ _ hdb)) ?_ ?_⟩
    · rintro j x H1 hj ⟨_, x1, qs, ql, d1, pr⟩
      obtain ⟨z, hz, rfl⟩ := str_at hj
      have hjl : j < dots.length := (List.getElem?_eq_some_iff.mp hz).1
      have zd := List.mem_of_getElem? hz
      have et : dots.take (j + 1) = dots.take j ++ [z] := by rw [List.take_add_one, hz]; rfl
      have c1 := look_ok pa.o1 zd
      have c2 := look_ok pa.o2 zd
      refine ⟨rfl, ?_⟩
      refine yes_if ?_
      have fin : ∀ v : V, v = look (if z ∈ os then t2 else t1) z → ([V.str z, v].length ≤ sizeLine ∧ ∀ t, H1 t = none → ∃ acc, (upd H1 t (.tup [.str z, v])) Dl = some (.lst acc) ∧ acc.length < sizeLine ∧ (j + 1 ≤ dots.length ∧ Evl.Ex H (upd (upd H1 t (.tup [.str z, v])) Dl (.lst (acc ++ [.ref t]))) ∧
          ∃ qs : List Addr, qs.length = j + 1 ∧ (upd (upd H1 t (.tup [.str z, v])) Dl (.lst (acc ++ [.ref t]))) Dl = some (.lst (qs.map V.ref)) ∧ Paired (fun q kv => (upd (upd H1 t (.tup [.str z, v])) Dl (.lst (acc ++ [.ref t]))) q = some (.tup [kV kv.1, kv.2])) qs (tkv (nowTab (dots.take (j + 1)) t1 t2 os)))) := by
        rintro v rfl
        refine ⟨by show 2 ≤ sizeLine; decide, fun t ht => ?_⟩
        have x2 : Evl.Ex H1 (upd H1 t (.tup [.str z, look (if z ∈ os then t2 else t1) z])) := Evl.Ex.new ht
        have htD : t ≠ Dl := (ne_of_none d1 ht).symm
        refine ⟨_, x2 _ _ d1, by rw [List.length_map]; exact small1000 (by omega), hjl, (x1.trans x2).mut hDl, qs ++ [t], by simp [ql], by rw [upd_same, List.map_append]; rfl, ?_⟩
        rw [et, nowTab_snoc]
        unfold tkv
        rw [List.map_append]
        refine Paired.snoc (Paired.mapP pr fun q kv hq => ?_) ?_
        · rw [upd_ne (ne_of hq d1 (by intro z; cases z))]
          exact x2 _ _ hq
        · rw [upd_ne htD, upd_same]
          rfl
      refine ⟨.str z, rfl, .str z, rfl, .ref a, rfl, a, os.map V.str, rfl, .inr (Evl.st_of (x1 _ _ ha)), rfl, flat_strs os, ?_⟩
      rw [inV_str]
      by_cases mz : z ∈ os
      · rw [decide_eq_true mz]
        exact ⟨true, rfl, iteT ⟨.ref pn, rfl, .str z, rfl, pn, _, rfl, dget_of (k := Sum.inr z) (x1 _ _ pa.hn) c2.2, fin _ (by rw [if_pos mz])⟩⟩
      · rw [decide_eq_false mz]
        exact ⟨false, rfl, iteF ⟨.ref po, rfl, .str z, rfl, po, _, rfl, dget_of (k := Sum.inr z) (x1 _ _ pa.ho) c1.2, fin _ (by rw [if_neg mz])⟩⟩
    · rintro H1 ⟨_, x1, qs, ql, d1, pr⟩
      rw [List.length_map, List.take_length] at pr
      refine ⟨Dl, qs, tkv (nowTab dots t1 t2 os), rfl, Evl.sq_of d1, Paired.mapP pr (fun q kv hq => Evl.st_of hq), fun q hq => ?_⟩
      rw [merge_tkv (by rw [nowTab_keys]; exact dn)]
      exact k q _ (x1.trans (Evl.Ex.new hq)) (ex_none x1 hq) upd_same
end
end Rw
end T_X2

section T_X3
set_option Elab.async false
set_option linter.all false
set_option maxRecDepth 100000
set_option maxHeartbeats 4000000
namespace Rw
open PySem L2 PyProof.Rows
section
variable {P : Program} {w : World} {K : PySem.W.Frag} {mg : Str → Option Value} {base : Heap}
abbrev nWalk : List Str := ["table", "dot", "row"]
theorem sc_walk : FnScope nWalk ["table", "dot"] (defScope s_walk) := ⟨rfl, rfl, rfl, by decide +kernel, rfl, by decide +kernel, by decide +kernel⟩
theorem ok_walk {f : Addr} {fd : FuncData} (F : Fun K "_law_walk" "_law_walk" s_walk f fd) : FnOk P w K mg base CX0 1 f fd ["table", "dot"] spFollowed := by
  refine F.ok sc_walk (fun vs H Q E h => ?_) (fun cdv A outer s H vs Q E hr h => ?_)
  · obtain ⟨t, z, dots, tb, rfl, _⟩ := h
    rfl
  · obtain ⟨t, z, dots, tb, rfl, ht, L, few, hz, k⟩ := h
    have nd := sc_walk.nd
    have hu := hu_of hr
    refine ⟨_, pss_cons (ps_set (i := 2) nd rfl (.inl rfl) (pe_lst (pa_cons (pv 1) pa_nil)))
      (pss_cons (ps_while PassesOwn.never (pt_cmp (pc_dinN hu (pe_ix ix_list (pv 2) (pe_un un_neg pe_int) (fun _ _ => rfl)) (pv 0)) rfl)
        (pss_cons (ps_expr (pe_bm PySem.F.plainAttrs_list PySem.F.slot_list_append PySem.F.type_list_append mt_append (pv 2)
          (pa_cons (pe_dget hu (pv 0) (pe_ix ix_list (pv 2) (pe_un un_neg pe_int) (fun _ _ => rfl)) (fun _ _ => rfl)) pa_nil)))
        (pss_one (ps_if (pt_cmpR op_in_seq (pe_ix ix_list (pv 2) (pe_un un_neg pe_int) (fun _ _ => rfl)) (pe_slice sl_list (pv 2) po_none (po_some (pe_un un_neg pe_int))) rfl) (pss_one (ps_ret (pv 2))) pss_nil))))
      (pss_one (ps_ret (pv 2)))), ?_⟩
    refine ⟨.str z, rfl, by show 1 ≤ sizeLine; decide, fun p hp => ?_⟩
    refine ⟨fun m σ H' => ∃ (zs : List Str) (v : V), σ = [some (.ref t), some (.str z), some (.ref p)] ∧ H' p = some (.lst (zs.map V.str ++ [v])) ∧ Evl.Ex H H' ∧ zs.Nodup ∧ (∀ y ∈ zs, y ∈ dots) ∧ Spot v ∧ (∀ y, v = .str y → y ∉ zs) ∧
      track tb m zs v = walkOf tb (dots.length + 1) z ∧ m + zs.length = dots.length + 1, ⟨dots.length + 1, [], .str z, rfl, upd_same, Evl.Ex.new hp, List.nodup_nil, (fun y hy => by cases hy), .inr ⟨z, rfl, hz⟩, (fun _ _ h => by cases h), rfl, rfl⟩, ?_⟩
    rintro m σ H1 ⟨zs, v, rfl, p1, x1, znd, zd, hv, vn, tr, hm⟩
    have zl := nodup_le zs dots znd zd
    have t1 := x1 _ _ ht
    refine ⟨.ref p, rfl, 1, rfl, p, _, -1, v, rfl, rfl, Evl.sq_of p1, atI_last _ _, .ref t, rfl, ?_⟩
    rcases hv with rfl | ⟨y, rfl, hy⟩
    · refine .inr ⟨t, _, rfl, rfl, .inl t1, false, rfl, ?_⟩
      rw [track_non] at tr
      refine iteF ?_
      exact ⟨.ref p, rfl, k p _ x1 hp (by rw [p1, tr])⟩
    · cases q : valV (tkv tb) (Sum.inr y) with
      | none =>
        have gt : DGet H1 t (.str y) none := by
          have z := DGet.k (k := Sum.inr y) t1
          rw [q] at z
          exact z
        refine .inl ⟨t, none, rfl, gt, false, rfl, ?_⟩
        rw [track_out q] at tr
        refine iteF ?_
        exact ⟨.ref p, rfl, k p _ x1 hp (by rw [p1, tr])⟩
      | some u =>
        have yd : y ∈ dots := by
          by_cases hm : y ∈ tb.map (·.1)
          · rw [← L.ks]; exact hm
          · rw [tkv_none hm] at q; cases q
        have su : Spot u := by
          obtain ⟨w', h1, h2⟩ := L.get yd
          rw [q] at h1
          rw [Option.some.inj h1]
          exact h2
        have mem : y ∉ zs := vn y rfl
        have gt : DGet H1 t (.str y) (some u) := dget_of (k := Sum.inr y) t1 q
        obtain ⟨m0, rfl⟩ : ∃ m0, m = m0 + 1 := ⟨m - 1, by omega⟩
        rw [track_on q mem] at tr
        refine .inl ⟨t, some u, rfl, gt, true, rfl, ?_⟩
        refine iteT ?_
        refine ⟨_, fun _ _ h => h, ?_⟩
        have ez : (zs ++ [y]).map V.str = zs.map V.str ++ [V.str y] := by rw [List.map_append]; rfl
        refine ⟨.ref p, rfl, .inl ⟨rfl, _, Evl.sq_of p1⟩, .ref t, rfl, .ref p, rfl, 1, rfl, p, _, -1, _, rfl, rfl, Evl.sq_of p1, atI_last _ _, t, u, rfl, gt, p, _, u, rfl, rfl, p1, ?_, ?_⟩
        · rw [List.length_append, List.length_map, List.length_singleton]
          exact small1000 (by omega)
        have p2 : (upd H1 p (.lst (zs.map V.str ++ [V.str y] ++ [u]))) p = some (.lst ((zs ++ [y]).map V.str ++ [u])) := by rw [upd_same, ez]
        have x2 : Evl.Ex H (upd H1 p (.lst (zs.map V.str ++ [V.str y] ++ [u]))) := x1.mut hp
        generalize upd H1 p (.lst (zs.map V.str ++ [V.str y] ++ [u])) = H2 at p2 x2
        have znd2 : (zs ++ [y]).Nodup := by
          rw [List.nodup_append]
          exact ⟨znd, by simp, fun a ha b hb e => mem (by rw [List.mem_singleton.mp hb] at e; exact e ▸ ha)⟩
        have zd2 : ∀ a ∈ zs ++ [y], a ∈ dots := fun a ha => by
          rcases List.mem_append.mp ha with ha | ha
          · exact zd a ha
          · rw [List.mem_singleton.mp ha]; exact yd
        refine ⟨.ref p, rfl, 1, rfl, p, _, -1, u, rfl, rfl, Evl.sq_of p2, atI_last _ _, .ref p, rfl, 1, rfl, _, rfl, p, _, rfl, Evl.sq_of p2, fun c hc => ?_⟩
        have ecut : cutV ((zs ++ [y]).map V.str ++ [u]) none (some (-1)) = (zs ++ [y]).map V.str := by
          rw [cut_last]
          exact List.dropLast_concat
        rw [ecut]
        have x3 : Evl.Ex H2 (upd H2 c (.lst ((zs ++ [y]).map V.str))) := Evl.Ex.new hc
        have c3 : (upd H2 c (.lst ((zs ++ [y]).map V.str))) c = some (.lst ((zs ++ [y]).map V.str)) := upd_same
        generalize upd H2 c (.lst ((zs ++ [y]).map V.str)) = H3 at x3 c3
        have p3 := x3 _ _ p2
        have x13 := x2.trans x3
        have len : m0 + (zs ++ [y]).length = dots.length + 1 := by rw [List.length_append, List.length_singleton]; omega
        refine ⟨c, _, rfl, .inl (Evl.sq_of c3), ?_, flat_strs _, ?_⟩
        · rcases su with rfl | ⟨_, rfl, _⟩ <;> rfl
        rcases su with rfl | ⟨y2, rfl, hy2⟩
        · rw [inV_non]
          refine ⟨false, rfl, iteF ?_⟩
          exact ⟨m0, Nat.lt_succ_self _, zs ++ [y], .non, rfl, p3, x13, znd2, zd2, .inl rfl, (fun _ e => by cases e), tr, len⟩
        · rw [inV_str]
          by_cases m2 : y2 ∈ zs ++ [y]
          · rw [decide_eq_true m2]
            rw [track_ring m2] at tr
            refine ⟨true, rfl, iteT ?_⟩
            exact ⟨.ref p, rfl, k p _ x13 hp (by rw [p3, tr])⟩
          · rw [decide_eq_false m2]
            refine ⟨false, rfl, iteF ?_⟩
            exact ⟨m0, Nat.lt_succ_self _, zs ++ [y], .str y2, rfl, p3, x13, znd2, zd2, .inr ⟨y2, rfl, hy2⟩, (fun _ e => by cases e; exact m2), tr, len⟩
end
end Rw
end T_X3

section T_LM
set_option Elab.async false
set_option linter.all false
set_option maxRecDepth 100000
set_option maxHeartbeats 8000000
namespace Rw
open PySem L2 PyProof.Rows
section
variable {P : Program} {w : World} {K : PySem.W.Frag} {mg : Str → Option Value} {base : Heap}
/-! ### whether posts are missed -/
def spMisses : Sp := fun vs H Q _ => ∃ (m r tb db sb pb : Addr) (row : List V) (ends dots ss ps : List Str) (rows : List (Str × V)) (o n : Str → List (Str × V)), vs = [.ref m, .ref r] ∧ ModelW H m tb db sb pb ends dots ss ps rows o n ∧ H r = some (.lst row) ∧ (∀ v ∈ row, Spot v) ∧
  ∀ H', Evl.Ex H H' → Q (.bl (decide (passedBy ps row < ps.length))) H'
abbrev nMisses : List Str := ["model", "row", "left", "spot"]
theorem sc_misses : FnScope nMisses ["model", "row"] (defScope s_misses) := ⟨rfl, rfl, rfl, by decide +kernel, rfl, by decide +kernel, by decide +kernel⟩
theorem ok_misses {f : Addr} {fd : FuncData} (F : Fun K "_law_misses" "_law_misses" s_misses f fd) (mList : mg "list" = none) : FnOk P w K mg base CX0 1 f fd ["model", "row"] spMisses := by
  refine F.ok sc_misses (fun vs H Q E h => ?_) (fun cdv A outer s H vs Q E hr h => ?_)
  · obtain ⟨m, r, tb, db, sb, pb, row, ends, dots, ss, ps, rows, o, n, rfl, _⟩ := h
    rfl
  · obtain ⟨m, r, tb, db, sb, pb, row, ends, dots, ss, ps, rows, o, n, rfl, MS, hrow, hsp, k⟩ := h
    have nd := sc_misses.nd
    have hu := hu_of hr
    refine ⟨_, pss_cons (ps_set (i := 2) nd rfl (.inl rfl) (pe_callTy call_list_of (by rfl) mList (by decide +kernel) (pa_cons (pe_dget hu (pv 0) pe_str (fun _ _ => rfl)) pa_nil)))
      (pss_cons (ps_for PassesOwn.never rfl (pi_list (pv 1)) (pg_name (i := 3) nd rfl (.inl rfl))
        (pss_one (ps_if (PW.pt (pw_and (pt_cmpR (op_neD hr.units) (pv 2) (pe_lst pa_nil) (nomark _)) (pw_and1 (pt_cmpR op_eq (pv 3) (pe_ix ix_list (pv 2) pe_int (fun _ _ => rfl)) (nomark _)))))
          (pss_one (ps_set (i := 2) nd rfl (.inl rfl) (pe_slice sl_list (pv 2) (po_some pe_int) po_none))) pss_nil)))
      (pss_one (ps_ret (pe_cmpR (op_neD hr.units) (pv 2) (pe_lst pa_nil) (nomark _))))), ?_⟩
    have ok := MS.ok
    have p2 := ok.p2
    have pnm : ∀ z ∈ ps, Nm z := fun z hz => ok.dm z (ok.pd z hz)
    refine ⟨.ref m, rfl, m, _, rfl, dget_of MS.hm (mkv_posts _ _ _ _), pb, _, rfl, .inl (Evl.sq_of MS.hp), fun l hl => ?_⟩
    have x1 : Evl.Ex H (upd H l (.lst (ps.map V.str))) := Evl.Ex.new hl
    have l1 : (upd H l (.lst (ps.map V.str))) l = some (.lst ((ps.drop 0).map V.str)) := upd_same
    generalize upd H l (.lst (ps.map V.str)) = H1 at x1 l1
    refine ⟨.ref r, rfl, r, rfl, ⟨_, Evl.sq_of (x1 _ _ hrow)⟩, for_list (K := K) (a := r) (xs := row)
      (fun i σ H' => ∃ (kk : Nat) (l' : Addr) (x3 : Option V), σ = [some (.ref m), some (.ref r), some (.ref l'), x3] ∧ kk ≤ ps.length ∧ kk = (row.take i).foldl (stepP ps) 0 ∧ Evl.Ex H H' ∧ H' l' = some (.lst ((ps.drop kk).map V.str)))
      ⟨0, l, none, rfl, Nat.zero_le _, rfl, x1, l1⟩ (fun i σ H' _ ⟨_, _, _, _, _, _, h, _⟩ => Evl.sq_of (h _ _ hrow)) ?_ ?_⟩
    · rintro i v σ H2 hi ⟨kk, l', x3, rfl, hk, ek, x2, l2⟩
      have hv := hsp v (List.mem_of_getElem? hi)
      have next : stepP ps kk v = (row.take (i + 1)).foldl (stepP ps) 0 := by
        rw [List.take_add_one, hi, List.foldl_append, ← ek]
        rfl
      refine ⟨.ref l', rfl, Nat.zero_le _, fun p hp => ?_⟩
      have x3' : Evl.Ex H2 (upd H2 p (.lst [])) := Evl.Ex.new hp
      obtain ⟨dd, g1, g2, g3⟩ := data_list (K := K) (Evl.sq_of (x3' _ _ l2)) fun v hv => by
        obtain ⟨z, hz, rfl⟩ := List.mem_map.mp hv
        exact nm_data (pnm z (List.mem_of_mem_drop hz))
      refine ⟨dd, .list [], g1, .lst (Evl.sq_of upd_same) .nil, g2, by rfl, _, rfl, ?_⟩
      rw [g3]
      have l3 := x3' _ _ l2
      have x23 := x2.trans x3'
      generalize upd H2 p (.lst []) = H3 at l3 x23
      by_cases lt : kk < ps.length
      · have ed : ps.drop kk = ps[kk] :: ps.drop (kk + 1) := (List.getElem_cons_drop lt).symm
        have gk : ps[kk]? = some ps[kk] := List.getElem?_eq_getElem lt
        have ne : ((ps.drop kk).map V.str).isEmpty = false := by rw [ed]; rfl
        rw [ne]
        refine iteT ?_
        have sc : scal v (.str ps[kk]) = true := by rcases hv with rfl | ⟨y, rfl, _⟩ <;> rfl
        refine ⟨v, rfl, .ref l', rfl, l', _, 0, .str ps[kk], rfl, rfl, Evl.sq_of l3, atI_nat (j := 0) (by rw [ed]; rfl), sc, _, rfl, ?_⟩
        by_cases e : v = .str ps[kk]
        · rw [decide_eq_true e]
          refine iteT ?_
          refine ⟨.ref l', rfl, _, rfl, l', _, rfl, Evl.sq_of l3, fun c hc => ?_⟩
          have ecut : cutV ((ps.drop kk).map V.str) (some 1) none = (ps.drop (kk + 1)).map V.str := by
            rw [show (1 : Int) = ((1 : Nat) : Int) from rfl, cut_drop, ← List.map_drop, List.drop_drop]
          rw [ecut]
          have sk : stepP ps kk v = kk + 1 := by unfold stepP; rw [gk]; exact if_pos e
          exact ⟨kk + 1, c, some v, rfl, lt, by rw [← next, sk], x23.trans (Evl.Ex.new hc), upd_same⟩
        · rw [decide_eq_false e]
          refine iteF ?_
          have sk : stepP ps kk v = kk := by unfold stepP; rw [gk]; exact if_neg e
          exact ⟨kk, l', some v, rfl, hk, by rw [← next, sk], x23, l3⟩
      · have ed : ps.drop kk = [] := List.drop_of_length_le (by omega)
        have ne : ((ps.drop kk).map V.str).isEmpty = true := by rw [ed]; rfl
        rw [ne]
        refine iteF (iteF ?_)
        have sk : stepP ps kk v = kk := by unfold stepP; rw [List.getElem?_eq_none (by omega)]
        exact ⟨kk, l', some v, rfl, hk, by rw [← next, sk], x23, l3⟩
    · rintro σ H2 ⟨kk, l', x3, rfl, hk, ek, x2, l2⟩
      rw [List.take_length] at ek
      refine ⟨.ref l', rfl, Nat.zero_le _, fun p hp => ?_⟩
      have x3' : Evl.Ex H2 (upd H2 p (.lst [])) := Evl.Ex.new hp
      obtain ⟨dd, g1, g2, g3⟩ := data_list (K := K) (Evl.sq_of (x3' _ _ l2)) fun v hv => by
        obtain ⟨z, hz, rfl⟩ := List.mem_map.mp hv
        exact nm_data (pnm z (List.mem_of_mem_drop hz))
      refine ⟨dd, .list [], g1, .lst (Evl.sq_of upd_same) .nil, g2, by rfl, ?_⟩
      rw [g3]
      have e1 : (!((ps.drop kk).map V.str).isEmpty) = decide (passedBy ps row < ps.length) := by
        have e2 : passedBy ps row = kk := ek.symm
        rw [e2]
        by_cases lt : kk < ps.length
        · rw [decide_eq_true lt, (List.getElem_cons_drop lt).symm]
          rfl
        · rw [decide_eq_false lt, List.drop_of_length_le (by omega)]
          rfl
      rw [e1]
      exact k _ (x2.trans x3')
end
end Rw
end T_LM

section T_LB
set_option Elab.async false
set_option linter.all false
set_option maxRecDepth 100000
set_option maxHeartbeats 8000000
namespace Rw
open PySem L2 PyProof.Rows
section
variable {P : Program} {w : World} {K : PySem.W.Frag} {mg : Str → Option Value} {base : Heap}
/-! ### whether a packet breaks a wish at a moment -/
def spBreaksL : Sp := fun vs H Q _ => ∃ (m a tb db sb pb : Addr) (e wd z : Str) (on ends dots ss ps : List Str) (rows : List (Str × V)) (o n : Str → List (Str × V)), vs = [.ref m, .str e, .ref a, .str wd, .str z] ∧ ModelW H m tb db sb pb ends dots ss ps rows o n ∧ H a = some (.tup (on.map V.str)) ∧ e ∈ ends ∧ z ∈ dots ∧ wd ∈ wishes4 ∧
  ∀ H', Evl.Ex H H' → Q (.bl (decide (z ∈ startsOf wd dots ss) && brk dots ps o n wd on e z)) H'
abbrev nBreaksL : List Str := ["model", "end", "on", "sort", "dot", "row"]
theorem sc_breaksL : FnScope nBreaksL ["model", "end", "on", "sort", "dot"] (defScope s_breaks) := ⟨rfl, rfl, rfl, by decide +kernel, rfl, by decide +kernel, by decide +kernel⟩
theorem ok_breaksL {f : Addr} {fd : FuncData} (F : Fun K "_law_breaks" "_law_breaks" s_breaks f fd) (C1 : Cal P w K mg base 1 "_law_now" ["model", "end", "on"] spNow) (C2 : Cal P w K mg base 1 "_law_walk" ["table", "dot"] spFollowed) (C3 : Cal P w K mg base 1 "_law_misses" ["model", "row"] spMisses) :
    FnOk P w K mg base CX0 2 f fd ["model", "end", "on", "sort", "dot"] spBreaksL := by
  obtain ⟨f1, fd1, F1, k1, b1, g1⟩ := C1.ex
  obtain ⟨f2, fd2, F2, k2, b2, g2⟩ := C2.ex
  obtain ⟨f3, fd3, F3, k3, b3, g3⟩ := C3.ex
  refine F.ok sc_breaksL (fun vs H Q E h => ?_) (fun cdv A outer s H vs Q E hr h => ?_)
  · obtain ⟨m, a, tb, db, sb, pb, e, wd, z, on, ends, dots, ss, ps, rows, o, n, rfl, _⟩ := h
    rfl
  · obtain ⟨m, a, tb, db, sb, pb, e, wd, z, on, ends, dots, ss, ps, rows, o, n, rfl, MS, ha, he, hz, hwd, k⟩ := h
    have nd := sc_breaksL.nd
    have hu := hu_of hr
    refine ⟨_, C8.pss_cut (ps_if (PW.pt (pw_and (pt_cmpR op_ne (pv 3) pe_str (nomark _)) (pw_and1 (pt_cmpR op_notIn_seq (pv 4) (pe_dget hu (pv 0) pe_str (fun _ _ => rfl)) rfl)))) (pss_one (ps_ret pe_bl)) pss_nil)
      (pss_cons (ps_set (i := 5) nd rfl (.inl rfl) (pe_call F2 hr rfl g2 k2 b2 .nil pass0 (pa_cons (pe_call F1 hr rfl g1 k1 b1 .nil pass0 (pa_cons (pv 0) (pa_cons (pv 1) (pa_cons (pv 2) pa_nil)))) (pa_cons (pv 4) pa_nil))))
      (pss_cons (ps_if (pt_cmpR op_in_seq (pv 3) (pe_tup (pa_cons pe_str (pa_cons pe_str pa_nil))) rfl) (pss_one (ps_ret (pe_cmpR op_in_seq (pe_ix ix_list (pv 5) (pe_un un_neg pe_int) (fun _ _ => rfl)) (pe_slice sl_list (pv 5) po_none (po_some (pe_un un_neg pe_int))) rfl))) pss_nil)
      (pss_cons (ps_if (pt_cmpR op_eq (pv 3) pe_str (nomark _)) (pss_one (ps_ret (pe_cmpR op_isN (pe_ix ix_list (pv 5) (pe_un un_neg pe_int) (fun _ _ => rfl)) pe_non (nomark _)))) pss_nil)
      (pss_one (ps_ret (pe_and (pe_cmpR op_eq (pe_ix ix_list (pv 5) (pe_un un_neg pe_int) (fun _ _ => rfl)) (pv 1) (nomark _)) (pe_one (pe_call F3 hr rfl g3 k3 b3 .nil pass0 (pa_cons (pv 0) (pa_cons (pv 5) pa_nil)))))))))), ?_⟩
    have ok := MS.ok
    obtain ⟨pr, po, pn, hv, pa⟩ := MS.ra e he
    obtain ⟨zs, v, ew, hv', nmz⟩ := row_form (ss := ss) (on := on) pa.o1 pa.o2 ok.dm (ok.em e he) hz
    have spots : ∀ u ∈ zs.map V.str ++ [v], Spot u := fun u hu => by
      rcases List.mem_append.mp hu with hu | hu
      · obtain ⟨y, hy, rfl⟩ := List.mem_map.mp hu
        exact .inr ⟨y, rfl, nmz y hy⟩
      · rw [List.mem_singleton.mp hu]
        exact hv'
    refine ⟨fun σ' H' => σ' = [some (.ref m), some (.str e), some (.ref a), some (.str wd), some (.str z), none] ∧ H' = H ∧ z ∈ startsOf wd dots ss, ?_, ?_⟩
    · refine ⟨.str wd, rfl, rfl, _, rfl, ?_⟩
      by_cases wr : wd = ("rings" : Str)
      · rw [decide_eq_true (congrArg V.str wr)]
        exact iteF (iteF ⟨rfl, rfl, by unfold startsOf; rw [if_pos wr]; exact hz⟩)
      · rw [decide_eq_false (fun q => wr (V.str.inj q))]
        refine iteT ⟨.str z, rfl, .ref m, rfl, m, _, rfl, dget_of MS.hm (mkv_sources _ _ _ _), sb, ss.map V.str, rfl, .inl (Evl.sq_of MS.hs), rfl, flat_strs _, _, rfl, ?_⟩
        rw [inV_str]
        by_cases mz : z ∈ ss
        · rw [decide_eq_true mz]
          exact iteF ⟨rfl, rfl, by unfold startsOf; rw [if_neg wr]; exact mz⟩
        · rw [decide_eq_false mz]
          refine iteT ?_
          have := k H (Evl.Ex.refl _)
          rw [decide_eq_false (by unfold startsOf; rw [if_neg wr]; exact mz), Bool.false_and] at this
          exact this
    rintro _ H ⟨rfl, rfl, hm⟩
    have go : ∀ H', Evl.Ex H H' → Q (.bl (breaksB wd e ps (zs.map V.str ++ [v]))) H' := fun H' x => by
      have := k H' x
      rw [decide_eq_true hm, Bool.true_and] at this
      unfold brk at this
      rw [ew] at this
      exact this
    refine ⟨.ref m, rfl, .str e, rfl, .ref a, rfl, m, tb, db, sb, pb, a, pr, po, pn, e, on, dots, rows, o e, n e, rfl, MS.hm, MS.ht, hv, pa, MS.hd, ok.dn, by have := ok.d6; omega, ha, fun D H1 x1 hD d1 => ?_⟩
    refine ⟨.str z, rfl, D, z, dots, _, rfl, d1, nowTab_lead pa.o1 pa.o2 ok.dm (ok.em e he), by have := ok.d6; omega, ok.dm z hz, fun r H2 x2 hr0 hrow => ?_⟩
    rw [ew] at hrow
    have x12 := x1.trans x2
    have hl := Evl.sq_of (K := K) hrow
    -- sort in ("rings", "home")
    refine ⟨.str wd, rfl, by show 2 ≤ sizeLine; decide, fun t0 ht0 => ?_⟩
    have y3 : Evl.Ex H2 (upd H2 t0 (.tup [.str "rings", .str "home"])) := Evl.Ex.new ht0
    have t3 : (upd H2 t0 (.tup [.str "rings", .str "home"])) t0 = some (.tup ((["rings", "home"] : List Str).map V.str)) := upd_same
    generalize upd H2 t0 (.tup [.str "rings", .str "home"]) = H3 at y3 t3
    have x13 := x12.trans y3
    have hl3 := Evl.sq_of (K := K) (y3 _ _ hrow)
    have hrow3 := y3 _ _ hrow
    refine ⟨t0, (["rings", "home"] : List Str).map V.str, rfl, .inr (Evl.st_of t3), rfl, flat_strs _, _, rfl, ?_⟩
    rw [inV_str]
    have four : wd = "home" ∨ wd = "lost" ∨ wd = "posts" ∨ wd = "rings" := by
      rcases List.mem_cons.mp hwd with h | hwd
      · exact .inl h
      rcases List.mem_cons.mp hwd with h | hwd
      · exact .inr (.inl h)
      rcases List.mem_cons.mp hwd with h | hwd
      · exact .inr (.inr (.inl h))
      · exact .inr (.inr (.inr (List.mem_singleton.mp hwd)))
    by_cases mw : wd ∈ (["rings", "home"] : List Str)
    · rw [decide_eq_true mw]
      have n1 : ¬ wd = ("lost" : Str) := fun z => by subst z; revert mw; decide
      have n2 : ¬ wd = ("posts" : Str) := fun z => by subst z; revert mw; decide
      refine iteT ?_
      have eb : breaksB wd e ps (zs.map V.str ++ [v]) = decide (v ∈ zs.map V.str) := by unfold breaksB; rw [if_neg n1, if_neg n2, lastV_snoc, List.dropLast_concat]
      refine ⟨.ref r, rfl, 1, rfl, r, _, -1, v, rfl, rfl, hl3, atI_last _ _, .ref r, rfl, 1, rfl, _, rfl, r, _, rfl, hl3, fun c hc => ?_⟩
      have ecut : cutV (zs.map V.str ++ [v]) none (some (-1)) = zs.map V.str := by
        rw [cut_last]
        exact List.dropLast_concat
      rw [ecut]
      have fl : flatV v = true := by rcases hv' with rfl | ⟨y, rfl, _⟩ <;> rfl
      refine ⟨c, zs.map V.str, rfl, .inl (Evl.sq_of upd_same), fl, flat_strs zs, ?_⟩
      rw [inV_spot hv', ← eb]
      exact go _ (x13.trans (Evl.Ex.new hc))
    · rw [decide_eq_false mw]
      refine iteF ⟨.str wd, rfl, rfl, _, rfl, ite2 (fun q => ?_) (fun q => ?_)⟩
      · have e1 : wd = ("lost" : Str) := by simpa using of_decide_eq_true q
        refine ⟨.ref r, rfl, 1, rfl, r, _, -1, v, rfl, rfl, hl3, atI_last _ _, rfl, ?_⟩
        have eb : breaksB wd e ps (zs.map V.str ++ [v]) = decide (v = .non) := by unfold breaksB; rw [if_pos e1, lastV_snoc]
        rw [← eb]
        exact go _ x13
      · have n1 : ¬ wd = ("lost" : Str) := fun z => by subst z; exact absurd q (by decide)
        have e2 : wd = ("posts" : Str) := by
          rcases four with h | h | h | h
          · subst h; exact absurd (by decide) mw
          · exact absurd h n1
          · exact h
          · subst h; exact absurd (by decide) mw
        have eb : breaksB wd e ps (zs.map V.str ++ [v]) = (decide (v = .str e) && decide (passedBy ps (zs.map V.str ++ [v]) < ps.length)) := by unfold breaksB; rw [if_neg n1, if_pos e2, lastV_snoc]
        have sc : scal v (.str e) = true := by rcases hv' with rfl | ⟨y, rfl, _⟩ <;> rfl
        refine ⟨.ref r, rfl, 1, rfl, r, _, -1, v, rfl, rfl, hl3, atI_last _ _, .str e, rfl, sc, decide (v = .str e), rfl, ?_⟩
        by_cases ve : v = .str e
        · rw [decide_eq_true ve]
          refine iteT ⟨.ref m, rfl, .ref r, rfl, m, r, tb, db, sb, pb, _, ends, dots, ss, ps, rows, o, n, rfl, MS.to x13, hrow3, spots, fun H4 x4 => ?_⟩
          rw [decide_eq_true ve, Bool.true_and] at eb
          rw [← eb]
          exact go _ (x13.trans x4)
        · rw [decide_eq_false ve]
          refine iteF ?_
          rw [decide_eq_false ve, Bool.false_and] at eb
          rw [← eb]
          exact go _ x13
end
end Rw
end T_LB

section T_V3
set_option Elab.async false
set_option linter.all false
set_option maxRecDepth 100000
set_option maxHeartbeats 4000000
/-! ### y = {k: v for ..} -/
namespace L2
open PySem PySem.Spec PyProof.Rows
section
variable {X : Cx}
theorem ps_setDc {i : Nat} {y : Str} {py : Pos} {kx vx tg iter : Expr} {ifs : List Expr} {scope : Scope} {own : List (Str × Nat)} {pos spos : Pos} {wi : TI} {g : TG} {tt : TT} {tk tv : TE} (hc : X.calm = true) (hN : X.N.Nodup) (hy : X.N[i]? = some y) (hyl : X.env.scope.names.lookup y = some .local)
    (hsw : swapsWith (.DictComp kx vx [⟨tg, iter, ifs, 0⟩] scope pos) (some (.Name y py)) spos.line X.env = pure true) (hi : PI X tg iter wi) (ok : BlkOk X.N X.env.scope scope own)
    (hg : ∀ (s : Shared) (H : Hp) (C : Addr) (cl : List (Str × Addr)) (fp : List Addr), PG (X.blk s H scope (compEnvC scope cl C X.env) fp) tg g) (ht : ∀ (s : Shared) (H : Hp) (C : Addr) (cl : List (Str × Addr)) (fp : List Addr), PTs (X.blk s H scope (compEnvC scope cl C X.env) fp) ifs tt)
    (hk : ∀ (s : Shared) (H : Hp) (C : Addr) (cl : List (Str × Addr)) (fp : List Addr), PE (X.blk s H scope (compEnvC scope cl C X.env) fp) kx tk)
    (he : ∀ (s : Shared) (H : Hp) (C : Addr) (cl : List (Str × Addr)) (fp : List Addr), PE (X.blk s H scope (compEnvC scope cl C X.env) fp) vx tv) (hs : ∀ x, foldedSetIterable iter X.env x = pure x := by intro _; rfl) :
    PS X (.Assign [.Name y py] (.DictComp kx vx [⟨tg, iter, ifs, 0⟩] scope pos) spos) (tAsg (tDc wi g tt tk tv (own.map (·.2))) (gName i)) := by
  refine ⟨fun pins s σ H D I h => ?_⟩
  rw [exec_Assign_Name_used _ _ _ _ hsw]
  refine wpAny_bind (wpAny_standAt (wpAny_bind ?_))
  show wpAny _ X.A (do let _ ← comprehension (.DictComp kx vx [⟨tg, iter, ifs, 0⟩] scope pos) scope X.env (firstIterPos [⟨tg, iter, ifs, 0⟩] pos) newDict false (eval iter X.env) (some (assign (.Name y py) X.env))) _ _ s
  have h : tDc wi g tt tk tv (own.map (·.2)) σ H (fun x H1 => gName i x σ H1 D.nx) := h
  refine wpAny_bind (thn (dc_core (Qf := fun _ s' => SP X pins D .next s') hc hN I hi ok hg ht hk he hs h fun L C s' m H' I' q hn f => ?_) fun _ s' hq => wpAny_pure (wpAny_pure hq))
  show wpAny _ _ (assign (.Name y py) X.env (.ref L)) _ _ _
  refine wpAny_assign_Name (store_ok2 (v := V.ref L) I' hN hy (.inl hyl) rfl (fun s2 I2 ⟨a, sb, ha⟩ => ?_) (.inr hyl))
  obtain ⟨f0, f1, f2, f3, f4, f5⟩ := f
  have haC : C ≠ a := by
    rcases ha with z | z
    · rw [z]; exact f1
    · exact fun e => f4 y a z e.symm
  refine ⟨m, hn.sameBut sb haC, fun h3 sb3 => ?_⟩
  exact ⟨_, H', I2.turned (t' := s2.toks) (fun b o hb e => (sb3.2 b hb).trans e) f0 f1 f3 f4 f5, q⟩
theorem sw_trueD {kx vx : Expr} {gs : List Comprehension} {scope : Scope} {pos py : Pos} {y : Str} {l : Nat} {env : Env} (hk : env.scope.kind = .function) (hy : env.scope.names.lookup y = some .local) (hl : (py.line == pos.line) = true)
    (ha : (scope.names.any fun (n, k) => n == y && (k == .local || k == .cell)) = false) : swapsWith (.DictComp kx vx gs scope pos) (some (.Name y py)) l env = pure true := by
  have ky : env.kindOf y = some .local := hy
  have hb : env.blockKind = .function := by unfold Env.blockKind; rw [hk]; rfl
  unfold swapsWith
  simp only [hb, ky, ha, Expr.pos, hl]
  rfl
end
end L2
end T_V3

section T_DQ
set_option Elab.async false
set_option linter.all false
set_option maxRecDepth 100000
set_option maxHeartbeats 4000000
/-! ### {k: v}, its key being a tuple -/
namespace L2
open PySem PySem.Spec PyProof.Rows
def tDispT (tk tv : TE) : TE := fun σ H Q => ∀ p, H p = none → tk σ (upd H p (.dT [])) fun x H1 => tv σ H1 fun v H2 => H2 p = some (.dT []) ∧ ∃ a k, x = V.ref a ∧ H2 a = some (.tup (k.map kV)) ∧ Q (.ref p) (upd H2 p (.dT [(k, v)]))
theorem pe_dispT {X : Cx} {pos : Pos} {kx vx : Expr} {tk tv : TE} (hu : X.A.units + 1 < cLine) (hk : PE X kx tk) (hv : PE X vx tv) : PE X (.Dict [some kx] [vx] pos) (tDispT tk tv) := by
  refine ⟨fun pins s σ H Q I q => ?_⟩
  have hn := I.hok.fresh (Nat.le_refl s.heap.objs.size)
  have I1 := I.laid (a := s.heap.objs.size) (o := .dT []) (h' := s.heap.push { cls := .type "dict", data := .dict #[] }) (t' := s.toks) (fun _ _ q => Heap.get?_push_of_some _ q) (Nat.le_refl _) (dt_empty s.heap I.big)
  refine wpAny_Dict_any rfl rfl (by simp) (by show 1 ≤ 15; omega) (pairTrees_cons_walk (thn (hk.run pins _ σ _ _ I1 (q _ hn)) fun kv s1 ⟨x, H1, I2, rx, q1⟩ => thn (hv.run pins s1 σ H1 _ I2 q1) fun vv s2 ⟨v, H2, I3, rv, e, a, k, ex, ea, q2⟩ => pairTrees_nil_walk ?_))
  subst ex
  obtain rfl : kv = Value.ref a := rx
  unfold storeAll
  rw [List.forIn_cons]
  refine wpAny_bind (wpAny_bind (d_dictSetT (roomT (by omega)) I3 e (by decide) ea rv fun s3 I4 => wpAny_pure ?_))
  show wpAny _ _ (forIn [] PUnit.unit _) _ _ _
  rw [List.forIn_nil]
  exact wpAny_pure ⟨.ref s.heap.objs.size, _, I4, rfl, q2⟩
/-! ### y = {k: v for ..}, its keys being tuples -/
section
variable {X : Cx}
theorem ps_setDcT {i : Nat} {y : Str} {py : Pos} {kx vx tg iter : Expr} {ifs : List Expr} {scope : Scope} {own : List (Str × Nat)} {pos spos : Pos} {wi : TI} {g : TG} {tt : TT} {tk tv : TE} (hu : X.A.units + 1 < cLine) (hc : X.calm = true) (hN : X.N.Nodup) (hy : X.N[i]? = some y) (hyl : X.env.scope.names.lookup y = some .local)
    (hsw : swapsWith (.DictComp kx vx [⟨tg, iter, ifs, 0⟩] scope pos) (some (.Name y py)) spos.line X.env = pure true) (hi : PI X tg iter wi) (ok : BlkOk X.N X.env.scope scope own)
    (hg : ∀ (s : Shared) (H : Hp) (C : Addr) (cl : List (Str × Addr)) (fp : List Addr), PG (X.blk s H scope (compEnvC scope cl C X.env) fp) tg g) (ht : ∀ (s : Shared) (H : Hp) (C : Addr) (cl : List (Str × Addr)) (fp : List Addr), PTs (X.blk s H scope (compEnvC scope cl C X.env) fp) ifs tt)
    (hk : ∀ (s : Shared) (H : Hp) (C : Addr) (cl : List (Str × Addr)) (fp : List Addr), PE (X.blk s H scope (compEnvC scope cl C X.env) fp) kx tk)
    (he : ∀ (s : Shared) (H : Hp) (C : Addr) (cl : List (Str × Addr)) (fp : List Addr), PE (X.blk s H scope (compEnvC scope cl C X.env) fp) vx tv) (hs : ∀ x, foldedSetIterable iter X.env x = pure x := by intro _; rfl) :
    PS X (.Assign [.Name y py] (.DictComp kx vx [⟨tg, iter, ifs, 0⟩] scope pos) spos) (tAsg (tDcT wi g tt tk tv (own.map (·.2))) (gName i)) := by
  refine ⟨fun pins s σ H D I h => ?_⟩
  rw [exec_Assign_Name_used _ _ _ _ hsw]
  refine wpAny_bind (wpAny_standAt (wpAny_bind ?_))
  show wpAny _ X.A (do let _ ← comprehension (.DictComp kx vx [⟨tg, iter, ifs, 0⟩] scope pos) scope X.env (firstIterPos [⟨tg, iter, ifs, 0⟩] pos) newDict false (eval iter X.env) (some (assign (.Name y py) X.env))) _ _ s
  have h : tDcT wi g tt tk tv (own.map (·.2)) σ H (fun x H1 => gName i x σ H1 D.nx) := h
  refine wpAny_bind (thn (dcT_core (Qf := fun _ s' => SP X pins D .next s') (roomT (by omega)) hc hN I hi ok hg ht hk he hs h fun L C s' m H' I' q hn f => ?_) fun _ s' hq => wpAny_pure (wpAny_pure hq))
  show wpAny _ _ (assign (.Name y py) X.env (.ref L)) _ _ _
  refine wpAny_assign_Name (store_ok2 (v := V.ref L) I' hN hy (.inl hyl) rfl (fun s2 I2 ⟨a, sb, ha⟩ => ?_) (.inr hyl))
  obtain ⟨f0, f1, f2, f3, f4, f5⟩ := f
  have haC : C ≠ a := by
    rcases ha with z | z
    · rw [z]; exact f1
    · exact fun e => f4 y a z e.symm
  refine ⟨m, hn.sameBut sb haC, fun h3 sb3 => ?_⟩
  exact ⟨_, H', I2.turned (t' := s2.toks) (fun b o hb e => (sb3.2 b hb).trans e) f0 f1 f3 f4 f5, q⟩
end
end L2
end T_DQ

section T_ST
set_option Elab.async false
set_option linter.all false
set_option maxRecDepth 100000
set_option maxHeartbeats 4000000
namespace Rw
open PySem PySem.Spec PyProof.Rows
/-! ### sorted(a dict whose keys are tuples of texts, the first one empty) -/
section
variable {prog : Program} {w : World} {A : Around} {E : Value → Shared → Prop} {s : Shared}
/-- a tuple of texts -/
def IsTE (h : Heap) (v : Value) (xs : List Str) : Prop := ∃ (a : Addr) (us : Array Value), v = .ref a ∧ IsTup h a us ∧ StrsAre us.toList xs
theorem IsTE.on {h h' : Heap} {v : Value} {k : List Str} (x : IsTE h v k) (keep : ∀ b o, h.get? b = some o → o.cls = .type "tuple" → h'.get? b = some o) : IsTE h' v k := by
  obtain ⟨a, us, e, ⟨o, h1, h2, h3⟩, r⟩ := x
  exact ⟨a, us, e, ⟨o, keep _ _ h1 h2, h2, h3⟩, r⟩
theorem te_lt {p q : Addr} {us vs : Array Value} {xs ys : List Str} {Q : Bool → Shared → Prop} (hp : IsTup s.heap p us) (hq : IsTup s.heap q vs) (hx : StrsAre us.toList xs) (hy : StrsAre vs.toList ys) (room : A.units < cLine) (h : Q (lexS xs ys) s) :
    wpAny (model prog w) A (oneLt' true (.ref p) (.ref q)) Q E s := by
  obtain ⟨⟨c1, e1, t1, z1⟩, at_p, x1, k1, y1⟩ := id hp
  obtain ⟨⟨c2, e2, t2, z2⟩, at_q, x2, k2, y2⟩ := id hq
  simp only at x1 y1 x2 y2
  subst x1 y1 x2 y2
  rw [oneLt'_eq]
  simp only [if_true]
  refine wpAny_bind (wpAny_cRoomFor room ?_)
  refine wpAny_bind (wpAny_callSpecialIfBound?_slot (T := "tuple") ⟨_, at_p, rfl⟩ PySem.F.slot_tuple_lt (PySem.call_meets PySem.F.slot_tuple_lt ⟨_, at_p, rfl⟩ PySem.F.entry_tuple_lt (PySem.F.args_tuple_lt_2 _ _) (tupS_lt p q us vs k1 k2 e1 e2 z1 z2 xs ys hx hy) ⟨at_p, at_q, ?_⟩))
  exact wpAny_truthy_bool h
theorem te_cmp {vs : List Value} {k : Value → List Str} (room : A.units < cLine) (hp : ∀ v ∈ vs, IsTE s.heap v (k v)) : SrtO.Cmp prog w A s oneType' (fun p => p.1 ∈ vs) (SrtO.lt2 fun v u => lexS (k v) (k u)) := by
  intro p q m1 m2
  have h1 := hp _ m1
  have h2 := hp _ m2
  show wpAny (model prog w) A (keyLt' oneType' p.1 q.1) (fun r t => t = s ∧ r = lexS (k p.1) (k q.1)) (fun _ _ => False) s
  generalize k p.1 = xs at h1 ⊢
  generalize k q.1 = ys at h2 ⊢
  obtain ⟨a, us, ep, t1, r1⟩ := h1
  obtain ⟨b, vs', eq, t2, r2⟩ := h2
  rw [ep, eq, keyLt'_oneType]
  exact te_lt t1 t2 r1 r2 room ⟨rfl, rfl⟩
theorem te_firsts {M : Model} : ∀ {vs : List Value} {k : Value → List Str}, (∀ v ∈ vs, IsTE s.heap v (k v)) → ∃ fs : List (Option Value), fs.length = vs.length ∧ ∀ Q : List (Option Value) → Shared → Prop, Q fs s → wpAny M A (vs.mapM firstOfTuple') Q E s
  | [], _, _ => ⟨[], rfl, fun Q h => by rw [List.mapM_nil]; exact wpAny_pure h⟩
  | v :: vs, k, hp => by
    obtain ⟨fs, g1, g2⟩ := te_firsts (vs := vs) fun u hu => hp u (List.mem_cons_of_mem _ hu)
    obtain ⟨a, us, rfl, ⟨o, h1, h2, n, h3⟩, r⟩ := hp v List.mem_cons_self
    refine ⟨us[0]? :: fs, congrArg (· + 1) g1, fun Q h => ?_⟩
    rw [List.mapM_cons]
    refine wpAny_bind ?_
    rw [PySem.W.kas_first_eq]
    refine wpAny_bind (PySem.W.Looks.here (show PySem.W.Looks M s.heap (typeOf (.ref a)) o.cls from (PySem.W.Looks.ld h1).andThen .now) ?_)
    rw [h2, if_neg (by first | decide | simp)]
    refine wpAny_bind (listItems_at h1 h3 (wpAny_pure ?_))
    exact wpAny_bind (g2 _ (wpAny_pure h))
theorem te_kind {M : Model} {v0 : Value} {vs : List Value} {k : Value → List Str} {Q : SortKind → Shared → Prop} (hp : ∀ v ∈ v0 :: vs, IsTE s.heap v (k v)) (h0 : k v0 = []) (h : Q oneType' s) : wpAny M A (keyKind' (v0 :: vs).toArray) Q E s := by
  rw [keyKind'_eq, List.mapM_toArray, map_eq_pure_bind]
  obtain ⟨fs, f1, f2⟩ := te_firsts (M := M) (A := A) (E := E) (s := s) (vs := vs) (k := k) fun u hu => hp u (List.mem_cons_of_mem _ hu)
  have hp0 := hp v0 List.mem_cons_self
  have looks : ∀ v ∈ v0 :: vs, PySem.W.Looks M s.heap (typeOf v) (Value.type "tuple") := fun v hv => by
    obtain ⟨a, us, rfl, ⟨o, h1, h2, n, h3⟩, r⟩ := hp v hv
    rw [← h2]
    exact (PySem.W.Looks.ld h1).andThen .now
  obtain ⟨a, us, e0, ⟨o, h1, h2, n, h3⟩, r⟩ := hp0
  rw [h0] at r
  have eus : us[0]? = none := by
    rw [← Array.getElem?_toList]
    generalize us.toList = L at r
    cases r
    rfl
  refine wpAny_bind (wpAny_bind ?_)
  rw [List.mapM_cons]
  refine wpAny_bind ?_
  rw [PySem.W.kas_first_eq, e0]
  refine wpAny_bind (PySem.W.Looks.here (show PySem.W.Looks M s.heap (typeOf (.ref a)) o.cls from (PySem.W.Looks.ld h1).andThen .now) ?_)
  rw [h2, if_neg (by first | decide | simp)]
  refine wpAny_bind (listItems_at h1 h3 (wpAny_pure ?_))
  rw [eus]
  refine wpAny_bind (f2 _ (wpAny_pure (wpAny_pure ?_)))
  rw [if_neg (by simp), if_neg (by simp)]
  rw [oneTypeOnly'_eq, List.mapM_toArray, map_eq_pure_bind]
  rw [← e0]
  refine wpAny_bind (wpAny_bind (wpAny_bind (PySem.W.kas_mapM (r := Value.type "tuple") _ (fun v hv Q' hq => (looks v hv).here hq) (wpAny_pure ?_))))
  have hall : ((List.map (fun _ => Value.type "tuple") (v0 :: vs)).toArray.all fun x => x == Value.type "tuple") = true := by
    simp only [List.all_toArray, List.all_map, List.all_eq_true]
    intro _ _
    rfl
  have hz : (List.map (fun _ => Value.type "tuple") (v0 :: vs)).toArray[0]? = some (Value.type "tuple") := by simp
  rw [hz]
  simp only [hall, if_true]
  exact wpAny_pure (wpAny_pure h)
theorem te_sortable {a : Addr} {vs : List Value} {k : Value → List Str} (room : A.units < cLine) (h0 : ∀ v, vs.head? = some v → k v = []) (ne : vs ≠ []) (hp : ∀ v ∈ vs, IsTE s.heap v (k v)) (ha : ∀ o, s.heap.get? a = some o → o.cls ≠ .type "tuple") : SrtO.SortableO prog w A s a vs fun v u => lexS (k v) (k u) := by
  intro h' keep
  have hp' : ∀ v ∈ vs, IsTE h' v (k v) := fun v hv => (hp v hv).on fun b o e c => keep b o (fun z => by subst z; exact ha o e c) e
  refine ⟨oneType', fun Q E hq => ?_, te_cmp (s := { s with heap := h' }) room hp'⟩
  cases vs with
  | nil => exact absurd rfl ne
  | cons v0 vs => exact te_kind (s := { s with heap := h' }) hp' (h0 v0 rfl) hq
end
end Rw
namespace L2
open PySem PySem.Spec PyProof.Rows
theorem kt_rows {H : Hp} {kvs : List (List Key × V)} {ks : List (List Key × Addr × Value)} (pr : KT H kvs ks) : ∀ M : List (List Str), kvs.map (·.1) = M.map (fun p => p.map Sum.inr) →
    ∃ L : List (Addr × List Str), (ks.map fun x => V.ref x.2.1) = L.map (fun q => V.ref q.1) ∧ Rw.RowsT H L ∧ L.map (·.2) = M := by
  induction pr with
  | nil =>
    intro M hM
    refine ⟨[], rfl, (fun q hq => nomatch hq), ?_⟩
    exact (List.map_eq_nil_iff.mp hM.symm).symm
  | @cons p x kvs' ks' h t ih =>
    intro M hM
    cases M with
    | nil => exact nomatch hM
    | cons m M =>
      rw [List.map_cons, List.map_cons] at hM
      injection hM with e1 e2
      obtain ⟨L, g1, g2, g3⟩ := ih M e2
      refine ⟨(x.2.1, m) :: L, by rw [List.map_cons, List.map_cons, g1], fun q hq => ?_, by rw [List.map_cons, g3]⟩
      rcases List.mem_cons.mp hq with rfl | hq
      · have := h.2.1
        rw [e1, List.map_map] at this
        exact this
      · exact g2 q hq
/-- sorted(d), d a dict whose keys are tuples of texts, the first of them (): a new list, in order -/
def rSortDT : List V → Hp → VK → Prop := fun vs H Q => ∃ (d : Addr) (kvs : List (List Key × V)) (M : List (List Str)), vs = [V.ref d] ∧ Rd H d (.dT kvs) ∧ kvs.map (·.1) = M.map (fun p => p.map Sum.inr) ∧ (∀ p, M.head? = some p → p = []) ∧
  ∀ (ys : List (Addr × List Str)) (p : Addr), (ys.map (·.2)).Perm M → (ys.map (·.2)).Pairwise (fun x y => Rw.lexS y x = false) → Rw.RowsT H ys → H p = none → Q (.ref p) (upd H p (.lst (ys.map fun q => V.ref q.1)))
theorem cr_sortDT {X : Cx} (hc : X.calm = true) (room : X.A.units + 2 < cLine) : CallR X (.builtin "sorted") rSortDT := by
  intro pins s σ H xs us Q I r h
  obtain ⟨d, kvs, M, rfl, hd, hM, h0, q⟩ := h
  obtain ⟨u, rfl, rx⟩ := r.one
  cases rx
  obtain ⟨z, hs, ks, pr, o, es, ep, ho, hx, hdt, he, hn⟩ := (show ObjOk X.prog X.w H s.heap d (.dT kvs) from hd.ok I.hok)
  have l1 : es.size = ks.length := size_of_entries he
  have l2 : kvs.length = ks.length := Paired.length pr
  refine Calls.call_function_entry kind_sorted plain_sorted entry_sorted (args_sorted1 _) ?_
  unfold Builtin.«sorted»
  refine wpAny_bind (m := checkCount "sorted" 1 1 _) (wpAny_pure ?_)
  refine wpAny_bind (PySem.W.kdu_collect (A := X.A.in1) (kdl_raw hs hx hdt) (I.ok.hd hc) ho (by omega) fun h' tk acc' kp it => ?_)
  have ea : acc'.toList = ks.map fun x => Value.ref x.2.1 := by
    have hl : acc'.toList.length = ks.length := by rw [Array.length_toList, it.1]; exact l1
    apply List.ext_getElem?
    intro j
    rw [List.getElem?_map]
    cases hj : acc'.toList[j]? with
    | none =>
      have h1 := List.getElem?_eq_none_iff.mp hj
      rw [List.getElem?_eq_none (by omega)]
      all_goals rfl
    | some v =>
      obtain ⟨en, hen, hv⟩ := it.2 j v (by rw [← Array.getElem?_toList]; exact hj)
      have qe := entry_at he j
      rw [hen] at qe
      cases hb : ks[j]? with
      | none =>
        rw [hb] at qe
        exact nomatch (show some en = none from qe)
      | some b =>
        rw [hb] at qe
        have e2 : en = entryOfKey (tupleKind (mixKind X.prog X.w)) b := Option.some.inj qe
        rw [hv, e2]
        all_goals rfl
  rw [ea]
  have I1 : Inv X pins σ H { s with heap := h', toks := tk } := I.kept kp
  obtain ⟨L, eL, rL, mL⟩ := kt_rows pr M hM
  have eV : (ks.map fun x => Value.ref x.2.1) = L.map fun q => Value.ref q.1 := by
    have e1 : (ks.map fun x => V.ref x.2.1) = (ks.map fun x => x.2.1).map V.ref := by rw [List.map_map]; rfl
    have e2 : (L.map fun q => V.ref q.1) = (L.map fun q => q.1).map V.ref := by rw [List.map_map]; rfl
    have e3 := (List.map_inj_right fun _ _ z => V.ref.inj z).mp (e1.symm.trans (eL.trans e2))
    have e4 := congrArg (List.map Value.ref) e3
    rw [List.map_map, List.map_map] at e4
    exact e4
  have lL : (L.map fun q => Value.ref q.1).length ≤ sizeLine := by rw [← eV, List.length_map]; omega
  rw [eV]
  have all : ∀ v ∈ L.map (fun q => Value.ref q.1), Rw.IsTE h' v (Rw.rowAt H (backV v)) := fun v hv => by
    obtain ⟨q', hq, rfl⟩ := List.mem_map.mp hv
    have ht := rL q' hq
    obtain ⟨_, i3, r3, o3, ho3, hc3, n3, hd3⟩ := I1.hok _ _ ht
    refine ⟨q'.1, i3.toArray, rfl, ⟨o3, ho3, hc3, n3, hd3⟩, ?_⟩
    show StrsAre _ (Rw.rowAt H (.ref q'.1))
    rw [Rw.rowAt_of ht]
    exact Vals.strs r3
  refine wpAny_bind (wpAny_newList ?_ lL)
  have hoL : (h'.push (seqObj "list" (L.map fun q => Value.ref q.1).toArray 0)).get? h'.objs.size = some (seqObj "list" (L.map fun q => Value.ref q.1).toArray 0) := Heap.get?_push_size _ rfl
  show wpAny _ _ _ _ _ { s with heap := h'.push (seqObj "list" (L.map fun q => Value.ref q.1).toArray 0), toks := tk }
  refine wpAny_bind (wpAny_holding (wpAny_call_entry slot_list_sort ⟨_, hoL, rfl⟩ entry_list_sort (SrtO.list_sort_ord (s := { s with heap := h'.push (seqObj "list" (L.map fun q => Value.ref q.1).toArray 0), toks := tk }) (Rw.lexS_swo fun v => Rw.rowAt H (backV v)) hoL lL (fun h2 => ?_) fun out hs1 hb1 => ⟨_, rfl, ?_⟩) (args_list_sort _)))
  · refine Rw.te_sortable (by show X.A.units + 1 + 1 < cLine; omega) (fun v hv => ?_) (fun z => by rw [z] at h2; exact absurd h2 (by simp)) (fun v hv => (all v hv).on fun b o e _ => Heap.get?_push_of_some _ e) fun o e => ?_
    · cases L with
      | nil => cases hv
      | cons q0 L =>
        cases hv
        show Rw.rowAt H (.ref q0.1) = []
        rw [Rw.rowAt_of (rL q0 List.mem_cons_self)]
        exact h0 _ (by rw [← mL]; rfl)
    · have e' := e.symm.trans hoL
      cases e'
      intro c
      exact absurd (Value.type.inj c) (by decide)
  · have h3 : ∀ u ∈ out, ∃ a, u = Value.ref a := fun u hu => by
      obtain ⟨q', _, e⟩ := List.mem_map.mp (hb1.perm.mem_iff.mp hu)
      exact ⟨_, e.symm⟩
    have hp : (out.map backV).Perm (L.map fun q => V.ref q.1) := by
      have z := hb1.perm.map backV
      rw [List.map_map] at z
      exact z
    obtain ⟨ys, ey, ry, py, my⟩ := Rw.rowsT_perm rL hp
    obtain ⟨c, at_out⟩ := sortedHeap_at (vs := L.map fun q => Value.ref q.1) (out := out.toArray) hoL
    have fresh : H h'.objs.size = none := I1.hok.fresh (Nat.le_refl _)
    have keep2 : ∀ b u, h'.get? b = some u → (sortedHeap (h'.push (seqObj "list" (L.map fun q => Value.ref q.1).toArray 0)) h'.objs.size (L.map fun q => Value.ref q.1) out.toArray).get? b = some u := fun b u e => by
      have hb : b < h'.objs.size := Heap.lt_size e
      rw [PyProof.Rows.sortedHeap_old (Nat.ne_of_lt hb) (by rw [size_push']; exact Nat.lt_succ_of_lt hb)]
      exact Heap.get?_push_of_some _ e
    have sorted : (ys.map (·.2)).Pairwise (fun x y => Rw.lexS y x = false) := by
      rw [my, List.map_map]
      have z : SrtO.Srtd (fun v u => Rw.lexS (Rw.rowAt H (backV v)) (Rw.rowAt H (backV u))) out := hs1
      exact List.pairwise_map.mpr z
    refine wpAny_pure ⟨_, rfl, .ref h'.objs.size, upd H h'.objs.size (.lst (out.map backV)), I1.laid (t' := tk) keep2 (Nat.le_refl _) ⟨?_, out, c, vals_back h3, at_out⟩, rfl, ?_⟩
    · rw [hp.length_eq, List.length_map]
      rw [List.length_map] at lL
      exact lL
    · rw [ey]
      exact q ys _ (by rw [← mL]; exact py) sorted ry fresh
end L2
end T_ST

section T_U2
set_option Elab.async false
set_option linter.all false
set_option maxRecDepth 100000
set_option maxHeartbeats 16000000
namespace Rw
open PySem L2 PyProof.Rows LamX
/-- the heap without one object -/
def woA (a : Addr) (H : Hp) : Hp := fun b => if b = a then none else H b
theorem woA_none (a : Addr) (H : Hp) : woA a H a = none := if_pos rfl
theorem woA_some {a b : Addr} {H : Hp} {o : HO} (h : H b = some o) (ne : b ≠ a) : woA a H b = some o := (if_neg ne).trans h
theorem woA_ex (a : Addr) (H : Hp) : Evl.Ex (woA a H) H := fun b o h => by
  unfold woA at h
  split at h
  · cases h
  · exact h
theorem codeO_dT {c : Addr} {q : Str} {xs : List (List Key × V)} (h : some (CodeO c q) = some (HO.dT xs)) : False := by
  have h1 := Option.some.inj h
  unfold CodeO at h1
  cases h1
theorem kB_put (M : List (List Str)) (p : List Str) : ∃ M', putK (kB M) (p.map Sum.inr) (.bl true) = kB M' ∧ (∀ q, q ∈ M' ↔ q ∈ M ∨ q = p) ∧ M'.length ≤ M.length + 1 := by
  by_cases m : p ∈ M
  · refine ⟨M, ?_, fun q => ⟨.inl, fun h => h.elim id fun e => e ▸ m⟩, Nat.le_succ _⟩
    unfold putK
    have ha : ((kB M).any fun kv => decide (kv.1 = p.map Sum.inr)) = true := by
      rw [List.any_eq_true]
      exact ⟨(p.map Sum.inr, .bl true), List.mem_map.mpr ⟨p, m, rfl⟩, decide_eq_true rfl⟩
    rw [if_pos ha]
    unfold kB
    rw [List.map_map]
    refine List.map_congr_left fun q hq => ?_
    show (if _ then _ else _) = _
    split
    · rfl
    · rfl
  · exact ⟨M ++ [p], kB_new m, fun q => by rw [List.mem_append, List.mem_singleton], by rw [List.length_append]; exact Nat.le_refl _⟩
theorem keys_rows {H : Hp} {bs : List Addr} : ∀ {M : List (List Str)}, IsKeys H (kB M) bs → ∃ L : List (Addr × List Str), bs.map V.ref = L.map (fun q => V.ref q.1) ∧ RowsT H L ∧ L.map (·.2) = M := by
  intro M
  induction M generalizing bs with
  | nil =>
    intro h
    unfold IsKeys at h
    cases h
    exact ⟨[], rfl, (fun q hq => nomatch hq), rfl⟩
  | cons m M ih =>
    intro h
    unfold IsKeys at h
    cases h with
    | cons h t =>
      obtain ⟨L, g1, g2, g3⟩ := ih t
      refine ⟨(_, m) :: L, by rw [List.map_cons, List.map_cons, g1], fun q hq => ?_, by rw [List.map_cons, g3]⟩
      rcases List.mem_cons.mp hq with rfl | hq
      · rw [keyS] at h
        exact h
      · exact g2 q hq
section
variable {P : Program} {w : World} {K : PySem.W.Frag} {mg : Str → Option Value} {base : Heap}
def spSafeRounds (T : List (Addr × Str)) : Sp := fun vs H Q _ => ∃ (a b : Addr) (ys : List Str) (B : List (Addr × List Str)), vs = [.ref a, .ref b] ∧ SqT K H a (ys.map V.str) ∧ ys.length ≤ 6 ∧ ys.Nodup ∧ sortedS ys = true ∧ H b = some (.lst (B.map fun q => V.ref q.1)) ∧ RowsT H B ∧ B.length ≤ 256 ∧ Tabs T H ∧
  ∀ (p : Addr) (H' : Hp), Evl.Ex (nt H) (nt H') → Tabs T H' → nt H p = none → SafeD H' p (fun on => decide (on ∈ B.map (·.2))) ys → Q (.ref p) H'
abbrev nSafeR : List Str := ["changing", "broken", "barred", "found", "done", "safe", "node", "behind", "lot", "longer", "changed", "other"]
theorem sc_safeR : FnScope nSafeR ["changing", "broken"] (defScope p_safe_rounds) := ⟨rfl, rfl, rfl, by decide +kernel, rfl, by decide +kernel, by decide +kernel⟩
theorem ok_safeR {f : Addr} {fd : FuncData} {T : List (Addr × Str)} (F : Fun K "safe_rounds" "safe_rounds" p_safe_rounds f fd) (C1 : Cal P w K mg base 5 "parts_of" ["lot"] (spParts (K := K) T)) (C2 : Cal P w K mg base 1 "joined" ["lot", "other"] (spJoined (K := K)))
    (mRev : mg "reversed" = none) (mList : mg "list" = none) (mSorted : mg "sorted" = none) : FnOk P w K mg base CX0 6 f fd ["changing", "broken"] (spSafeRounds (K := K) T) := by
  obtain ⟨f1, fd1, F1, k1, b1, g1⟩ := C1.ex
  obtain ⟨f2, fd2, F2, k2, b2, g2⟩ := C2.ex
  refine F.ok sc_safeR (fun vs H Q E h => ?_) (fun cdv A outer s H vs Q E hr h => ?_)
  · obtain ⟨a, b, ys, B, rfl, _⟩ := h
    rfl
  · obtain ⟨a, b, ys, B, rfl, ha, l6, nd, so, hb, tBr, lB, hT, k⟩ := h
    have ndN := sc_safeR.nd
    have hu := hu_of hr
    have hr1 : Room 1 _ := hr.mono (by decide)
    refine ⟨_, pss_cons (ps_setDcT (i := 2) hu rfl ndN rfl rfl (sw_trueD rfl rfl rfl rfl) (own := [("changed", 10)]) (g := gName 10) (tt := tYes) (tk := tVar 10) (tv := tC (.bl true)) (pi_list (pv 1)) (blkOk_by (own := [("changed", 10)]) (N := nSafeR) (sc := defScope p_safe_rounds) (by decide +kernel))
          (fun _ _ _ _ _ => pg_name (i := 10) ndN rfl (Or.inl rfl)) (fun _ _ _ _ _ => pts_nil) (fun _ _ _ _ _ => pv 10) (fun _ _ _ _ _ => pe_bl))
      (pss_cons (ps_set (i := 3) ndN rfl (.inr rfl) pe_dnewT)
      (pss_cons (ps_for PassesOwn.never rfl (pi_reversed (by rfl) mRev (pa_cons (pe_call F1 hr rfl g1 k1 b1 .nil pass0 (pa_cons (pv 0) pa_nil)) pa_nil)) (pg_name (i := 4) ndN rfl (.inr rfl))
        (pss_cons (ps_set (i := 5) ndN rfl (.inl rfl) (pe_ifExp (pt_cmp (pc_din hu (pv 4) (pv 2)) rfl) pe_dnewT (pe_dispT hu (pe_tup pa_nil) pe_bl)))
        (pss_cons (ps_for PassesOwn.never rfl (pi_list (pe_lc (own := [("other", 11)]) (g := gName 11) (tt := tTest (tOp (rIn K true) (tVar 11) (tVar 4))) (te := tVar 11) rfl ndN (pi_tup (pv 0)) (blkOk_by (own := [("other", 11)]) (N := nSafeR) (sc := defScope p_safe_rounds) (by decide +kernel))
            (fun _ _ _ _ _ => pg_name (i := 11) ndN rfl (Or.inl rfl)) (fun _ _ _ _ _ => pts_one (pt_cmpR op_notIn_seq (pv 11) (pv 4) rfl)) (fun _ _ _ _ _ => pv 11))) (pg_name (i := 6) ndN rfl (.inl rfl))
          (pss_cons (ps_set (i := 7) ndN rfl (.inl rfl) (pe_dget hu (pv 3) (pe_call F2 hr1 rfl g2 k2 b2 .nil pass0 (pa_cons (pv 4) (pa_cons (pe_tup (pa_cons (pv 6) pa_nil)) pa_nil))) (fun _ _ => rfl)))
          (pss_one (ps_for PassesOwn.never rfl (pi_list (pe_callTy (call_list_dT rfl) (by rfl) mList (by decide +kernel) (pa_cons (pv 5) pa_nil))) (pg_name (i := 8) ndN rfl (.inl rfl))
            (pss_one (ps_if (pt_cmp (pc_din hu (pv 8) (pv 7)) rfl)
              (pss_cons (ps_set (i := 9) ndN rfl (.inl rfl) (pe_tup (StX.pa_star (pv 8) (pa_cons (pv 6) pa_nil))))
              (pss_one (ps_dput hu (pv 5) (pv 9) pe_bl rfl))) pss_nil))))))
        (pss_one (ps_dput hu (pv 3) (pv 4) (pv 5) rfl)))))
      (pss_one (ps_ret (pe_lock (pe_dcT (own := [("done", 4)]) (g := gName 4) (tt := tYes) (tk := tVar 4) (tv := tCB rSortDT (tCons (tDGet (tVar 3) (tVar 4)) tNil)) hu rfl ndN (pi_keys (pv 3)) (blkOk_by (own := [("done", 4)]) (N := nSafeR) (sc := defScope p_safe_rounds) (by decide +kernel))
          (fun _ _ _ _ _ => pg_name (i := 4) ndN rfl (Or.inl rfl)) (fun _ _ _ _ _ => pts_nil) (fun _ _ _ _ _ => pv 4)
          (fun _ _ _ _ _ => pe_callB (cr_sortDT rfl (Nat.lt_of_le_of_lt (Nat.add_le_add_left (by decide) _) (un65 hr))) (by rfl) mSorted (by decide +kernel) (pa_cons (pe_dget hu (pv 3) (pv 4) (fun _ _ => rfl)) pa_nil)))))))), ?_⟩
    -- barred
    refine ⟨.ref b, rfl, b, rfl, ⟨_, Evl.sq_of hb⟩, fun D hD => dcT_it (walk_list (K := K) (a := b) (xs := B.map fun q => V.ref q.1))
      (fun i H' => Evl.Ex H H' ∧ ∃ M, H' D = some (.dT (kB M)) ∧ (∀ q, q ∈ M ↔ q ∈ (B.take i).map (·.2)) ∧ M.length ≤ i) ⟨Evl.Ex.new hD, [], upd_same, fun q => Iff.rfl, Nat.le_refl _⟩ (fun i H' _ h => Evl.sq_of (h.1 _ _ hb)) ?_ ?_⟩
    · rintro i v H1 H1' hi ⟨x1, M, d1, mM, lM⟩ ⟨rfl, hx⟩
      obtain ⟨q, hq, rfl⟩ := rowsT_at hx
      have hil := (List.getElem?_eq_some_iff.mp hq).1
      obtain ⟨M', e1, e2, e3⟩ := kB_put M q.2
      refine ⟨rfl, yes_if ⟨.ref q.1, rfl, _, q.2.map Sum.inr, q.1, rfl, by rw [keyS]; exact x1 _ _ (tBr q (List.mem_of_getElem? hq)), d1, by rw [kB_len]; exact small1000 (by omega), x1.mut hD, M', by rw [upd_same, e1], fun r => ?_, by omega⟩⟩
      rw [e2, mM, List.take_add_one, hq, List.map_append, List.mem_append]
      show _ ↔ _ ∨ r ∈ [q.2]
      rw [List.mem_singleton]
    rintro H1 ⟨x1, MB, d1, mB, lMB⟩
    rw [List.length_map] at lMB
    rw [List.length_map, List.take_length] at mB
    generalize hbk : (fun on => decide (on ∈ B.map (·.2))) = bk at k
    have ebk : ∀ on, decide (on ∈ MB) = bk on := fun on => by
      rw [← hbk]
      exact decide_eq_decide.mpr (mB on)
    -- found
    refine fun fo hfo => ?_
    have y1 : Evl.Ex H1 (upd H1 fo (.dT [])) := Evl.Ex.new hfo
    have f1' : (upd H1 fo (.dT [])) fo = some (.dT []) := upd_same
    have nD : D ≠ fo := fun e => by rw [e, hfo] at d1; cases d1
    generalize upd H1 fo (.dT []) = H2 at y1 f1'
    have x12 := x1.trans y1
    have hfoH : H fo = none := ex_none x1 hfo
    refine ⟨.ref a, rfl, a, ys, rfl, Evl.ex_t x12 ha, l6, hT.ext x12, fun p H3 L x3 T3 hp tL pL sL => ?_⟩
    have eL : L.map (·.2) = partsS ys := partsS_is pL sL
    have Ll : L.length ≤ 64 := by
      have := partsS_len (zs := ys) l6
      rw [← eL, List.length_map] at this
      exact this
    have Lnd : (L.map (·.2)).Nodup := by rw [eL]; exact partsS_nodup nd
    have hfo3 : H3 fo = some (.dT []) := (x3.trans (ex_nt H3)) _ _ (nt_of f1' fun _ z => by cases z)
    have base0 : Evl.Ex (nt H) (woA fo H3) := fun u o h => by
      have ne : u ≠ fo := fun e => by
        have := (nt_some h).1
        rw [e, hfoH] at this
        cases this
      exact woA_some ((nt_some ((nt_ex x12).trans x3 _ _ h)).1) ne
    have hpb : woA fo H3 p = some (.lst (L.map fun q => V.ref q.1)) := woA_some hp fun e => by rw [e, hfo3] at hp; cases hp
    have tLb : RowsT (woA fo H3) L := fun q hq => woA_some (tL q hq) fun e => by have := tL q hq; rw [e, hfo3] at this; cases this
    have dDb : woA fo H3 D = some (.dT (kB MB)) := woA_some ((nt_some (x3 _ _ (nt_of (y1 _ _ d1) fun _ z => by cases z))).1) nD
    have Tb : Tabs T (woA fo H3) := by
      intro q hq
      obtain ⟨ts, t1, t2, t3⟩ := T3 q hq
      refine ⟨ts, woA_some t1 (fun e => by rw [e, hfo3] at t1; cases t1), t2, fun pos cv hcv => ?_⟩
      obtain ⟨c', e1, e2⟩ := t3 pos cv hcv
      refine ⟨c', e1, woA_some e2 fun e => ?_⟩
      rw [e, hfo3] at e2
      exact codeO_dT e2.symm
    have hab : SqT K (woA fo H3) a (ys.map V.str) := sqt_to (sqt_nt ha) base0
    refine ⟨p, _, rfl, Evl.sq_of hp, for_it walk_rev
      (fun i σ H' => (∃ x4 x5 x6 x7 x8 x9 : Option V, σ = [some (.ref a), some (.ref b), some (.ref D), some (.ref fo), x4, x5, x6, x7, x8, x9, none, none]) ∧ Evl.Ex (woA fo H3) H' ∧ ∃ Tt : List (List Str × Addr), H' fo = some (.dT (kT Tt)) ∧ Tt.map (·.1) = (partsS ys).reverse.take i ∧ ∀ t ∈ Tt, t.2 ≠ fo ∧ H' t.2 = some (.dT (kB (safeA bk ys t.1))))
      ⟨⟨_, _, _, _, _, _, rfl⟩, woA_ex fo H3, [], hfo3, rfl, fun t ht => nomatch ht⟩ (fun i σ H' _ h => Evl.sq_of (h.2.1 _ _ hpb)) ?_ ?_⟩
    · rintro i v σ H4' H4 hi ⟨⟨x4, x5, x6, x7, x8, x9, rfl⟩, b4, Tt, f4, eT, tT⟩ ⟨rfl, hv⟩
      rw [List.length_map] at hi hv
      obtain ⟨q, hq, rfl⟩ := rowsT_at hv
      have mq := List.mem_of_getElem? hq
      have hqr : (partsS ys).reverse[i]? = some q.2 := by
        rw [← eL, List.getElem?_reverse (by rw [List.length_map]; exact hi), List.length_map, List.getElem?_map, hq]
        rfl
      have et : (partsS ys).reverse.take (i + 1) = (partsS ys).reverse.take i ++ [q.2] := by rw [List.take_add_one, hqr]; rfl
      have split : (partsS ys).reverse = (partsS ys).reverse.take i ++ q.2 :: (partsS ys).reverse.drop (i + 1) := by
        obtain ⟨hlt, he⟩ := List.getElem?_eq_some_iff.mp hqr
        rw [← he, List.getElem_cons_drop, List.take_append_drop]
      have zsub : q.2.Sublist ys := partsS_sub (by rw [← eL]; exact List.mem_map_of_mem mq)
      have zl : q.2.length ≤ 6 := Nat.le_trans zsub.length_le l6
      have tq4 := b4 _ _ (tLb q mq)
      have Ttl : Tt.length ≤ 64 := by
        have h1 := congrArg List.length eT
        rw [List.length_map, List.length_take, List.length_reverse, ← eL, List.length_map] at h1
        omega
      have qT : q.2 ∉ Tt.map (·.1) := fun m => by
        rw [eT] at m
        have h1 : ((partsS ys).reverse.take (i + 1)).Nodup := (List.pairwise_reverse.mpr ((eL ▸ Lnd : (partsS ys).Nodup).imp fun h => h.symm)).sublist (List.take_sublist _ _)
        rw [et] at h1
        exact (List.nodup_append.mp h1).2.2 _ m _ (List.mem_singleton.mpr rfl) rfl
      obtain ⟨zs, hzs⟩ : ∃ zs, zs = q.2 := ⟨_, rfl⟩
      rw [← hzs] at zsub zl tq4 qT split et
      -- safe = {} or {(): True}
      have pick : ∀ {R : V → Hp → Prop}, (∀ (sd : Addr) (H5 : Hp), H4 sd = none → Evl.Ex H4 H5 → H5 sd = some (.dT (kB (safeM bk ys zs []))) → R (.ref sd) H5) →
          tIf (tB (tDIn (tVar 4) (tVar 2))) tDNewT (tDispT (tTup tNil) (tC (.bl true))) [some (.ref a), some (.ref b), some (.ref D), some (.ref fo), some (.ref q.1), x5, x6, x7, x8, x9, none, none] H4 R := fun {R} r => by
        refine ⟨.ref q.1, rfl, .ref D, rfl, D, _, rfl, .inr ⟨kB MB, zs.map Sum.inr, q.1, .inl (b4 _ _ dDb), rfl, by rw [keyS]; exact tq4, rfl⟩, _, rfl, ?_⟩
        rw [kB_has, ebk]
        have sm := safeM_nil bk nd zsub
        cases hbz : bk zs with
        | true =>
          rw [hbz, if_pos rfl] at sm
          refine iteT fun sd hsd => r sd _ hsd (Evl.Ex.new hsd) ?_
          rw [sm]
          exact upd_same
        | false =>
          rw [hbz, if_neg (by decide)] at sm
          refine iteF fun sd hsd => ⟨by show 0 ≤ sizeLine; decide, fun e0 he0 => ?_⟩
          have ne : e0 ≠ sd := fun e => by rw [e, upd_same] at he0; cases he0
          refine ⟨by rw [upd_ne ne.symm]; exact upd_same, e0, [], rfl, upd_same, r sd _ hsd (((Evl.Ex.new hsd).trans (Evl.Ex.new he0)).mut hsd) ?_⟩
          rw [sm, upd_same]
          rfl
      refine pick fun sd H5 hsd x5' d5 => ?_
      have nsf : sd ≠ fo := fun e => by rw [e, f4] at hsd; cases hsd
      have hab5 := sqt_to hab (b4.trans x5')
      -- the nodes that are left
      refine ⟨.ref a, rfl, a, rfl, ⟨_, hab5⟩, fun R hR => lc_tup (K := K) (a := a) (xs := ys.map V.str)
        (fun j H' => Evl.Ex H5 H' ∧ H' R = some (.lst ((restOf zs (ys.take j)).map V.str))) ⟨Evl.Ex.new hR, upd_same⟩ (fun j H' _ h => sqt_to hab5 h.1) ?_ ?_⟩
      · rintro j y H6 hj ⟨x6', r6⟩
        obtain ⟨z, hz, rfl⟩ := str_at hj
        have ez : ys.take (j + 1) = ys.take j ++ [z] := by rw [List.take_add_one, hz]; rfl
        refine ⟨rfl, .str z, rfl, .ref q.1, rfl, q.1, zs.map V.str, rfl, .inr (Evl.st_of (x6' _ _ (x5' _ _ tq4))), rfl, flat_strs _, _, rfl, ?_⟩
        rw [inV_str]
        have few : (restOf zs (ys.take j)).length ≤ 6 := Nat.le_trans (restOf_len _ _) (by rw [List.length_take]; omega)
        by_cases mz : z ∈ zs
        · rw [decide_eq_true mz]
          refine iteF ⟨x6', ?_⟩
          rw [r6, ez, restOf_snoc, if_pos mz, List.append_nil]
        · rw [decide_eq_false mz]
          refine iteT ⟨.str z, rfl, _, r6, by rw [List.length_map]; exact small1000 (by omega), x6'.mut hR, ?_⟩
          rw [upd_same, ez, restOf_snoc, if_neg mz, List.map_append]
          rfl
      rintro H6 ⟨x6', r6⟩
      rw [List.length_map, List.take_length] at r6
      have d6 := x6' _ _ d5
      have nRs : R ≠ sd := fun e => by rw [e, d5] at hR; cases hR
      have x46 := x5'.trans x6'
      have rsub := restOf_sub zs ys
      have r6l : (restOf zs ys).length ≤ 6 := Nat.le_trans (restOf_len _ _) l6
      refine ⟨R, rfl, ⟨_, Evl.sq_of r6⟩, for_list (K := K) (a := R) (xs := (restOf zs ys).map V.str)
        (fun j σ H' => (∃ x6 x7 x8 x9 : Option V, σ = [some (.ref a), some (.ref b), some (.ref D), some (.ref fo), some (.ref q.1), some (.ref sd), x6, x7, x8, x9, none, none]) ∧ Evl.Ex H4 H' ∧ H' R = some (.lst ((restOf zs ys).map V.str)) ∧ H' sd = some (.dT (kB (safeM bk ys zs ((restOf zs ys).take j)))))
        ⟨⟨_, _, _, _, rfl⟩, x46, r6, d6⟩ (fun j σ H' _ h => Evl.sq_of h.2.2.1) ?_ ?_⟩
      · rintro j y σ H7 hj ⟨⟨x6, x7, x8, x9, rfl⟩, x7', r7, d7⟩
        obtain ⟨z, hz, rfl⟩ := str_at hj
        have zr := List.mem_of_getElem? hz
        obtain ⟨zin, zn⟩ := restOf_mem.mp zr
        have ej : (restOf zs ys).take (j + 1) = (restOf zs ys).take j ++ [z] := by rw [List.take_add_one, hz]; rfl
        have jsub : ((restOf zs ys).take j ++ [z]).Sublist (restOf zs ys) := by rw [← ej]; exact List.take_sublist _ _
        have hz1 : ([z] : List Str).Sublist ys := List.singleton_sublist.mpr zin
        -- behind
        refine ⟨.ref fo, rfl, .ref q.1, rfl, .str z, rfl, by show 1 ≤ sizeLine; decide, fun s1 hs1 => ?_⟩
        have y8 : Evl.Ex H7 (upd H7 s1 (.tup [.str z])) := Evl.Ex.new hs1
        have t8 : (upd H7 s1 (.tup [.str z])) s1 = some (.tup (([z] : List Str).map V.str)) := upd_same
        generalize upd H7 s1 (.tup [.str z]) = H8 at y8 t8
        refine ⟨q.1, s1, zs, [z], rfl, Evl.st_of ((x7'.trans y8) _ _ tq4), Evl.st_of t8, by simp only [List.length_cons, List.length_nil]; omega, fun jp H9 js x9' _ tj pj sj => ?_⟩
        have ejs : js = mixS ys zs [z] := mixS_is so nd zsub hz1 (fun x hx => by rw [List.mem_singleton.mp hx]; exact zn) pj sj
        subst ejs
        have x79 := y8.trans x9'
        have x49 := x7'.trans x79
        obtain ⟨bt, hbt, ebt⟩ : ∃ t ∈ Tt, t.1 = mixS ys zs [z] := by
          have m : mixS ys zs [z] ∈ Tt.map (·.1) := by
            rw [eT]
            exact longer_ahead split (mixS_sub _ _ _) (mixS_longer zsub nd zin zn)
          obtain ⟨t, h1, h2⟩ := List.mem_map.mp m
          exact ⟨t, h1, h2⟩
        have ndT : (Tt.map (·.1)).Nodup := by
          rw [eT]
          exact (List.pairwise_reverse.mpr ((eL ▸ Lnd : (partsS ys).Nodup).imp fun h => h.symm)).sublist (List.take_sublist _ _)
        have gb := kT_get ndT hbt
        rw [ebt] at gb
        obtain ⟨nbf, db4⟩ := tT bt hbt
        rw [ebt] at db4
        refine ⟨fo, .ref bt.2, rfl, .inr ⟨kT Tt, (mixS ys zs [z]).map Sum.inr, jp, .inl (x49 _ _ f4), rfl, by rw [keyS]; exact tj, gb.symm⟩, ?_⟩
        -- list(safe)
        have d9 := x79 _ _ d7
        have r9 := x79 _ _ r7
        refine ⟨.ref sd, rfl, sd, _, rfl, .inl d9, fun lp bs hlp kb => ?_⟩
        obtain ⟨Lk, eLk, tLk, mLk⟩ := keys_rows kb
        rw [eLk]
        obtain ⟨Ms, hMs⟩ : ∃ Ms, Ms = safeM bk ys zs ((restOf zs ys).take j) := ⟨_, rfl⟩
        rw [← hMs] at mLk d9
        have Msl : Ms.length ≤ 64 := by rw [hMs]; exact safeM_len (by rw [List.length_take]; omega)
        have Lkl : Lk.length ≤ 64 := by rw [← List.length_map (f := (·.2)), mLk]; exact Msl
        have MsS : ∀ r ∈ Ms, r.Sublist ((restOf zs ys).take j) := fun r hr' => by rw [hMs] at hr'; exact (safeM_mem.mp hr').1
        have zT : z ∉ (restOf zs ys).take j := fun h => (List.nodup_append.mp ((nd.sublist rsub).sublist jsub)).2.2 z h z (List.mem_singleton.mpr rfl) rfl
        have Msn : Ms.Nodup := by rw [hMs]; exact safeM_nodup ((nd.sublist rsub).sublist (List.take_sublist _ _))
        have y10 : Evl.Ex H9 (upd H9 lp (.lst (Lk.map fun q => V.ref q.1))) := Evl.Ex.new hlp
        have l10 : (upd H9 lp (.lst (Lk.map fun q => V.ref q.1))) lp = some (.lst (Lk.map fun q => V.ref q.1)) := upd_same
        generalize upd H9 lp (.lst (Lk.map fun q => V.ref q.1)) = H10 at y10 l10
        have d10 := y10 _ _ d9
        have nls : lp ≠ sd := fun e => by rw [e, d9] at hlp; cases hlp
        refine ⟨lp, rfl, ⟨_, Evl.sq_of l10⟩, for_list (K := K) (a := lp) (xs := Lk.map fun q => V.ref q.1)
          (fun l σ H' => (∃ x8 x9 : Option V, σ = [some (.ref a), some (.ref b), some (.ref D), some (.ref fo), some (.ref q.1), some (.ref sd), some (.str z), some (.ref bt.2), x8, x9, none, none]) ∧ Evl.Ex H4 H' ∧ H' R = some (.lst ((restOf zs ys).map V.str)) ∧ H' lp = some (.lst (Lk.map fun q => V.ref q.1)) ∧ RowsT H' Lk ∧
            H' sd = some (.dT (kB (Ms ++ ((Ms.take l).filter fun r => decide (r ∈ safeA bk ys (mixS ys zs [z]))).map fun r => r ++ [z]))))
          ⟨⟨_, _, rfl⟩, x49.trans y10, y10 _ _ r9, l10, tLk.to y10, by rw [List.take_zero, List.filter_nil, List.map_nil, List.append_nil]; exact d10⟩ (fun l σ H' _ h => Evl.sq_of h.2.2.2.1) ?_ ?_⟩
        · rintro l u σ H11 hl ⟨⟨x8, x9, rfl⟩, x11, r11, l11, tL11, d11⟩
          obtain ⟨r, hr', rfl⟩ := rowsT_at hl
          have mr := List.mem_of_getElem? hr'
          have trr := tL11 r mr
          have hMr : Ms[l]? = some r.2 := by rw [← mLk, List.getElem?_map, hr']; rfl
          have eM : Ms.take (l + 1) = Ms.take l ++ [r.2] := by rw [List.take_add_one, hMr]; rfl
          have rs := MsS r.2 (List.mem_of_getElem? hMr)
          have rl : r.2.length ≤ 6 := Nat.le_trans rs.length_le (by rw [List.length_take]; omega)
          have hil : l < Ms.length := (List.getElem?_eq_some_iff.mp hMr).1
          refine ⟨.ref r.1, rfl, .ref bt.2, rfl, bt.2, _, rfl, .inr ⟨_, r.2.map Sum.inr, r.1, .inl (x11 _ _ db4), rfl, by rw [keyS]; exact trr, rfl⟩, _, rfl, ?_⟩
          rw [kB_has]
          by_cases mb : r.2 ∈ safeA bk ys (mixS ys zs [z])
          · rw [decide_eq_true mb]
            refine iteT ⟨.ref r.1, rfl, r.1, _, rfl, .inl (Evl.st_of trr), .str z, rfl, ?_, fun t ht => ?_⟩
            · rw [List.length_append, List.length_map]
              exact Nat.le_of_lt (small1000 (by simp only [List.length_cons, List.length_nil]; omega))
            have y12 : Evl.Ex H11 (upd H11 t (.tup (r.2.map V.str ++ [.str z]))) := Evl.Ex.new ht
            have t12 : (upd H11 t (.tup (r.2.map V.str ++ [.str z]))) t = some (.tup ((r.2 ++ [z]).map V.str)) := by rw [upd_same, List.map_append]; rfl
            generalize upd H11 t (.tup (r.2.map V.str ++ [.str z])) = H12 at y12 t12
            have d12 := y12 _ _ d11
            have few : (Ms ++ ((Ms.take l).filter fun r => decide (r ∈ safeA bk ys (mixS ys zs [z]))).map fun r => r ++ [z]).length ≤ 128 := by
              rw [List.length_append, List.length_map]
              have := List.length_filter_le (fun r => decide (r ∈ safeA bk ys (mixS ys zs [z]))) (Ms.take l)
              rw [List.length_take] at this
              omega
            have new : r.2 ++ [z] ∉ Ms ++ ((Ms.take l).filter fun r => decide (r ∈ safeA bk ys (mixS ys zs [z]))).map fun r => r ++ [z] := fun h => by
              rcases List.mem_append.mp h with h | h
              · exact zT ((MsS _ h).subset (List.mem_append_right _ List.mem_cons_self))
              · obtain ⟨r', h1, h2⟩ := List.mem_map.mp h
                have e := (List.append_inj' h2 rfl).1
                rw [e] at h1
                have h3 : (Ms.take (l + 1)).Nodup := Msn.sublist (List.take_sublist _ _)
                rw [eM] at h3
                exact (List.nodup_append.mp h3).2.2 _ (List.mem_filter.mp h1).1 _ (List.mem_singleton.mpr rfl) rfl
            refine ⟨.ref sd, rfl, .ref t, rfl, sd, _, rfl, DPut.t (k := (r.2 ++ [z]).map Sum.inr) d12 (by rw [keyS]; exact t12) (by rw [kB_len]; exact small1000 (by omega)), ⟨_, _, rfl⟩, (x11.trans y12).mut hsd, ?_, ?_, fun q' hq' => ?_, ?_⟩
            · rw [upd_ne nRs]; exact y12 _ _ r11
            · rw [upd_ne nls]; exact y12 _ _ l11
            · rw [upd_ne (ne_of (y12 _ _ (tL11 q' hq')) d12 (by intro z; cases z))]
              exact y12 _ _ (tL11 q' hq')
            · rw [upd_same, kB_new new, eM, List.filter_append, List.filter_cons_of_pos (by rw [decide_eq_true mb]), List.map_append, List.append_assoc]
              rfl
          · rw [decide_eq_false mb]
            refine iteF ⟨⟨_, _, rfl⟩, x11, r11, l11, tL11, ?_⟩
            rw [d11, eM, List.filter_append, List.filter_cons_of_neg (by rw [decide_eq_false mb]; decide), List.filter_nil, List.append_nil]
        · rintro σ H11 ⟨⟨x8, x9, rfl⟩, x11, r11, l11, tL11, d11⟩
          refine ⟨⟨_, _, _, _, rfl⟩, x11, r11, ?_⟩
          have e1 : Lk.length = Ms.length := by rw [← mLk, List.length_map]
          rw [List.length_map, e1, List.take_length] at d11
          rw [d11, ej, safeM_snoc nd zsub jsub, ← hMs]
      · rintro σ H7 ⟨⟨x6, x7, x8, x9, rfl⟩, x7', r7, d7⟩
        rw [List.length_map, List.take_length] at d7
        have f7 := x7' _ _ f4
        refine ⟨.ref sd, rfl, .ref fo, rfl, .ref q.1, rfl, fo, _, rfl, DPut.t (k := zs.map Sum.inr) f7 (by rw [keyS]; exact x7' _ _ tq4) (by rw [kT_len]; exact small1000 (by omega)), ⟨_, _, _, _, _, _, rfl⟩, (b4.trans x7').mut (woA_none fo H3), Tt ++ [(zs, sd)], ?_, ?_, fun t ht => ?_⟩
        · rw [upd_same, kT_new qT]
        · rw [List.map_append, eT, et]
          rfl
        · rcases List.mem_append.mp ht with ht | ht
          · obtain ⟨n1, n2⟩ := tT t ht
            exact ⟨n1, by rw [upd_ne n1]; exact x7' _ _ n2⟩
          · rw [List.mem_singleton.mp ht]
            exact ⟨nsf, by rw [upd_ne nsf]; exact d7⟩
    · rintro σ H4 ⟨⟨x4, x5, x6, x7, x8, x9, rfl⟩, b4, Tt, f4, eT, tT⟩
      rw [List.length_map, ← List.length_map (f := (·.2)), eL, ← List.length_reverse, List.take_length] at eT
      have ndT : (Tt.map (·.1)).Nodup := by
        rw [eT]
        exact List.pairwise_reverse.mpr ((eL ▸ Lnd : (partsS ys).Nodup).imp fun h => h.symm)
      have Ttl : Tt.length ≤ 64 := by
        have h1 := congrArg List.length eT
        rw [List.length_map, List.length_reverse, ← eL, List.length_map] at h1
        omega
      have nfo : ∀ {u o}, woA fo H3 u = some o → u ≠ fo := fun {u o} h e => by rw [e, woA_none] at h; cases h
      refine ⟨fo, .dT (kT Tt), f4, trivial, fun od => ?_⟩
      have locked : (upd H4 fo (.frz od (.dT (kT Tt)))) fo = some (.frz od (.dT (kT Tt))) := upd_same
      have bL : Evl.Ex (woA fo H3) (upd H4 fo (.frz od (.dT (kT Tt)))) := fun u o h => by rw [upd_ne (nfo h)]; exact b4 _ _ h
      have tTL : ∀ t ∈ Tt, (upd H4 fo (.frz od (.dT (kT Tt)))) t.2 = some (.dT (kB (safeA bk ys t.1))) := fun t ht => by rw [upd_ne (tT t ht).1]; exact (tT t ht).2
      generalize upd H4 fo (.frz od (.dT (kT Tt))) = HL at locked bL tTL
      refine ⟨.ref fo, rfl, fo, od, rfl, .inr ⟨kT Tt, locked, fun R hR => dcT_it walk_keysT
        (fun i H' => Evl.Ex HL H' ∧ ∃ T2 : List (List Str × Addr), H' R = some (.dT (kT T2)) ∧ T2.map (·.1) = (Tt.take i).map (·.1) ∧ ∀ t ∈ T2, ∃ L : List (Addr × List Str), H' t.2 = some (.lst (L.map fun q => V.ref q.1)) ∧ RowsT H' L ∧ L.map (·.2) = safeS bk ys t.1)
        ⟨Evl.Ex.new hR, [], upd_same, rfl, fun t ht => nomatch ht⟩ (fun i H' _ h => h.1 _ _ locked) ?_ ?_⟩⟩
      · rintro i x H5 H5' hi ⟨x5', T2, r5, eT2, tT2⟩ ⟨rfl, kk, v, qa, hkv, rfl, hqa⟩
        rw [kT_len] at hi
        obtain ⟨t, ht, ekk⟩ : ∃ t, Tt[i]? = some t ∧ kk = t.1.map Sum.inr := by
          unfold kT at hkv
          rw [List.getElem?_map] at hkv
          cases z : Tt[i]? with
          | none => rw [z] at hkv; cases hkv
          | some t =>
            rw [z] at hkv
            exact ⟨t, rfl, (congrArg Prod.fst (Option.some.inj hkv)).symm⟩
        subst ekk
        rw [keyS] at hqa
        have mt := List.mem_of_getElem? ht
        have ei : Tt.take (i + 1) = Tt.take i ++ [t] := by rw [List.take_add_one, ht]; rfl
        have gT := kT_get ndT mt
        have new : t.1 ∉ T2.map (·.1) := fun m => by
          rw [eT2] at m
          have h1 : ((Tt.take (i + 1)).map (·.1)).Nodup := ndT.sublist ((List.take_sublist _ _).map _)
          rw [ei, List.map_append] at h1
          exact (List.nodup_append.mp h1).2.2 _ m _ (List.mem_singleton.mpr rfl) rfl
        have T2l : T2.length ≤ 64 := by
          have h1 := congrArg List.length eT2
          rw [List.length_map, List.length_map, List.length_take] at h1
          omega
        refine ⟨rfl, yes_if ⟨.ref qa, rfl, .ref fo, rfl, .ref qa, rfl, fo, .ref t.2, rfl, .inr ⟨kT Tt, t.1.map Sum.inr, qa, .inr ⟨od, x5' _ _ locked⟩, rfl, by rw [keyS]; exact hqa, gT.symm⟩, t.2, _, safeA bk ys t.1, rfl, .inl (x5' _ _ (tTL t mt)), by unfold kB; rw [List.map_map]; rfl, fun p hp => safeA_head hp, fun ws lp hpm hsr tws hlp => ?_⟩⟩
        have y6 : Evl.Ex H5' (upd H5' lp (.lst (ws.map fun q => V.ref q.1))) := Evl.Ex.new hlp
        have l6' : (upd H5' lp (.lst (ws.map fun q => V.ref q.1))) lp = some (.lst (ws.map fun q => V.ref q.1)) := upd_same
        generalize upd H5' lp (.lst (ws.map fun q => V.ref q.1)) = H6 at y6 l6'
        have r6 := y6 _ _ r5
        refine ⟨_, t.1.map Sum.inr, qa, rfl, by rw [keyS]; exact y6 _ _ hqa, r6, by rw [kT_len]; exact small1000 (by omega), (x5'.trans y6).mut hR, T2 ++ [(t.1, lp)], by rw [upd_same, kT_new new], by rw [List.map_append, eT2, ei, List.map_append]; rfl, fun u hu => ?_⟩
        have keep : ∀ {L : List (Addr × List Str)} {a : Addr}, H6 a = some (.lst (L.map fun q => V.ref q.1)) → RowsT H6 L → (upd H6 R (.dT (putK (kT T2) (t.1.map Sum.inr) (.ref lp)))) a = some (.lst (L.map fun q => V.ref q.1)) ∧ RowsT (upd H6 R (.dT (putK (kT T2) (t.1.map Sum.inr) (.ref lp)))) L := fun {L a} h1 h2 =>
          ⟨by rw [upd_ne (ne_of h1 r6 (by intro z; cases z))]; exact h1, fun q hq => by rw [upd_ne (ne_of (h2 q hq) r6 (by intro z; cases z))]; exact h2 q hq⟩
        rcases List.mem_append.mp hu with hu | hu
        · obtain ⟨L', g1, g2, g3⟩ := tT2 u hu
          obtain ⟨k1, k2⟩ := keep (y6 _ _ g1) (g2.to y6)
          exact ⟨L', k1, k2, g3⟩
        · rw [List.mem_singleton.mp hu]
          obtain ⟨k1, k2⟩ := keep l6' (tws.to y6)
          exact ⟨ws, k1, k2, lexL_is hpm hsr⟩
      · rintro H5 ⟨x5', T2, r5, eT2, tT2⟩
        rw [kT_len, List.take_length, eT] at eT2
        have l5 := x5' _ _ locked
        refine ⟨l5, ?_⟩
        have back : Evl.Ex (woA fo H3) (upd H5 fo (.dT (kT Tt))) := fun u o h => by rw [upd_ne (nfo h)]; exact x5' _ _ (bL _ _ h)
        have nRf : R ≠ fo := fun e => by rw [e, locked] at hR; cases hR
        refine k R _ (fun u o h => nt_of ((base0.trans back) _ _ h) (nt_some h).2) (Tb.ext back) ?_ ⟨T2, by rw [upd_ne nRf]; exact r5, eT2, fun t ht => ?_⟩
        · have := ex_none (base0.trans bL) hR
          exact this
        · obtain ⟨L', g1, g2, g3⟩ := tT2 t ht
          exact ⟨L', by rw [upd_ne (ne_of g1 l5 (by intro z; cases z))]; exact g1, fun q hq => by rw [upd_ne (ne_of (g2 q hq) l5 (by intro z; cases z))]; exact g2 q hq, g3⟩
end
end Rw
end T_U2

section T_NT
set_option Elab.async false
set_option linter.all false
set_option maxRecDepth 100000
set_option maxHeartbeats 4000000
namespace Rw
open PySem L2 PyProof.Rows LamX
theorem NetAt.nt {C : Addr} {H : Hp} {m : Addr} {ends dots ss ps : List Str} {o n : Str → List (Str × V)} (h : NetAt C H m ends dots ss ps o n) : NetAt C (nt H) m ends dots ss ps o n := by
  obtain ⟨dx, T, N, S, P, rows, h1, h2, h3, h4, h5, h6, h7⟩ := h
  refine ⟨dx, T, N, S, P, rows, nt_of h1 (fun _ z => by cases z), nt_dK h2, nt_tup h3, nt_tup h4, nt_tup h5, h6, fun e he => ?_⟩
  obtain ⟨p, po, pn, hv, pa⟩ := h7 e he
  exact ⟨p, po, pn, hv, nt_tup pa.hp, nt_dK pa.ho, nt_dK pa.hn, pa.o1, pa.o2⟩
theorem SqS.nt {K : PySem.W.Frag} {H : Hp} {a : Addr} {zs : List Str} (h : SqS K H a zs) : SqS K (nt H) a zs := by
  rcases h with h | h
  · refine .inl ?_
    rcases h with (h | ⟨o, h⟩) | h
    · exact .inl (.inl (nt_lst h))
    · exact .inl (.inr ⟨o, nt_of h fun _ z => by cases z⟩)
    · exact .inr h
  · exact .inr (sqt_nt h)
theorem LotAt.nt {H : Hp} {a : Addr} {zs ys : List Str} (h : LotAt H a zs ys) : LotAt (nt H) a zs ys := ⟨nt_tup h.ha, h.sub, h.nd, h.so, h.nm, h.few⟩
theorem sql_nt {K : PySem.W.Frag} {H : Hp} {a : Addr} {xs : List V} (h : SqL K H a xs) : SqL K (nt H) a xs := by
  rcases h with (h | ⟨o, h⟩) | h
  · exact .inl (.inl (nt_lst h))
  · exact .inl (.inr ⟨o, nt_of h fun _ z => by cases z⟩)
  · exact .inr h
theorem codeO_lst {c : Addr} {q : Str} {xs : List V} (h : some (CodeO c q) = some (HO.lst xs)) : False := by
  unfold CodeO at h
  cases h
theorem nt_mut {H H3 : Hp} {D : Addr} {o : HO} (x : Evl.Ex (nt H) (nt H3)) (hD : H D = none) (n : ∀ ps, o ≠ .tbl ps) : Evl.Ex (nt H) (nt (upd H3 D o)) := fun p' o' h' => by
  have h1 := x _ _ h'
  have np : p' ≠ D := fun z => by rw [z] at h'; rw [nt_free hD] at h'; cases h'
  exact nt_of (by rw [upd_ne np]; exact (nt_some h1).1) (nt_some h1).2
theorem nt_mutL {H H3 : Hp} {D : Addr} {xs : List V} (x : Evl.Ex (nt H) (nt H3)) (hD : H D = none) : Evl.Ex (nt H) (nt (upd H3 D (.lst xs))) := nt_mut x hD fun _ z => by cases z
theorem tabs_mutL {T : List (Addr × Str)} {H3 : Hp} {D : Addr} {xs ys : List V} (T3 : Tabs T H3) (d3 : H3 D = some (.lst xs)) : Tabs T (upd H3 D (.lst ys)) := fun q hq => by
  obtain ⟨ts, t1, t2, t3⟩ := T3 q hq
  refine ⟨ts, by rw [upd_ne (fun z => by rw [z, d3] at t1; cases t1)]; exact t1, t2, fun pos cv hcv => ?_⟩
  obtain ⟨c', e1, e2⟩ := t3 pos cv hcv
  exact ⟨c', e1, by rw [upd_ne (fun z => by rw [z, d3] at e2; exact codeO_lst e2.symm)]; exact e2⟩
abbrev wishesL : List Str := ["home", "lost", "posts", "rings"]
theorem moving_sub {ends dots : List Str} {o n : Str → List (Str × V)} {z : Str} (h : z ∈ moving ends dots o n) : z ∈ dots := (List.mem_filter.mp h).1
theorem LotAt.l6 {H : Hp} {a : Addr} {zs ends dots : List Str} {o n : Str → List (Str × V)} (L : LotAt H a zs (moving ends dots o n)) (d6 : dots.length ≤ 6) : zs.length ≤ 6 :=
  Nat.le_trans (nodup_le zs dots L.nd fun z hz => moving_sub (L.sub z hz)) d6
end Rw
end T_NT

section T_XD
set_option Elab.async false
set_option linter.all false
set_option maxRecDepth 100000
set_option maxHeartbeats 8000000
namespace Rw
open PySem L2 PyProof.Rows
section
variable {P : Program} {w : World} {K : PySem.W.Frag} {mg : Str → Option Value} {base : Heap}
/-! ### the sorts of wishes, and some of them -/
def spSorts : Sp := fun vs H Q _ => vs = [] ∧ ∀ p, H p = none → Q (.ref p) (upd H p (.lst (wishesL.map V.str)))
theorem sc_sorts : FnScope [] [] (defScope s_sorts) := ⟨rfl, rfl, rfl, by decide +kernel, rfl, by decide +kernel, by decide +kernel⟩
theorem ok_sorts {f : Addr} {fd : FuncData} (F : Fun K "_law_sorts" "_law_sorts" s_sorts f fd) : FnOk P w K mg base CX0 1 f fd [] spSorts := by
  refine F.ok sc_sorts (fun vs H Q E h => ?_) (fun cdv A outer s H vs Q E hr h => ?_)
  · obtain ⟨rfl, _⟩ := h
    rfl
  · obtain ⟨rfl, k⟩ := h
    refine ⟨_, pss_one (ps_ret (pe_lst (pa_cons pe_str (pa_cons pe_str (pa_cons pe_str (pa_cons pe_str pa_nil)))))), ?_⟩
    exact ⟨by show 4 ≤ sizeLine; decide, fun p hp => k p hp⟩
def spWants : Sp := fun vs H Q _ => ∃ (d g c : Addr), vs = [.ref d] ∧ DrawAt H d g c ∧
  ∀ (p : Addr) (ws : List Str) (H' : Hp), ws.Nodup → (∀ x ∈ ws, x ∈ wishesL) → DrawAt H' d g c → Evl.Ex (off d g H) (off d g H') → off d g H' p = some (.lst (ws.map V.str)) → Q (.ref p) H'
theorem sc_wants : FnScope ["draw"] ["draw"] (defScope s_wants) := ⟨rfl, rfl, rfl, by decide +kernel, rfl, by decide +kernel, by decide +kernel⟩
theorem ok_wants {f : Addr} {fd : FuncData} (F : Fun K "_law_wants" "_law_wants" s_wants f fd) (CM : Cal P w K mg base 3 "_law_mixed" ["draw", "some"] (spMixed K)) (CP : Cal P w K mg base 3 "_law_pick" ["draw", "some"] (spPickL K)) (CS : Cal P w K mg base 1 "_law_sorts" [] spSorts) :
    FnOk P w K mg base CX0 4 f fd ["draw"] spWants := by
  obtain ⟨fM, fdM, M, kM, bM, gM⟩ := CM.ex
  obtain ⟨fP, fdP, PL, kP, bP, gP⟩ := CP.ex
  obtain ⟨fS, fdS, SO, kS, bS, gS⟩ := CS.ex
  refine F.ok sc_wants (fun vs H Q E h => ?_) (fun cdv A outer s H vs Q E hr h => ?_)
  · obtain ⟨d, g, c, rfl, _⟩ := h
    rfl
  · obtain ⟨d, g, c, rfl, D, k⟩ := h
    have nd := sc_wants.nd
    have r1 : Room 1 _ := hr.mono (by decide)
    refine ⟨_, pss_one (ps_ret (pe_slice sl_list (pe_call M hr rfl gM kM bM .nil pass0 (pa_cons (pv 0) (pa_cons (pe_call0 SO r1 rfl gS kS bS .nil pass0) pa_nil))) po_none
          (po_some (pe_call PL hr rfl gP kP bP .nil pass0 (pa_cons (pv 0) (pa_cons (pe_lst (pa_cons pe_int (pa_cons pe_int (pa_cons pe_int (pa_cons pe_int (pa_cons pe_int (pa_cons pe_int (pa_cons pe_int (pa_cons pe_int pa_nil))))))))) pa_nil)))))), ?_⟩
    refine ⟨.ref d, rfl, rfl, fun p1 hp1 => ?_⟩
    obtain ⟨D1, x1, s1, _, _⟩ := off_new (o := .lst (wishesL.map V.str)) D (Evl.Ex.refl _) hp1
    refine ⟨d, g, c, p1, wishesL.map V.str, rfl, D1, .inl (Evl.sq_of s1), by decide, fun v hv => ?_, fun ml ys H2 mperm D2 x2 _ hml => ?_⟩
    · obtain ⟨z, hz, rfl⟩ := List.mem_map.mp hv
      rcases List.mem_cons.mp hz with rfl | hz
      · exact strV_data (by decide +kernel)
      rcases List.mem_cons.mp hz with rfl | hz
      · exact strV_data (by decide +kernel)
      rcases List.mem_cons.mp hz with rfl | hz
      · exact strV_data (by decide +kernel)
      rcases List.mem_cons.mp hz with rfl | hz
      · exact strV_data (by decide +kernel)
      · cases hz
    obtain ⟨vs, rfl, hvs⟩ := perm_strs mperm
    refine ⟨.ref d, rfl, by show 8 ≤ sizeLine; decide, fun p5 hp5 => ?_⟩
    obtain ⟨DD, xD, sD, _, yD⟩ := off_new (o := .lst [.int 0, .int 1, .int 1, .int 1, .int 2, .int 2, .int 3, .int 4]) D2 (x1.trans x2) hp5
    generalize upd H2 p5 (.lst [.int 0, .int 1, .int 1, .int 1, .int 2, .int 2, .int 3, .int 4]) = HD at DD xD sD yD
    refine ⟨d, g, c, p5, _, rfl, DD, Evl.sq_of sD, by decide, by decide, fun i5 v5 HE hv5 DE xE => ?_⟩
    obtain ⟨t5, rfl⟩ : ∃ t5 : Nat, v5 = .int (t5 : Int) := by
      have hm := List.mem_of_getElem? hv5
      simp only [List.mem_cons, List.not_mem_nil, or_false] at hm
      rcases hm with rfl | rfl | rfl | rfl | rfl | rfl | rfl | rfl
      · exact ⟨0, rfl⟩
      · exact ⟨1, rfl⟩
      · exact ⟨1, rfl⟩
      · exact ⟨1, rfl⟩
      · exact ⟨2, rfl⟩
      · exact ⟨2, rfl⟩
      · exact ⟨3, rfl⟩
      · exact ⟨4, rfl⟩
    have ml5 := (yD.trans xE) _ _ hml
    refine ⟨_, rfl, ml, _, rfl, Evl.sq_of (off_some ml5).2.2, fun pb hpb => ?_⟩
    rw [cut_take, ← List.map_take]
    obtain ⟨DF, xF, sF, _, yF⟩ := off_new (o := .lst ((vs.take t5).map V.str)) DE (xD.trans xE) hpb
    have vnd : vs.Nodup := hvs.nodup_iff.mpr (by decide +kernel)
    exact k pb (vs.take t5) _ (vnd.sublist (List.take_sublist _ _)) (fun x hx => hvs.subset (List.mem_of_mem_take hx)) DF xF sF
end
end Rw
end T_XD

section T_LD
set_option Elab.async false
set_option linter.all false
set_option maxRecDepth 100000
set_option maxHeartbeats 16000000
namespace Rw
open PySem L2 PyProof.Rows
theorem kT_last {T : List (List Str × Addr)} {p : List Str} {a b : Addr} (h : p ∉ T.map (·.1)) : putK (kT (T ++ [(p, a)])) (p.map Sum.inr) (.ref b) = kT (T ++ [(p, b)]) := by
  unfold putK
  rw [if_pos (List.any_eq_true.mpr ⟨(p.map Sum.inr, .ref a), by unfold kT; rw [List.map_append]; exact List.mem_append_right _ List.mem_cons_self, decide_eq_true rfl⟩)]
  unfold kT
  rw [List.map_append, List.map_append, List.map_append, List.map_map]
  congr 1
  · refine List.map_congr_left fun t ht => ?_
    show (if t.1.map (Sum.inr : Str → Key) = p.map Sum.inr then _ else _) = _
    rw [if_neg (fun e => h (by rw [← inr_inj e]; exact List.mem_map_of_mem ht))]
  · show [if p.map (Sum.inr : Str → Key) = p.map Sum.inr then _ else _] = _
    rw [if_pos rfl]
    rfl
theorem kT_lastGet {T : List (List Str × Addr)} {p : List Str} {a : Addr} (h : p ∉ T.map (·.1)) : valV (kT (T ++ [(p, a)])) (p.map Sum.inr) = some (.ref a) := by
  induction T with
  | nil => exact valV_pos rfl
  | cons t T ih =>
    show valV ((t.1.map Sum.inr, V.ref t.2) :: kT (T ++ [(p, a)])) (p.map Sum.inr) = _
    rw [valV_neg (fun e => h (by rw [← inr_inj e]; exact List.mem_cons_self))]
    exact ih fun q => h (List.mem_cons_of_mem _ q)
section
variable {P : Program} {w : World} {K : PySem.W.Frag} {mg : Str → Option Value} {base : Heap}
/-! ### the wishes that are broken at all moments -/
def spBadL : Sp := fun vs H Q _ => ∃ (m tb db sb pb : Addr) (ends dots ss ps : List Str) (rows : List (Str × V)) (o n : Str → List (Str × V)), vs = [.ref m] ∧ ModelAt H m tb db sb pb ends dots ss ps rows ∧ RowsAt H ends dots rows o n ∧
  ∀ b H', Evl.Ex H H' → H b = none → BadAt (rest H H') b (bads ends dots ss ps o n) (partsS (moving ends dots o n)) → Q (.ref b) H'
abbrev nBadL : List Str := ["model", "found", "on", "sort", "some", "end", "dot"]
theorem sc_badL : FnScope nBadL ["model"] (defScope s_bad) := ⟨rfl, rfl, rfl, by decide +kernel, rfl, by decide +kernel, by decide +kernel⟩
theorem ok_badL {f : Addr} {fd : FuncData} (F : Fun K "_law_bad" "_law_bad" s_bad f fd) (C1 : Cal P w K mg base 1 "_law_moving_dots" ["model"] spMoves) (C2 : Cal P w K mg base 1 "_law_lots" ["some"] (spLots K)) (C3 : Cal P w K mg base 1 "_law_sorts" [] spSorts) (C4 : Cal P w K mg base 2 "_law_breaks" ["model", "end", "on", "sort", "dot"] spBreaksL)
    (mInt : mg "int" = none) : FnOk P w K mg base CX0 3 f fd ["model"] spBadL := by
  obtain ⟨f1, fd1, F1, k1, b1, g1⟩ := C1.ex
  obtain ⟨f2, fd2, F2, k2, b2, g2⟩ := C2.ex
  obtain ⟨f3, fd3, F3, k3, b3, g3⟩ := C3.ex
  obtain ⟨f4, fd4, F4, k4, b4, g4⟩ := C4.ex
  refine F.ok sc_badL (fun vs H Q E h => ?_) (fun cdv A outer s H vs Q E hr h => ?_)
  · obtain ⟨m, tb, db, sb, pb, ends, dots, ss, ps, rows, o, n, rfl, _⟩ := h
    rfl
  · obtain ⟨m, tb, db, sb, pb, ends, dots, ss, ps, rows, o, n, rfl, MA, ro, k⟩ := h
    have nd := sc_badL.nd
    have hu := hu_of hr
    have hr1 : Room 1 _ := hr.mono (by decide)
    refine ⟨_, PSs.nox (pss_cons (ps_set (i := 1) nd rfl (.inl rfl) pe_dnewT)
      (pss_cons (ps_for PassesOwn.never rfl (pi_list (pe_call F2 hr1 rfl g2 k2 b2 .nil pass0 (pa_cons (pe_call F1 hr1 rfl g1 k1 b1 .nil pass0 (pa_cons (pv 0) pa_nil)) pa_nil))) (pg_name (i := 2) nd rfl (.inr rfl))
        (pss_cons (ps_dput hu (pv 1) (pv 2) (pe_lst pa_nil) rfl)
        (pss_one (ps_for PassesOwn.never rfl (pi_list (pe_call0 F3 hr1 rfl g3 k3 b3 .nil pass0)) (pg_name (i := 3) nd rfl (.inr rfl))
          (pss_cons (ps_set (i := 4) nd rfl (.inl rfl) (pe_lst pa_nil))
          (pss_cons (ps_lock (ps_for PassesOwn.never rfl (pi_keys (pe_dget hu (pv 0) pe_str (fun _ _ => rfl))) (pg_name (i := 5) nd rfl (.inr rfl))
            (pss_one (ps_set (i := 4) nd rfl (.inl rfl) (pe_op op_cat (pv 4)
              (pe_lc (own := [("dot", 6)]) (g := gName 6) (tt := tB (tCall spBreaksL [] E0 (tCons (tVar 0) (tCons (tVar 5) (tCons (tVar 2) (tCons (tVar 3) (tCons (tVar 6) tNil))))))) (te := tVar 6) rfl nd (pi_list (pe_dget hu (pv 0) pe_str (fun _ _ => rfl))) (blkOk_by (own := [("dot", 6)]) (N := nBadL) (sc := defScope s_bad) (by decide +kernel))
                (fun _ _ _ _ _ => pg_name (i := 6) nd rfl (Or.inl rfl)) (fun _ _ _ _ _ => pts_one (pt_val (pe_call F4 hr rfl g4 k4 b4 .nil pass0 (pa_cons (pv 0) (pa_cons (pv 5) (pa_cons (pv 2) (pa_cons (pv 3) (pa_cons (pv 6) pa_nil)))))))) (fun _ _ _ _ _ => pv 6)))))))
          (pss_one (ps_dput hu (pv 1) (pv 2) (pe_op op_cat (pe_dget hu (pv 1) (pv 2) (fun _ _ => rfl)) (pe_op op_rep (pe_lst (pa_cons (pv 3) pa_nil)) (pe_callTy call_int1 (by rfl) mInt (by decide +kernel) (pa_cons (pe_cmpR (op_neD hr.units) (pv 4) (pe_lst pa_nil) (nomark _)) pa_nil)))) rfl))))))))
      (pss_one (ps_ret (pv 1))))), ?_⟩
    have ok := MA.ok
    have d6 := ok.d6
    have e2 := ok.e2
    have ml : (moving ends dots o n).length ≤ 6 := Nat.le_trans (List.length_filter_le _ _) d6
    have mnd : (moving ends dots o n).Nodup := ok.dn.sublist List.filter_sublist
    have mso : sortedS (moving ends dots o n) = true := sorted_sub List.filter_sublist ok.ds
    -- found
    intro fd0 hfd
    have x1 : Evl.Ex H (upd H fd0 (.dT [])) := Evl.Ex.new hfd
    have q1 : (upd H fd0 (.dT [])) fd0 = some (.dT (kT [])) := upd_same
    generalize upd H fd0 (.dT []) = H1 at x1 q1
    refine ⟨.ref m, rfl, m, tb, db, sb, pb, ends, dots, ss, ps, rows, o, n, rfl, MA.ex x1, ro.ex x1, fun ml0 H2 x2 hml0 hml => ?_⟩
    obtain ⟨mv, hmv⟩ : ∃ mv, mv = moving ends dots o n := ⟨_, rfl⟩
    rw [← hmv] at ml mnd mso k hml
    refine ⟨ml0, mv, rfl, .inl (Evl.sq_of hml), ml, fun pl H3 L js jp jso x3 hpl0 hpl tL eL => ?_⟩
    have ejs : js = mv := sorted_uniq jso mso jp
    subst ejs
    have x13 := x1.trans (x2.trans x3)
    have q3 := (x2.trans x3) _ _ q1
    have Lnd : (L.map (·.2)).Nodup := by rw [eL]; exact partsS_nodup mnd
    have Ll : L.length ≤ 64 := by
      have := partsS_len (zs := js) ml
      rw [← eL, List.length_map] at this
      exact this
    -- for on in ..
    refine ⟨pl, rfl, ⟨_, Evl.sq_of hpl⟩, for_list (K := K) (a := pl) (xs := L.map fun q => V.ref q.1)
      (fun i σ H' => ∃ (x2 x3 x4 x5 : Option V) (T : List (List Str × Addr)), σ = [some (.ref m), some (.ref fd0), x2, x3, x4, x5, none] ∧ Evl.Ex H H' ∧ H' pl = some (.lst (L.map fun q => V.ref q.1)) ∧ RowsT H' L ∧ H' fd0 = some (.dT (kT T)) ∧ T.map (·.1) = (L.take i).map (·.2) ∧ ∀ t ∈ T, H t.2 = none ∧ H' t.2 = some (.lst ((bads ends dots ss ps o n t.1).map V.str)))
      ⟨none, none, none, none, [], rfl, x13, hpl, tL, q3, rfl, fun t ht => nomatch ht⟩ (fun i σ H' _ ⟨_, _, _, _, _, _, _, h, _⟩ => Evl.sq_of h) ?_ ?_⟩
    · rintro i v σ H4 hi ⟨v2, v3, v4, v5, T, rfl, x4, p4, tL4, q4, eT, hT⟩
      obtain ⟨q, hq, rfl⟩ := rowsT_at hi
      have hil := (List.getElem?_eq_some_iff.mp hq).1
      have Tl : T.length ≤ 64 := by
        have := congrArg List.length eT
        rw [List.length_map, List.length_map, List.length_take] at this
        omega
      have new : q.2 ∉ T.map (·.1) := fun hm => by
        rw [eT] at hm
        have h1 : ((L.take (i + 1)).map (·.2)).Nodup := Lnd.sublist ((List.take_sublist _ _).map _)
        rw [List.take_add_one, hq, List.map_append] at h1
        exact (List.nodup_append.mp h1).2.2 q.2 hm q.2 (List.mem_singleton.mpr rfl) rfl
      have mq := List.mem_of_getElem? hq
      -- all but found
      have HB : Evl.Ex H (woA fd0 H4) := fun a u h => woA_some (x4 _ _ h) fun z => by rw [z, hfd] at h; cases h
      have nB : woA fd0 H4 fd0 = none := woA_none _ _
      have pB : woA fd0 H4 pl = some (.lst (L.map fun q => V.ref q.1)) := woA_some p4 (ne_of p4 q4 (by intro z; cases z))
      have tB' : RowsT (woA fd0 H4) L := fun r hr' => woA_some (tL4 r hr') (ne_of (tL4 r hr') q4 (by intro z; cases z))
      have TB : ∀ t ∈ T, H t.2 = none ∧ woA fd0 H4 t.2 = some (.lst ((bads ends dots ss ps o n t.1).map V.str)) := fun t ht => ⟨(hT t ht).1, woA_some (hT t ht).2 (ne_of (hT t ht).2 q4 (by intro z; cases z))⟩
      have exB : Evl.Ex (woA fd0 H4) H4 := woA_ex _ _
      generalize hBB : woA fd0 H4 = B at HB nB pB tB' TB exB
      -- found[on] = []
      refine ⟨Nat.zero_le _, fun l0 hl0 => ?_⟩
      have y5 : Evl.Ex H4 (upd H4 l0 (.lst [])) := Evl.Ex.new hl0
      have w5 : (upd H4 l0 (.lst [])) l0 = some (.lst (([] : List Str).map V.str)) := upd_same
      have q5 := y5 _ _ q4
      have Bl0 : B l0 = none := ex_none exB hl0
      generalize upd H4 l0 (.lst []) = H5 at y5 w5 q5
      have tq5 : H5 q.1 = some (.tup (q.2.map V.str)) := y5 _ _ (exB _ _ (tB' q mq))
      refine ⟨.ref fd0, rfl, .ref q.1, rfl, fd0, _, rfl, .inr ⟨kT T, q.2.map Sum.inr, q.1, q5, rfl, by rw [keyS]; exact tq5, by rw [kT_len]; exact small1000 (by omega), rfl⟩, ?_⟩
      rw [kT_new new]
      have z6 : Evl.Ex B (upd H5 fd0 (.dT (kT (T ++ [(q.2, l0)])))) := (exB.trans y5).mut nB
      have q6 : (upd H5 fd0 (.dT (kT (T ++ [(q.2, l0)])))) fd0 = some (.dT (kT (T ++ [(q.2, l0)]))) := upd_same
      have w6 : (upd H5 fd0 (.dT (kT (T ++ [(q.2, l0)])))) l0 = some (.lst (([] : List Str).map V.str)) := by rw [upd_ne (ne_of w5 q5 (by intro z; cases z))]; exact w5
      generalize upd H5 fd0 (.dT (kT (T ++ [(q.2, l0)]))) = H6 at z6 q6 w6
      -- for sort in ..
      refine ⟨rfl, fun wp hwp => ?_⟩
      have y7 : Evl.Ex H6 (upd H6 wp (.lst (wishesL.map V.str))) := Evl.Ex.new hwp
      have p7 : (upd H6 wp (.lst (wishesL.map V.str))) wp = some (.lst (wishes4.map V.str)) := upd_same
      generalize upd H6 wp (.lst (wishesL.map V.str)) = H7 at y7 p7
      have nwp : wp ≠ fd0 := ne_of p7 (y7 _ _ q6) (by intro z; cases z)
      refine ⟨wp, rfl, ⟨_, Evl.sq_of p7⟩, for_list (K := K) (a := wp) (xs := wishes4.map V.str)
        (fun j σ H' => ∃ (x3 x4 x5 : Option V) (la : Addr), σ = [some (.ref m), some (.ref fd0), some (.ref q.1), x3, x4, x5, none] ∧ Evl.Ex B H' ∧ H' wp = some (.lst (wishes4.map V.str)) ∧ B la = none ∧ H' la = some (.lst (((wishes4.take j).filter (badB ends dots ss ps o n q.2)).map V.str)) ∧ H' fd0 = some (.dT (kT (T ++ [(q.2, la)]))))
        ⟨v3, v4, v5, l0, rfl, z6.trans y7, p7, Bl0, y7 _ _ w6, y7 _ _ q6⟩ (fun j σ H' _ ⟨_, _, _, _, _, _, h, _⟩ => Evl.sq_of h) ?_ ?_⟩
      · rintro j v σ H8 hj ⟨u3, u4, u5, la, rfl, x8, p8, bla, l8, q8⟩
        obtain ⟨wd, hwd, rfl⟩ := str_at hj
        have hjl : j < 4 := (List.getElem?_eq_some_iff.mp hwd).1
        have mwd := List.mem_of_getElem? hwd
        -- some = []
        refine ⟨Nat.zero_le _, fun s0 hs0 => ?_⟩
        have y9 : Evl.Ex H8 (upd H8 s0 (.lst [])) := Evl.Ex.new hs0
        have s9 : (upd H8 s0 (.lst [])) s0 = some (.lst (([] : List Str).map V.str)) := upd_same
        generalize upd H8 s0 (.lst []) = H9 at y9 s9
        have x09 := HB.trans (x8.trans y9)
        have MA9 := MA.ex x09
        have ro9 := ro.ex x09
        have ht9 := MA9.ht
        refine ⟨tb, .dK (tkv rows), ht9, trivial, fun od => ?_⟩
        have locked : (upd H9 tb (.frz od (.dK (tkv rows)))) tb = some (.frz od (.dK (tkv rows))) := upd_same
        have MR := ModelW.lock MA9 ro9 od
        have back : ∀ {Hx : Hp}, Evl.Ex (upd H9 tb (.frz od (.dK (tkv rows)))) Hx → Evl.Ex H9 (upd Hx tb (.dK (tkv rows))) := fun {Hx} x => lock_back ht9 x
        have sL : (upd H9 tb (.frz od (.dK (tkv rows)))) s0 = some (.lst (([] : List Str).map V.str)) := model_up MA9 s9 (ne_of s9 ht9 (by intro z; cases z))
        have tq9 := (x8.trans y9) _ _ (tB' q mq)
        have tqL : (upd H9 tb (.frz od (.dK (tkv rows)))) q.1 = some (.tup (q.2.map V.str)) := model_up MA9 tq9 (ne_of tq9 ht9 (by intro z; cases z))
        generalize upd H9 tb (.frz od (.dK (tkv rows))) = HL at locked MR back sL tqL
        refine ⟨.ref m, rfl, m, .ref tb, rfl, dget_of MR.hm (mkv_tables _ _ _ _), tb, od, rfl, .inl ⟨_, locked, for_it walk_keys
          (fun l σ H' => ∃ (z5 : Option V) (sa : Addr) (ms : List Str), σ = [some (.ref m), some (.ref fd0), some (.ref q.1), some (.str wd), some (.ref sa), z5, none] ∧ Evl.Ex HL H' ∧ H' sa = some (.lst (ms.map V.str)) ∧ ms.length ≤ 6 * l ∧ (∀ z ∈ ms, Nm z) ∧ (ms ≠ [] ↔ ∃ e ∈ (rows.take l).map (·.1), ∃ z ∈ startsOf wd dots ss, brk dots ps o n wd q.2 e z = true))
          ⟨u5, s0, [], rfl, Evl.Ex.refl _, sL, Nat.zero_le _, (fun z hz => nomatch hz), ⟨fun z => absurd rfl z, fun ⟨_, he, _⟩ => nomatch he⟩⟩ (fun l σ H' _ ⟨_, _, _, _, h, _⟩ => h _ _ locked) ?_ ?_⟩⟩
        · rintro l x σ H10 H10' hl ⟨z5, sa, ms, rfl, x10, s10, msl, msn, msi⟩ ⟨rfl, kk, v, hkv, rfl⟩
          obtain ⟨r0, hr0, rfl⟩ : ∃ r, rows[l]? = some r ∧ kk = Sum.inr r.1 := by
            unfold tkv at hkv
            rw [List.getElem?_map] at hkv
            cases z : rows[l]? with
            | none => rw [z] at hkv; cases hkv
            | some r =>
              rw [z] at hkv
              exact ⟨r, rfl, (congrArg Prod.fst (Option.some.inj hkv)).symm⟩
          obtain ⟨e, ee⟩ : ∃ e, e = r0.1 := ⟨_, rfl⟩
          rw [← ee]
          have he : e ∈ ends := by rw [← MA.rk, ee]; exact List.mem_map_of_mem (List.mem_of_getElem? hr0)
          rw [tkv_len] at hl
          have rl2 : rows.length ≤ 2 := by
            have := congrArg List.length MA.rk
            rw [List.length_map] at this
            omega
          have MR10 := MR.to x10
          refine ⟨.ref sa, rfl, .ref m, rfl, m, _, rfl, dget_of MR10.hm (mkv_dots _ _ _ _), db, rfl, ⟨_, Evl.sq_of MR10.hd⟩, fun D hD => lc_list (K := K) (a := db) (xs := dots.map V.str)
            (fun j2 H' => Evl.Ex H10' H' ∧ H' D = some (.lst (((dots.take j2).filter fun z => decide (z ∈ startsOf wd dots ss) && brk dots ps o n wd q.2 e z).map V.str)))
            ⟨Evl.Ex.new hD, upd_same⟩ (fun j2 H' _ h => Evl.sq_of (h.1 _ _ MR10.hd)) ?_ ?_⟩
          · rintro j2 x H11 hj2 ⟨x11, d11⟩
            obtain ⟨z, hz, rfl⟩ := str_at hj2
            have zd := List.mem_of_getElem? hz
            refine ⟨rfl, .ref m, rfl, .str e, rfl, .ref q.1, rfl, .str wd, rfl, .str z, rfl, m, q.1, tb, db, sb, pb, e, wd, z, q.2, ends, dots, ss, ps, rows, o, n, rfl, MR10.to x11, (x10.trans x11) _ _ tqL, he, zd, mwd, fun H12 x12 => ⟨_, rfl, ?_⟩⟩
            have d12 := x12 _ _ d11
            have ez : dots.take (j2 + 1) = dots.take j2 ++ [z] := by rw [List.take_add_one, hz]; rfl
            have fl : ((dots.take j2).filter fun z => decide (z ∈ startsOf wd dots ss) && brk dots ps o n wd q.2 e z).length ≤ 100 := Nat.le_trans (List.length_filter_le _ _) (by rw [List.length_take]; omega)
            cases hb : (decide (z ∈ startsOf wd dots ss) && brk dots ps o n wd q.2 e z) with
            | true =>
              refine iteT ⟨.str z, rfl, _, d12, by rw [List.length_map]; exact small1000 (by omega), (x11.trans x12).mut hD, ?_⟩
              rw [upd_same, ez, List.filter_append, List.filter_cons_of_pos (p := fun z => decide (z ∈ startsOf wd dots ss) && brk dots ps o n wd q.2 e z) hb, List.filter_nil, List.map_append]
              rfl
            | false =>
              refine iteF ⟨x11.trans x12, ?_⟩
              rw [d12, ez, List.filter_append, List.filter_cons_of_neg (p := fun z => decide (z ∈ startsOf wd dots ss) && brk dots ps o n wd q.2 e z) (by rw [hb]; decide), List.filter_nil, List.append_nil]
          rintro H11 ⟨x11, d11⟩
          rw [List.length_map, List.take_length] at d11
          have fl6 : (dots.filter fun z => decide (z ∈ startsOf wd dots ss) && brk dots ps o n wd q.2 e z).length ≤ 6 := Nat.le_trans (List.length_filter_le _ _) d6
          refine ⟨sa, D, _, _, rfl, rfl, x11 _ _ s10, d11, Nat.le_of_lt (small1000 (by rw [List.length_map, List.length_map]; omega)), fun nw hnw => ?_⟩
          refine ⟨_, nw, ms ++ (dots.filter fun z => decide (z ∈ startsOf wd dots ss) && brk dots ps o n wd q.2 e z), rfl, (x10.trans x11).trans (Evl.Ex.new hnw), by rw [upd_same, List.map_append], by rw [List.length_append]; omega, fun z hz => ?_, ?_⟩
          · rcases List.mem_append.mp hz with hz | hz
            · exact msn z hz
            · exact ok.dm z (List.mem_filter.mp hz).1
          · have key : ((dots.filter fun z => decide (z ∈ startsOf wd dots ss) && brk dots ps o n wd q.2 e z) ≠ []) ↔ ∃ z ∈ startsOf wd dots ss, brk dots ps o n wd q.2 e z = true := by
              constructor
              · intro h
                obtain ⟨z, hz⟩ := List.exists_mem_of_ne_nil _ h
                have hz2 := (List.mem_filter.mp hz).2
                rw [Bool.and_eq_true, decide_eq_true_iff] at hz2
                exact ⟨z, hz2.1, hz2.2⟩
              · rintro ⟨z, hz, hb⟩
                have zd : z ∈ dots := by
                  unfold startsOf at hz
                  split at hz
                  · exact hz
                  · exact ok.sd z hz
                exact List.ne_nil_of_mem (List.mem_filter.mpr ⟨zd, by rw [decide_eq_true hz, hb]; rfl⟩)
            have app : ∀ a b : List Str, (a ++ b ≠ []) ↔ (a ≠ [] ∨ b ≠ []) := fun a b => by
              cases a <;> simp
            rw [app, msi, key, List.take_add_one, hr0, List.map_append]
            constructor
            · rintro (⟨e', h2, h3⟩ | h)
              · exact ⟨e', List.mem_append_left _ h2, h3⟩
              · exact ⟨e, List.mem_append_right _ (by rw [ee]; exact List.mem_cons_self), h⟩
            · rintro ⟨e', h2, h3⟩
              rcases List.mem_append.mp h2 with h2 | h2
              · exact .inl ⟨e', h2, h3⟩
              · have h2' : e' = e := by rw [ee]; exact List.mem_singleton.mp h2
                subst h2'
                exact .inr h3
        · rintro σ H10 ⟨z5, sa, ms, rfl, x10, s10, msl, msn, msi⟩
          rw [tkv_len, List.take_length] at msi
          rw [tkv_len] at msl
          have rl2 : rows.length ≤ 2 := by
            have := congrArg List.length MA.rk
            rw [List.length_map] at this
            omega
          refine ⟨x10 _ _ locked, ?_⟩
          have x11 := back x10
          have s11 : (upd H10 tb (.dK (tkv rows))) sa = some (.lst (ms.map V.str)) := by
            rw [upd_ne (ne_of s10 (x10 _ _ locked) (by intro z; cases z))]
            exact s10
          generalize upd H10 tb (.dK (tkv rows)) = H11 at x11 s11
          have x811 := y9.trans x11
          have q11 := x811 _ _ q8
          have l11 := x811 _ _ l8
          have tq11 := (x8.trans x811) _ _ (tB' q mq)
          have hb : ms ≠ [] ↔ badB ends dots ss ps o n q.2 wd = true := by
            rw [msi, badB_mem, MA.rk]
          -- found[on] + [sort] * int(some != [])
          refine ⟨.ref fd0, rfl, .ref q.1, rfl, fd0, .ref la, rfl, .inr ⟨kT (T ++ [(q.2, la)]), q.2.map Sum.inr, q.1, .inl q11, rfl, by rw [keyS]; exact tq11, (kT_lastGet new).symm⟩, .str wd, rfl, by show 1 ≤ sizeLine; decide, fun o1 ho1 => ?_⟩
          have y12 : Evl.Ex H11 (upd H11 o1 (.lst [.str wd])) := Evl.Ex.new ho1
          have o12 : (upd H11 o1 (.lst [.str wd])) o1 = some (.lst [.str wd]) := upd_same
          generalize upd H11 o1 (.lst [.str wd]) = H12 at y12 o12
          refine ⟨.ref sa, rfl, Nat.zero_le _, fun e1 he1 => ?_⟩
          have y13 : Evl.Ex H12 (upd H12 e1 (.lst [])) := Evl.Ex.new he1
          obtain ⟨dd, g1, g2, g3⟩ := data_list (K := K) (Evl.sq_of ((y12.trans y13) _ _ s11)) fun v hv => by
            obtain ⟨z, hz, rfl⟩ := List.mem_map.mp hv
            exact nm_data (msn z hz)
          refine ⟨dd, .list [], g1, .lst (Evl.sq_of upd_same) .nil, g2, by rfl, .inr ⟨_, rfl, ?_⟩⟩
          rw [g3]
          have y1213 := y12.trans y13
          have o13 := y13 _ _ o12
          generalize upd H12 e1 (.lst []) = H13 at y1213 o13
          have eb : (!(ms.map V.str).isEmpty) = badB ends dots ss ps o n q.2 wd := by
            rw [Bool.eq_iff_iff, ← hb]
            cases ms <;> simp
          rw [eb]
          refine ⟨o1, _, _, rfl, rfl, o13, ?_, ?_, ?_, fun r1 hr1' => ?_⟩
          · cases badB ends dots ss ps o n q.2 wd <;> decide
          · cases badB ends dots ss ps o n q.2 wd <;> decide
          · cases badB ends dots ss ps o n q.2 wd
            · show 1 * 0 ≤ sizeLine
              decide
            · show 1 * 1 ≤ sizeLine
              decide
          have er : (List.replicate (if badB ends dots ss ps o n q.2 wd = true then (1 : Int) else 0).toNat [V.str wd]).flatten = (([wd].filter (badB ends dots ss ps o n q.2)).map V.str) := by
            cases hbb : badB ends dots ss ps o n q.2 wd with
            | true =>
              rw [List.filter_cons_of_pos hbb]
              rfl
            | false =>
              rw [List.filter_cons_of_neg (by rw [hbb]; decide)]
              rfl
          rw [er]
          have y14 : Evl.Ex H13 (upd H13 r1 (.lst (([wd].filter (badB ends dots ss ps o n q.2)).map V.str))) := Evl.Ex.new hr1'
          have r14 : (upd H13 r1 (.lst (([wd].filter (badB ends dots ss ps o n q.2)).map V.str))) r1 = some (.lst (([wd].filter (badB ends dots ss ps o n q.2)).map V.str)) := upd_same
          generalize upd H13 r1 (.lst (([wd].filter (badB ends dots ss ps o n q.2)).map V.str)) = H14 at y14 r14
          have y1114 := y1213.trans y14
          have f1l : ((wishes4.take j).filter (badB ends dots ss ps o n q.2)).length ≤ 4 := Nat.le_trans (List.length_filter_le _ _) (by rw [List.length_take]; omega)
          have f2l : ([wd].filter (badB ends dots ss ps o n q.2)).length ≤ 1 := List.length_filter_le _ _
          refine ⟨la, r1, _, _, rfl, rfl, y1114 _ _ l11, r14, Nat.le_of_lt (small1000 (by rw [List.length_map, List.length_map]; omega)), fun nw hnw => ?_⟩
          have el : ((wishes4.take j).filter (badB ends dots ss ps o n q.2)).map V.str ++ ([wd].filter (badB ends dots ss ps o n q.2)).map V.str = ((wishes4.take (j + 1)).filter (badB ends dots ss ps o n q.2)).map V.str := by
            rw [List.take_add_one, hwd, List.filter_append, List.map_append]
            rfl
          rw [el]
          have y15 : Evl.Ex H14 (upd H14 nw (.lst (((wishes4.take (j + 1)).filter (badB ends dots ss ps o n q.2)).map V.str))) := Evl.Ex.new hnw
          have n15 : (upd H14 nw (.lst (((wishes4.take (j + 1)).filter (badB ends dots ss ps o n q.2)).map V.str))) nw = some (.lst (((wishes4.take (j + 1)).filter (badB ends dots ss ps o n q.2)).map V.str)) := upd_same
          have x814 := x811.trans y1114
          have Bnw : B nw = none := ex_none (x8.trans x814) hnw
          generalize upd H14 nw (.lst (((wishes4.take (j + 1)).filter (badB ends dots ss ps o n q.2)).map V.str)) = H15 at y15 n15
          have x815 := x814.trans y15
          have q15 := x815 _ _ q8
          refine ⟨.ref fd0, rfl, .ref q.1, rfl, fd0, _, rfl, .inr ⟨kT (T ++ [(q.2, la)]), q.2.map Sum.inr, q.1, q15, rfl, by rw [keyS]; exact (x8.trans x815) _ _ (tB' q mq), by rw [kT_len, List.length_append]; exact small1000 (by simp only [List.length_singleton]; omega), rfl⟩, ?_⟩
          rw [kT_last new]
          refine ⟨_, _, _, nw, rfl, (x8.trans x815).mut nB, ?_, Bnw, ?_, upd_same⟩
          · rw [upd_ne nwp]
            exact x815 _ _ p8
          · rw [upd_ne (ne_of n15 q15 (by intro z; cases z))]
            exact n15
      · rintro σ H8 ⟨u3, u4, u5, la, rfl, x8, p8, bla, l8, q8⟩
        have et : L.take (i + 1) = L.take i ++ [q] := by rw [List.take_add_one, hq]; rfl
        refine ⟨_, _, _, _, T ++ [(q.2, la)], rfl, HB.trans x8, x8 _ _ pB, tB'.to x8, q8, ?_, fun t ht => ?_⟩
        · rw [List.map_append, eT, et, List.map_append]
          rfl
        · rcases List.mem_append.mp ht with ht | ht
          · exact ⟨(TB t ht).1, x8 _ _ (TB t ht).2⟩
          · rw [List.mem_singleton.mp ht]
            refine ⟨ex_none HB bla, ?_⟩
            rw [List.length_map, List.take_length] at l8
            exact l8
    · rintro σ H4 ⟨v2, v3, v4, v5, T, rfl, x4, p4, tL4, q4, eT, hT⟩
      rw [List.length_map, List.take_length, eL] at eT
      exact ⟨.ref fd0, rfl, k fd0 H4 x4 hfd ⟨T, rest_of hfd q4, eT, fun t ht => rest_of (hT t ht).1 (hT t ht).2⟩⟩
end
end Rw
end T_LD

section T_U3
set_option Elab.async false
set_option linter.all false
set_option maxRecDepth 100000
set_option maxHeartbeats 16000000
namespace Rw
open PySem L2 PyProof.Rows LamX
/-! ### rounds of any kind: a dict from all lots to lists of rounds -/
structure SafeR (H : Hp) (p : Addr) (R : List Str → List (List Str)) (ys : List Str) : Prop where
  ex : ∃ T : List (List Str × Addr), H p = some (.dT (kT T)) ∧ T.map (·.1) = (partsS ys).reverse ∧ ∀ t ∈ T, ∃ L : List (Addr × List Str), H t.2 = some (.lst (L.map fun q => V.ref q.1)) ∧ RowsT H L ∧ L.map (·.2) = R t.1
  sub : ∀ d p, p ∈ R d → p.Sublist (restOf d ys)
  few : ∀ d, (R d).length ≤ 64
theorem SafeR.to {H H' : Hp} {p : Addr} {R : List Str → List (List Str)} {ys : List Str} (h : SafeR H p R ys) (x : Evl.Ex H H') : SafeR H' p R ys := by
  obtain ⟨⟨T, h1, h2, h3⟩, h4, h5⟩ := h
  refine ⟨⟨T, x _ _ h1, h2, fun t ht => ?_⟩, h4, h5⟩
  obtain ⟨L, g1, g2, g3⟩ := h3 t ht
  exact ⟨L, x _ _ g1, g2.to x, g3⟩
theorem SafeR.nt {H : Hp} {p : Addr} {R : List Str → List (List Str)} {ys : List Str} (h : SafeR H p R ys) : SafeR (nt H) p R ys := by
  obtain ⟨⟨T, h1, h2, h3⟩, h4, h5⟩ := h
  refine ⟨⟨T, nt_of h1 (fun _ z => by cases z), h2, fun t ht => ?_⟩, h4, h5⟩
  obtain ⟨L, g1, g2, g3⟩ := h3 t ht
  exact ⟨L, nt_lst g1, g2.nt, g3⟩
theorem safeS_few {brk : List Str → Bool} {ys d : List Str} (l6 : ys.length ≤ 6) : (safeS brk ys d).length ≤ 64 := by
  unfold safeS
  rw [(lexL_perm _).length_eq]
  exact safeM_len (Nat.le_trans (restOf_len _ _) l6)
theorem SafeD.r {H : Hp} {p : Addr} {brk : List Str → Bool} {ys : List Str} (h : SafeD H p brk ys) (l6 : ys.length ≤ 6) : SafeR H p (safeS brk ys) ys := by
  obtain ⟨T, h1, h2, h3⟩ := h
  exact ⟨⟨T, h1, h2, h3⟩, fun d p hp => (safeS_mem.mp hp).1, fun d => safeS_few l6⟩
/-! ### dicts from tuples of names to numbers -/
def kI (T : List (List Str × Nat)) : List (List Key × V) := T.map fun t => (t.1.map Sum.inr, .int (t.2 : Int))
theorem kI_none {T : List (List Str × Nat)} {p : List Str} (h : p ∉ T.map (·.1)) : valV (kI T) (p.map Sum.inr) = none := by
  induction T with
  | nil => rfl
  | cons t T ih =>
    show valV ((t.1.map Sum.inr, V.int (t.2 : Int)) :: kI T) (p.map Sum.inr) = none
    rw [valV_neg (fun e => h (by rw [← inr_inj e]; exact List.mem_cons_self))]
    exact ih fun q => h (List.mem_cons_of_mem _ q)
theorem kI_get {T : List (List Str × Nat)} {t : List Str × Nat} (nd : (T.map (·.1)).Nodup) (h : t ∈ T) : valV (kI T) (t.1.map Sum.inr) = some (.int (t.2 : Int)) := by
  induction T with
  | nil => cases h
  | cons u T ih =>
    show valV ((u.1.map Sum.inr, V.int (u.2 : Int)) :: kI T) (t.1.map Sum.inr) = _
    rcases List.mem_cons.mp h with rfl | h
    · exact valV_pos rfl
    · have nd' := List.nodup_cons.mp nd
      rw [valV_neg (fun e => nd'.1 (show u.1 ∈ T.map (·.1) by rw [inr_inj e]; exact List.mem_map_of_mem h))]
      exact ih nd'.2 h
theorem kI_has {T : List (List Str × Nat)} (nd : (T.map (·.1)).Nodup) (p : List Str) : (valV (kI T) (p.map Sum.inr)).isSome = decide (p ∈ T.map (·.1)) := by
  by_cases m : p ∈ T.map (·.1)
  · obtain ⟨t, h1, rfl⟩ := List.mem_map.mp m
    rw [kI_get nd h1, decide_eq_true m]
    rfl
  · rw [kI_none m, decide_eq_false m]
    rfl
theorem kI_new {T : List (List Str × Nat)} {p : List Str} {n : Nat} (h : p ∉ T.map (·.1)) : putK (kI T) (p.map Sum.inr) (.int (n : Int)) = kI (T ++ [(p, n)]) := by
  rw [putK_new _ (kI_none h)]
  unfold kI
  rw [List.map_append]
  rfl
theorem kI_len (T : List (List Str × Nat)) : (kI T).length = T.length := by unfold kI; rw [List.length_map]
/-! ### lots that safe rounds lead to -/
inductive Rch (RR : List Str → List (List Str)) (ys : List Str) : Nat → List Str → Prop
  | zero : Rch RR ys 0 []
  | step {k : Nat} {d p : List Str} : Rch RR ys k d → p ∈ RR d → Rch RR ys (k + 1) (mixS ys d p)
theorem Rch.sub {RR : List Str → List (List Str)} {ys : List Str} {k : Nat} {d : List Str} (h : Rch RR ys k d) : d.Sublist ys := by
  cases h with
  | zero => exact List.nil_sublist _
  | step _ _ => exact mixS_sub _ _ _
/-- so few rounds, and no fewer -/
def Few (RR : List Str → List (List Str)) (ys : List Str) (k : Nat) (d : List Str) : Prop := Rch RR ys k d ∧ ∀ j, j < k → ¬ Rch RR ys j d
theorem few_of {RR : List Str → List (List Str)} {ys : List Str} : ∀ {k : Nat} {d : List Str}, Rch RR ys k d → ∃ j, j ≤ k ∧ Few RR ys j d := by
  intro k
  induction k using Nat.strongRecOn with
  | ind k ih =>
    intro d h
    by_cases c : ∃ j, j < k ∧ Rch RR ys j d
    · obtain ⟨j, h1, h2⟩ := c
      obtain ⟨i, h3, h4⟩ := ih j h1 h2
      exact ⟨i, by omega, h4⟩
    · exact ⟨k, Nat.le_refl _, h, fun j hj q => c ⟨j, hj, q⟩⟩
theorem few_uniq {RR : List Str → List (List Str)} {ys : List Str} {k j : Nat} {d : List Str} (h1 : Few RR ys k d) (h2 : Few RR ys j d) : k = j := by
  rcases Nat.lt_trichotomy k j with l | l | l
  · exact absurd h1.1 (h2.2 k l)
  · exact l
  · exact absurd h2.1 (h1.2 j l)
theorem few_below {RR : List Str → List (List Str)} {ys : List Str} {k : Nat} {d : List Str} (h : Few RR ys (k + 1) d) : ∃ d' p, Few RR ys k d' ∧ p ∈ RR d' ∧ d = mixS ys d' p := by
  obtain ⟨h1, h2⟩ := h
  generalize e : k + 1 = m at h1
  cases h1 with
  | zero => omega
  | @step k' d' p h3 h4 =>
    have ek : k' = k := by omega
    subst ek
    exact ⟨d', p, ⟨h3, fun j hj q => h2 (j + 1) (by omega) (q.step h4)⟩, h4, rfl⟩
theorem few_all {RR : List Str → List (List Str)} {ys : List Str} {n : Nat} : ∀ (m : Nat) {d : List Str}, Few RR ys (n + m) d → ∃ d', Few RR ys n d'
  | 0, d, h => ⟨d, h⟩
  | m + 1, d, h => by
    obtain ⟨d', _, h1, _⟩ := few_below (k := n + m) h
    exact few_all m h1
theorem few_zero {RR : List Str → List (List Str)} {ys : List Str} {d : List Str} : Few RR ys 0 d ↔ d = [] := by
  constructor
  · rintro ⟨h, _⟩
    generalize e : (0 : Nat) = m at h
    cases h with
    | zero => rfl
    | step _ _ => omega
  · rintro rfl
    exact ⟨.zero, fun j hj => absurd hj (Nat.not_lt_zero _)⟩
/-- all lots that safe rounds lead to, with their numbers -/
structure NumsOk (RR : List Str → List (List Str)) (ys : List Str) (N : List (List Str × Nat)) : Prop where
  hd : N.head? = some ([], 0)
  nd : (N.map (·.1)).Nodup
  iff : ∀ d k, (d, k) ∈ N ↔ Few RR ys k d
/-- as far as level n -/
structure Upto (RR : List Str → List (List Str)) (ys : List Str) (n : Nat) (N : List (List Str × Nat)) : Prop where
  hd : N.head? = some ([], 0)
  nd : (N.map (·.1)).Nodup
  iff : ∀ d k, (d, k) ∈ N ↔ Few RR ys k d ∧ k ≤ n
theorem Upto.len {RR : List Str → List (List Str)} {ys : List Str} {n : Nat} {N : List (List Str × Nat)} (h : Upto RR ys n N) (l6 : ys.length ≤ 6) : N.length ≤ 64 := by
  have h1 : (N.map (·.1)).length ≤ (partsS ys).length := nodup_le _ _ h.nd fun d hd => by
    obtain ⟨t, ht, rfl⟩ := List.mem_map.mp hd
    exact partsS_has ((h.iff t.1 t.2).mp ht).1.1.sub
  rw [List.length_map] at h1
  exact Nat.le_trans h1 (partsS_len l6)
theorem Upto.done {RR : List Str → List (List Str)} {ys : List Str} {n : Nat} {N : List (List Str × Nat)} (h : Upto RR ys n N) (no : ∀ d, ¬ Few RR ys n d) : NumsOk RR ys N := by
  refine ⟨h.hd, h.nd, fun d k => ⟨fun m => ((h.iff d k).mp m).1, fun m => (h.iff d k).mpr ⟨m, ?_⟩⟩⟩
  rcases Nat.lt_or_ge n k with l | l
  · exfalso
    obtain ⟨d', q⟩ := few_all (n := n) (k - n) (d := d) (by rw [show n + (k - n) = k by omega]; exact m)
    exact no d' q
  · exact l
/-- while a level is walked: the new lots -/
structure Lvl (RR : List Str → List (List Str)) (ys : List Str) (n : Nat) (N : List (List Str × Nat)) (V : List (List Str)) : Prop where
  nd : V.Nodup
  new : ∀ b ∈ V, Rch RR ys (n + 1) b ∧ b ∉ N.map (·.1)
theorem lvl_keys {N : List (List Str × Nat)} {V : List (List Str)} {n : Nat} : (N ++ V.map fun b => (b, n + 1)).map (·.1) = N.map (·.1) ++ V := by
  rw [List.map_append, List.map_map]
  congr 1
  exact List.map_id' V
theorem Lvl.nodup {RR : List Str → List (List Str)} {ys : List Str} {n : Nat} {N : List (List Str × Nat)} {V : List (List Str)} (h : Lvl RR ys n N V) (u : Upto RR ys n N) : ((N ++ V.map fun b => (b, n + 1)).map (·.1)).Nodup := by
  rw [lvl_keys, List.nodup_append]
  exact ⟨u.nd, h.nd, fun a ha b hb e => (h.new b hb).2 (e ▸ ha)⟩
theorem Lvl.few {RR : List Str → List (List Str)} {ys : List Str} {n : Nat} {N : List (List Str × Nat)} {V : List (List Str)} (h : Lvl RR ys n N V) (u : Upto RR ys n N) {b : List Str} (hb : b ∈ V) : Few RR ys (n + 1) b := by
  obtain ⟨h1, h2⟩ := h.new b hb
  refine ⟨h1, fun j hj q => h2 ?_⟩
  obtain ⟨i, h3, h4⟩ := few_of q
  exact List.mem_map.mpr ⟨(b, i), (u.iff b i).mpr ⟨h4, by omega⟩, rfl⟩
theorem Lvl.next {RR : List Str → List (List Str)} {ys : List Str} {n : Nat} {N : List (List Str × Nat)} {V : List (List Str)} (h : Lvl RR ys n N V) (u : Upto RR ys n N) (all : ∀ d, Few RR ys n d → ∀ p ∈ RR d, mixS ys d p ∈ N.map (·.1) ∨ mixS ys d p ∈ V) :
    Upto RR ys (n + 1) (N ++ V.map fun b => (b, n + 1)) ∧ ∀ b, b ∈ V ↔ Few RR ys (n + 1) b := by
  have iff : ∀ b, b ∈ V ↔ Few RR ys (n + 1) b := fun b => ⟨h.few u, fun q => by
    obtain ⟨d, p, h1, h2, rfl⟩ := few_below q
    rcases all d h1 p h2 with m | m
    · exfalso
      obtain ⟨t, ht, e⟩ := List.mem_map.mp m
      obtain ⟨h3, h4⟩ := (u.iff t.1 t.2).mp ht
      rw [e] at h3
      have := few_uniq h3 q
      omega
    · exact m⟩
  refine ⟨⟨by rw [List.head?_append, u.hd]; rfl, h.nodup u, fun d k => ?_⟩, iff⟩
  rw [List.mem_append, u.iff]
  constructor
  · rintro (⟨h1, h2⟩ | m)
    · exact ⟨h1, by omega⟩
    · obtain ⟨b, hb, e⟩ := List.mem_map.mp m
      cases e
      exact ⟨(iff _).mp hb, Nat.le_refl _⟩
  · rintro ⟨h1, h2⟩
    by_cases l : k ≤ n
    · exact .inl ⟨h1, l⟩
    · have ek : k = n + 1 := by omega
      subst ek
      exact .inr (List.mem_map.mpr ⟨d, (iff d).mpr h1, rfl⟩)
theorem SafeR.get {H : Hp} {p : Addr} {RR : List Str → List (List Str)} {ys d : List Str} (h : SafeR H p RR ys) (nd : ys.Nodup) (hd : d.Sublist ys) : ∃ (T : List (List Str × Addr)) (a : Addr) (L : List (Addr × List Str)), H p = some (.dT (kT T)) ∧ valV (kT T) (d.map Sum.inr) = some (.ref a) ∧ H a = some (.lst (L.map fun q => V.ref q.1)) ∧ RowsT H L ∧ L.map (·.2) = RR d := by
  obtain ⟨⟨T, h1, h2, h3⟩, _, _⟩ := h
  have m : d ∈ T.map (·.1) := by rw [h2]; exact List.mem_reverse.mpr (partsS_has hd)
  have ndT : (T.map (·.1)).Nodup := by rw [h2]; exact List.pairwise_reverse.mpr ((partsS_nodup nd).imp fun h => h.symm)
  obtain ⟨t, ht, rfl⟩ := List.mem_map.mp m
  obtain ⟨L, g1, g2, g3⟩ := h3 t ht
  exact ⟨T, t.2, L, h1, kT_get ndT ht, g1, g2, g3⟩
end Rw
end T_U3

section T_U4
set_option Elab.async false
set_option linter.all false
set_option maxRecDepth 100000
set_option maxHeartbeats 16000000
namespace Rw
open PySem L2 PyProof.Rows LamX
section
variable {P : Program} {w : World} {K : PySem.W.Frag} {mg : Str → Option Value} {base : Heap}
def spNums : Sp := fun vs H Q _ => ∃ (sp : Addr) (RR : List Str → List (List Str)) (ys : List Str), vs = [.ref sp] ∧ SafeR H sp RR ys ∧ ys.length ≤ 6 ∧ ys.Nodup ∧ sortedS ys = true ∧
  ∀ (D : Addr) (H' : Hp) (N : List (List Str × Nat)), Evl.Ex H H' → H D = none → H' D = some (.dT (kI N)) → NumsOk RR ys N → N.length ≤ 64 → Q (.ref D) H'
abbrev nNums : List Str := ["safe", "found", "newest", "later", "done", "behind", "lot"]
theorem sc_nums : FnScope nNums ["safe"] (defScope p_round_numbers) := ⟨rfl, rfl, rfl, by decide +kernel, rfl, by decide +kernel, by decide +kernel⟩
theorem ok_nums {f : Addr} {fd : FuncData} (F : Fun K "round_numbers" "round_numbers" p_round_numbers f fd) (C2 : Cal P w K mg base 1 "joined" ["lot", "other"] (spJoined (K := K))) : FnOk P w K mg base CX0 2 f fd ["safe"] spNums := by
  obtain ⟨f2, fd2, F2, k2, b2, g2⟩ := C2.ex
  refine F.ok sc_nums (fun vs H Q E h => ?_) (fun cdv A outer s H vs Q E hr h => ?_)
  · obtain ⟨sp, RR, ys, rfl, _⟩ := h
    rfl
  · obtain ⟨sp, RR, ys, rfl, S, l6, nd, so, k⟩ := h
    have ndN := sc_nums.nd
    have hu := hu_of hr
    refine ⟨_, pss_cons (ps_set (i := 1) ndN rfl (.inl rfl) (pe_dispT hu (pe_tup pa_nil) pe_int))
      (pss_cons (ps_set (i := 2) ndN rfl (.inl rfl) (pe_lst (pa_cons (pe_tup pa_nil) pa_nil)))
      (pss_cons (ps_while PassesOwn.never (pt_truth (pv 2) (fun _ => rfl))
        (pss_cons (ps_set (i := 3) ndN rfl (.inl rfl) (pe_lst pa_nil))
        (pss_cons (ps_for PassesOwn.never rfl (pi_list (pv 2)) (pg_name (i := 4) ndN rfl (.inr rfl))
          (pss_one (ps_for PassesOwn.never rfl (pi_list (pe_lc (own := [("lot", 6)]) (g := gName 6) (tt := tYes) (te := tCall (spJoined (K := K)) [] E0 (tCons (tVar 4) (tCons (tVar 6) tNil))) rfl ndN (pi_list (pe_dget hu (pv 0) (pv 4) (fun _ _ => rfl))) (blkOk_by (own := [("lot", 6)]) (N := nNums) (sc := defScope p_round_numbers) (by decide +kernel))
              (fun _ _ _ _ _ => pg_name (i := 6) ndN rfl (Or.inl rfl)) (fun _ _ _ _ _ => pts_nil) (fun _ _ _ _ _ => pe_call F2 hr rfl g2 k2 b2 .nil pass0 (pa_cons (pv 4) (pa_cons (pv 6) pa_nil))))) (pg_name (i := 5) ndN rfl (.inl rfl))
            (pss_one (ps_if (pt_cmp (pc_dnotin hu (pv 5) (pv 1)) rfl)
              (pss_cons (ps_dput hu (pv 1) (pv 5) (pe_op op_add (pe_dget hu (pv 1) (pv 4) (fun _ _ => rfl)) pe_int) rfl)
              (pss_one (ps_expr (pe_bm PySem.F.plainAttrs_list PySem.F.slot_list_append PySem.F.type_list_append mt_append (pv 3) (pa_cons (pv 5) pa_nil))))) pss_nil)))))
        (pss_one (ps_set (i := 2) ndN rfl (.inl rfl) (pv 3))))))
      (pss_one (ps_ret (pv 1))))), ?_⟩
    -- found = {(): 0}
    refine fun fo hfo => ⟨by show 0 ≤ sizeLine; decide, fun e0 he0 => ?_⟩
    have ne0 : e0 ≠ fo := fun e => by rw [e, upd_same] at he0; cases he0
    refine ⟨by rw [upd_ne ne0.symm]; exact upd_same, e0, [], rfl, upd_same, ?_⟩
    have x1 : Evl.Ex H (upd (upd (upd H fo (.dT [])) e0 (.tup [])) fo (.dT [([], .int 0)])) := ((Evl.Ex.new hfo).trans (Evl.Ex.new he0)).mut hfo
    have f1 : (upd (upd (upd H fo (.dT [])) e0 (.tup [])) fo (.dT [([], .int 0)])) fo = some (.dT (kI [([], 0)])) := upd_same
    generalize upd (upd (upd H fo (.dT [])) e0 (.tup [])) fo (.dT [([], .int 0)]) = H1 at x1 f1
    -- newest = [()]
    refine ⟨by show 0 ≤ sizeLine; decide, fun e1 he1 => ⟨by show 1 ≤ sizeLine; decide, fun w0 hw0 => ?_⟩⟩
    have y1 : Evl.Ex H1 (upd (upd H1 e1 (.tup [])) w0 (.lst [.ref e1])) := (Evl.Ex.new he1).trans (Evl.Ex.new hw0)
    have w1 : (upd (upd H1 e1 (.tup [])) w0 (.lst [.ref e1])) w0 = some (.lst ([(e1, ([] : List Str))].map fun q => V.ref q.1)) := upd_same
    have t1 : RowsT (upd (upd H1 e1 (.tup [])) w0 (.lst [.ref e1])) [(e1, [])] := fun q hq => by
      rw [List.mem_singleton.mp hq, upd_ne (ne_of_none (upd_same (H := H1) (a := e1) (o := .tup [])) hw0)]
      exact upd_same
    generalize upd (upd H1 e1 (.tup [])) w0 (.lst [.ref e1]) = H2 at y1 w1 t1
    have f2 := y1 _ _ f1
    -- while newest
    refine ⟨fun μ σ H' => ∃ (n : Nat) (wa : Addr) (W : List (Addr × List Str)) (N : List (List Str × Nat)) (x3 x4 x5 : Option V), σ = [some (.ref sp), some (.ref fo), some (.ref wa), x3, x4, x5, none] ∧ Evl.Ex H H' ∧ H' fo = some (.dT (kI N)) ∧ H' wa = some (.lst (W.map fun q => V.ref q.1)) ∧ RowsT H' W ∧
      Upto RR ys n N ∧ (∀ d, d ∈ W.map (·.2) ↔ Few RR ys n d) ∧ W.length ≤ 64 ∧ μ = 2 * (64 - N.length) + (if W = [] then 0 else 1),
      ⟨_, 0, w0, [(e1, [])], [([], 0)], none, none, none, rfl, x1.trans y1, f2, w1, t1, ⟨rfl, by simp, fun d k => ?_⟩, fun d => ?_, by show 1 ≤ 64; omega, rfl⟩, ?_⟩
    · rw [List.mem_singleton]
      constructor
      · intro e
        cases e
        exact ⟨few_zero.mpr rfl, Nat.le_refl _⟩
      · rintro ⟨h1, h2⟩
        have : k = 0 := by omega
        subst this
        rw [few_zero.mp h1]
    · rw [few_zero]
      show d ∈ [[]] ↔ _
      exact List.mem_singleton
    · rintro μ σ H3 ⟨n, wa, W, N, x3, x4, x5, rfl, x03, f3, w3, t3, U, mW, W64, rfl⟩
      refine ⟨.ref wa, rfl, !(W.map fun q => V.ref q.1).isEmpty, .inl ⟨_, Evl.sq_of w3, rfl⟩, ?_⟩
      have eb : (!(W.map fun q => V.ref q.1).isEmpty) = !W.isEmpty := by rw [List.isEmpty_map]
      rw [eb]
      cases hW : W with
      | nil =>
        show if false = true then _ else _
        refine iteF ⟨.ref fo, rfl, k fo H3 N x03 hfo f3 (U.done fun d q => ?_) (U.len l6)⟩
        have := (mW d).mpr q
        rw [hW] at this
        cases this
      | cons q0 W' =>
        show if true = true then _ else _
        rw [← hW]
        have Wne : W ≠ [] := by rw [hW]; exact List.cons_ne_nil _ _
        refine iteT ⟨fun σ' H' => ∃ (wa' : Addr) (W2 : List (Addr × List Str)) (N2 : List (List Str × Nat)) (x3 x4 x5 : Option V), σ' = [some (.ref sp), some (.ref fo), some (.ref wa'), x3, x4, x5, none] ∧ Evl.Ex H H' ∧ H' fo = some (.dT (kI N2)) ∧ H' wa' = some (.lst (W2.map fun q => V.ref q.1)) ∧ RowsT H' W2 ∧
          Upto RR ys (n + 1) N2 ∧ (∀ d, d ∈ W2.map (·.2) ↔ Few RR ys (n + 1) d) ∧ W2.length ≤ 64 ∧ N2.length = N.length + W2.length, ?_, ?_⟩
        · rintro σ' H' ⟨wa', W2, N2, x3, x4, x5, rfl, a1, a2, a3, a4, a5, a6, a7, a8⟩
          refine ⟨_, ?_, n + 1, wa', W2, N2, x3, x4, x5, rfl, a1, a2, a3, a4, a5, a6, a7, rfl⟩
          have h64 := a5.len l6
          rw [if_neg Wne]
          cases W2 with
          | nil =>
            rw [if_pos rfl]
            rw [List.length_nil] at a8
            omega
          | cons u W2 =>
            rw [if_neg (List.cons_ne_nil _ _)]
            rw [List.length_cons] at a8
            omega
        -- later = []
        refine ⟨by show 0 ≤ sizeLine; decide, fun la hla => ?_⟩
        have y3 : Evl.Ex H3 (upd H3 la (.lst [])) := Evl.Ex.new hla
        have l3 : (upd H3 la (.lst [])) la = some (.lst (([] : List (Addr × List Str)).map fun q => V.ref q.1)) := upd_same
        have hlaH : H la = none := ex_none x03 hla
        have nlf : la ≠ fo := fun e => by rw [e, f3] at hla; cases hla
        have nlw : la ≠ wa := fun e => by rw [e, w3] at hla; cases hla
        generalize upd H3 la (.lst []) = H4 at y3 l3
        have w4 := y3 _ _ w3
        -- what stays through the level
        refine ⟨.ref wa, rfl, wa, rfl, ⟨_, Evl.sq_of w4⟩, for_list (K := K) (a := wa) (xs := W.map fun q => V.ref q.1)
          (fun i σ H' => (∃ x4 x5 : Option V, σ = [some (.ref sp), some (.ref fo), some (.ref wa), some (.ref la), x4, x5, none]) ∧ Evl.Ex H H' ∧ H' wa = some (.lst (W.map fun q => V.ref q.1)) ∧ RowsT H' W ∧ ∃ V2 : List (Addr × List Str), H' fo = some (.dT (kI (N ++ (V2.map (·.2)).map fun b => (b, n + 1)))) ∧ H' la = some (.lst (V2.map fun q => V.ref q.1)) ∧ RowsT H' V2 ∧ Lvl RR ys n N (V2.map (·.2)) ∧ V2.length ≤ 64 ∧
            ∀ d ∈ (W.take i).map (·.2), ∀ p ∈ RR d, mixS ys d p ∈ N.map (·.1) ∨ mixS ys d p ∈ V2.map (·.2))
          ⟨⟨_, _, rfl⟩, x03.trans y3, w4, t3.to y3, [], by rw [List.map_nil, List.map_nil, List.append_nil]; exact y3 _ _ f3, l3, (fun q hq => nomatch hq), ⟨List.nodup_nil, fun b hb => nomatch hb⟩, Nat.zero_le _, fun d hd => nomatch hd⟩ (fun i σ H' _ h => Evl.sq_of h.2.2.1) ?_ ?_⟩
        · rintro i v σ H5 hi ⟨⟨x4, x5, rfl⟩, x05, w5, t5, V2, f5, l5, tV5, lv, V64, all⟩
          obtain ⟨q, hq, rfl⟩ := rowsT_at hi
          have mq := List.mem_of_getElem? hq
          have ei : W.take (i + 1) = W.take i ++ [q] := by rw [List.take_add_one, hq]; rfl
          have fq : Few RR ys n q.2 := (mW q.2).mp (List.mem_map_of_mem mq)
          have qsub := fq.1.sub
          obtain ⟨T, sa, L, s1, s2, s3, s4, s5⟩ := (S.to x05).get nd qsub
          have tq := t5 q mq
          have Ll : L.length ≤ 64 := by
            have := congrArg List.length s5
            rw [List.length_map] at this
            rw [this]
            exact S.few _
          -- [joined(done, lot) for lot in safe[done]]
          refine ⟨.ref sp, rfl, .ref q.1, rfl, sp, .ref sa, rfl, .inr ⟨kT T, q.2.map Sum.inr, q.1, .inl s1, rfl, by rw [keyS]; exact tq, s2.symm⟩, sa, rfl, ⟨_, Evl.sq_of s3⟩, fun R hR => lc_list (K := K) (a := sa) (xs := L.map fun q => V.ref q.1)
            (fun j H' => Evl.Ex H5 H' ∧ ∃ M : List (Addr × List Str), H' R = some (.lst (M.map fun q => V.ref q.1)) ∧ RowsT H' M ∧ M.map (·.2) = (L.take j).map fun r => mixS ys q.2 r.2) ⟨Evl.Ex.new hR, [], upd_same, (fun q hq => nomatch hq), rfl⟩ (fun j H' _ h => Evl.sq_of (h.1 _ _ s3)) ?_ ?_⟩
          · rintro j u H6 hj ⟨x6, M, r6, tM, eM⟩
            obtain ⟨r, hr', rfl⟩ := rowsT_at hj
            have mr := List.mem_of_getElem? hr'
            have rS : r.2 ∈ RR q.2 := by rw [← s5]; exact List.mem_map_of_mem mr
            obtain ⟨rs, rd⟩ := rest_lot (S.sub _ _ rS)
            have rl : r.2.length ≤ 6 := Nat.le_trans rs.length_le l6
            have ql : q.2.length ≤ 6 := Nat.le_trans qsub.length_le l6
            have Ml : M.length ≤ 64 := by
              have := congrArg List.length eM
              rw [List.length_map, List.length_map, List.length_take] at this
              omega
            refine ⟨rfl, yes_if ⟨.ref q.1, rfl, .ref r.1, rfl, q.1, r.1, q.2, r.2, rfl, Evl.st_of (x6 _ _ tq), Evl.st_of (x6 _ _ (s4 r mr)), by omega, fun jp H7 js x7 _ tj pj sj => ?_⟩⟩
            have ejs : js = mixS ys q.2 r.2 := mixS_is so nd qsub rs rd pj sj
            subst ejs
            have r7 := x7 _ _ r6
            refine ⟨_, r7, by rw [List.length_map]; exact small1000 (by omega), (x6.trans x7).mut hR, M ++ [(jp, mixS ys q.2 r.2)], ?_, ?_, ?_⟩
            · rw [upd_same, List.map_append]
              rfl
            · refine RowsT.mut (RowsT.app (tM.to x7) fun q' hq' => ?_) r7
              rw [List.mem_singleton.mp hq']
              exact tj
            · rw [List.map_append, eM, List.take_add_one, hr', List.map_append]
              rfl
          rintro H6 ⟨x6, M, r6, tM, eM⟩
          rw [List.length_map, List.take_length] at eM
          have eM2 : M.map (·.2) = (RR q.2).map (mixS ys q.2) := by rw [eM, ← s5, List.map_map]; rfl
          have Ml : M.length ≤ 64 := by
            have := congrArg List.length eM
            rw [List.length_map, List.length_map] at this
            omega
          have nRl : R ≠ la := fun e => by rw [e, l5] at hR; cases hR
          have nRf : R ≠ fo := fun e => by rw [e, f5] at hR; cases hR
          have nwl : wa ≠ la := nlw.symm
          have nwf : wa ≠ fo := ne_of w5 f5 (by intro z; cases z)
          have mid : ∀ r ∈ M.map (·.2), Rch RR ys (n + 1) r := fun r hr' => by
            rw [eM2] at hr'
            obtain ⟨p, hp, rfl⟩ := List.mem_map.mp hr'
            exact fq.1.step hp
          refine ⟨R, rfl, ⟨_, Evl.sq_of r6⟩, for_list (K := K) (a := R) (xs := M.map fun q => V.ref q.1)
            (fun j σ H' => (∃ x5 : Option V, σ = [some (.ref sp), some (.ref fo), some (.ref wa), some (.ref la), some (.ref q.1), x5, none]) ∧ Evl.Ex H H' ∧ H' wa = some (.lst (W.map fun q => V.ref q.1)) ∧ RowsT H' W ∧ H' R = some (.lst (M.map fun q => V.ref q.1)) ∧ RowsT H' M ∧ ∃ V3 : List (Addr × List Str), H' fo = some (.dT (kI (N ++ (V3.map (·.2)).map fun b => (b, n + 1)))) ∧ H' la = some (.lst (V3.map fun q => V.ref q.1)) ∧ RowsT H' V3 ∧ Lvl RR ys n N (V3.map (·.2)) ∧ V3.length ≤ 64 ∧
              (∀ d ∈ (W.take i).map (·.2), ∀ p ∈ RR d, mixS ys d p ∈ N.map (·.1) ∨ mixS ys d p ∈ V3.map (·.2)) ∧ ∀ b ∈ (M.take j).map (·.2), b ∈ N.map (·.1) ∨ b ∈ V3.map (·.2))
            ⟨⟨_, rfl⟩, x05.trans x6, x6 _ _ w5, t5.to x6, r6, tM, V2, x6 _ _ f5, x6 _ _ l5, tV5.to x6, lv, V64, all, fun b hb => nomatch hb⟩ (fun j σ H' _ h => Evl.sq_of h.2.2.2.2.1) ?_ ?_⟩
          · rintro j u σ H7 hj ⟨⟨x5, rfl⟩, x07, w7, t7, r7, tM7, V3, f7, l7, tV7, lv3, V364, all3, alj⟩
            obtain ⟨r, hr', rfl⟩ := rowsT_at hj
            have mr := List.mem_of_getElem? hr'
            have ej : M.take (j + 1) = M.take j ++ [r] := by rw [List.take_add_one, hr']; rfl
            have tr := tM7 r mr
            have ndN3 := lv3.nodup U
            refine ⟨.ref r.1, rfl, .ref fo, rfl, fo, _, rfl, .inr ⟨_, r.2.map Sum.inr, r.1, .inl f7, rfl, by rw [keyS]; exact tr, rfl⟩, _, rfl, ?_⟩
            rw [kI_has ndN3, lvl_keys]
            by_cases m : r.2 ∈ N.map (·.1) ++ V3.map (·.2)
            · rw [decide_eq_true m]
              refine iteF ⟨⟨_, rfl⟩, x07, w7, t7, r7, tM7, V3, f7, l7, tV7, lv3, V364, all3, fun b hb => ?_⟩
              rw [ej, List.map_append] at hb
              rcases List.mem_append.mp hb with hb | hb
              · exact alj b hb
              · rw [List.mem_singleton.mp hb]
                exact List.mem_append.mp m
            · rw [decide_eq_false m]
              have mqN : (q.2, n) ∈ N ++ (V3.map (·.2)).map fun b => (b, n + 1) := List.mem_append_left _ ((U.iff _ _).mpr ⟨fq, Nat.le_refl _⟩)
              have gq := kI_get ndN3 mqN
              have lv4 : Lvl RR ys n N ((V3 ++ [r]).map (·.2)) := by
                rw [List.map_append]
                refine ⟨?_, fun b hb => ?_⟩
                · rw [List.nodup_append]
                  exact ⟨lv3.nd, by simp, fun a ha b hb e => m (List.mem_append_right _ (by rw [List.mem_singleton.mp hb] at e; exact (show a = r.2 from e) ▸ ha))⟩
                · rcases List.mem_append.mp hb with hb | hb
                  · exact lv3.new b hb
                  · rw [List.mem_singleton.mp hb]
                    exact ⟨mid r.2 (List.mem_map_of_mem mr), fun h => m (List.mem_append_left _ h)⟩
              have V4l : (V3 ++ [r]).length ≤ 64 := by
                have h1 := nodup_le _ (partsS ys) lv4.nd fun b hb => partsS_has (lv4.few U hb).1.sub
                rw [List.length_map] at h1
                exact Nat.le_trans h1 (partsS_len l6)
              have few : (N ++ (V3.map (·.2)).map fun b => (b, n + 1)).length ≤ 128 := by
                rw [List.length_append, List.length_map, List.length_map]
                have := U.len l6
                omega
              refine iteT ⟨.ref fo, rfl, .ref q.1, rfl, fo, .int (n : Int), rfl, .inr ⟨_, q.2.map Sum.inr, q.1, .inl f7, rfl, by rw [keyS]; exact t7 q mq, gq.symm⟩, _, _, rfl, rfl, .ref fo, rfl, .ref r.1, rfl, fo, _, rfl, DPut.t (k := r.2.map Sum.inr) (v := .int ((n + 1 : Nat) : Int)) f7 (by rw [keyS]; exact tr) (by rw [kI_len]; exact small1000 (by omega)), ?_⟩
              rw [kI_new (by rw [lvl_keys]; exact m)]
              have x08 : Evl.Ex H (upd H7 fo (.dT (kI ((N ++ (V3.map (·.2)).map fun b => (b, n + 1)) ++ [(r.2, n + 1)])))) := x07.mut hfo
              have kp : ∀ {u : Addr} {xs : List V}, H7 u = some (.lst xs) → (upd H7 fo (.dT (kI ((N ++ (V3.map (·.2)).map fun b => (b, n + 1)) ++ [(r.2, n + 1)])))) u = some (.lst xs) := fun {u xs} h => by rw [upd_ne (ne_of h f7 (by intro z; cases z))]; exact h
              have kt : ∀ {L : List (Addr × List Str)}, RowsT H7 L → RowsT (upd H7 fo (.dT (kI ((N ++ (V3.map (·.2)).map fun b => (b, n + 1)) ++ [(r.2, n + 1)])))) L := fun {L} h q hq => by rw [upd_ne (ne_of (h q hq) f7 (by intro z; cases z))]; exact h q hq
              have f8 : (upd H7 fo (.dT (kI ((N ++ (V3.map (·.2)).map fun b => (b, n + 1)) ++ [(r.2, n + 1)])))) fo = some (.dT (kI ((N ++ (V3.map (·.2)).map fun b => (b, n + 1)) ++ [(r.2, n + 1)]))) := upd_same
              have l8 := kp l7
              have w8 := kp w7
              have r8 := kp r7
              have t8 := kt t7
              have tM8 := kt tM7
              have tV8 := kt tV7
              generalize upd H7 fo (.dT (kI ((N ++ (V3.map (·.2)).map fun b => (b, n + 1)) ++ [(r.2, n + 1)]))) = H8 at x08 f8 l8 w8 r8 t8 tM8 tV8
              refine ⟨.ref la, rfl, .inl ⟨rfl, _, Evl.sq_of l8⟩, .ref r.1, rfl, la, _, _, rfl, rfl, l8, by rw [List.length_map]; exact small1000 (by omega), ⟨_, rfl⟩, x08.mut hlaH, by rw [upd_ne nwl]; exact w8, t8.mut l8, by rw [upd_ne nRl]; exact r8, tM8.mut l8, V3 ++ [r], ?_, ?_, ?_, lv4, V4l, fun d hd p hp => ?_, fun b hb => ?_⟩
              · rw [upd_ne nlf.symm, f8, List.map_append, List.map_append, List.append_assoc]
                rfl
              · rw [upd_same, List.map_append]
                rfl
              · refine RowsT.mut (RowsT.app tV8 fun q' hq' => ?_) l8
                rw [List.mem_singleton.mp hq']
                exact tM8 r mr
              · rw [List.map_append]
                exact (all3 d hd p hp).imp id fun h => List.mem_append_left _ h
              · rw [ej, List.map_append] at hb
                rw [List.map_append]
                rcases List.mem_append.mp hb with hb | hb
                · exact (alj b hb).imp id fun h => List.mem_append_left _ h
                · exact .inr (List.mem_append_right _ hb)
          · rintro σ H7 ⟨⟨x5, rfl⟩, x07, w7, t7, r7, tM7, V3, f7, l7, tV7, lv3, V364, all3, alj⟩
            rw [List.length_map, List.take_length] at alj
            refine ⟨⟨_, _, rfl⟩, x07, w7, t7, V3, f7, l7, tV7, lv3, V364, fun d hd p hp => ?_⟩
            rw [ei, List.map_append] at hd
            rcases List.mem_append.mp hd with hd | hd
            · exact all3 d hd p hp
            · rw [List.mem_singleton.mp hd] at hp ⊢
              exact alj _ (by rw [eM2]; exact List.mem_map_of_mem hp)
        · rintro σ H5 ⟨⟨x4, x5, rfl⟩, x05, w5, t5, V2, f5, l5, tV5, lv, V64, all⟩
          rw [List.length_map, List.take_length] at all
          obtain ⟨U2, iff2⟩ := lv.next U fun d hd p hp => all d ((mW d).mpr hd) p hp
          exact ⟨.ref la, rfl, la, V2, _, _, _, _, rfl, x05, f5, l5, tV5, U2, iff2, V64, by rw [List.length_append, List.length_map, List.length_map]⟩
end
end Rw
end T_U4

section T_U5
set_option Elab.async false
set_option linter.all false
set_option maxRecDepth 100000
set_option maxHeartbeats 16000000
namespace Rw
open PySem L2 PyProof.Rows LamX
/-! ### plans, counted -/
/-- the truth of a variable's value -/
def tTru (K : PySem.W.Frag) (i : Nat) : TT := fun σ H Q => tVar i σ H fun x H' => ∃ k, TruV K x H' k ∧ Q k H'
def natI (l : List Nat) : List Int := l.map fun m : Nat => (m : Int)
theorem natI_sum (l : List Nat) : (natI l).sum = (l.sum : Int) := by
  unfold natI
  induction l with
  | nil => rfl
  | cons m l ih =>
    rw [List.map_cons, List.sum_cons, List.sum_cons, ih]
    omega
def cnt (RR : List Str → List (List Str)) (ys : List Str) : Nat → List Str → Nat
  | 0, d => if d = ys then (RR d).length else 0
  | k + 1, d => (((RR d).filter fun p => !p.isEmpty).map fun p => cnt RR ys k (mixS ys d p)).sum
/-- the dict of the counts at one level -/
def cntT (RR : List Str → List (List Str)) (ys : List Str) (k : Nat) (l : List (List Str)) : List (List Str × Nat) := l.map fun d => (d, cnt RR ys k d)
theorem cntT_keys (RR : List Str → List (List Str)) (ys : List Str) (k : Nat) (l : List (List Str)) : (cntT RR ys k l).map (·.1) = l := by
  unfold cntT
  rw [List.map_map]
  exact List.map_id' l
theorem cntT_get {RR : List Str → List (List Str)} {ys d : List Str} {k : Nat} (nd : ys.Nodup) (hd : d.Sublist ys) : valV (kI (cntT RR ys k (partsS ys).reverse)) (d.map Sum.inr) = some (.int (cnt RR ys k d : Int)) :=
  kI_get (t := (d, cnt RR ys k d)) (by rw [cntT_keys]; exact List.pairwise_reverse.mpr ((partsS_nodup nd).imp fun h => h.symm)) (List.mem_map.mpr ⟨d, List.mem_reverse.mpr (partsS_has hd), rfl⟩)
/-- a list of such dicts, levels 0 .. k -/
structure CountsD (H : Hp) (c : Addr) (RR : List Str → List (List Str)) (ys : List Str) (Cs : List Addr) : Prop where
  hc : H c = some (.lst (Cs.map V.ref))
  at_ : ∀ j a, Cs[j]? = some a → H a = some (.dT (kI (cntT RR ys j (partsS ys).reverse)))
theorem CountsD.to {H H' : Hp} {c : Addr} {RR : List Str → List (List Str)} {ys : List Str} {Cs : List Addr} (h : CountsD H c RR ys Cs) (x : Evl.Ex H H') : CountsD H' c RR ys Cs := ⟨x _ _ h.hc, fun j a e => x _ _ (h.at_ j a e)⟩
section
variable {P : Program} {w : World} {K : PySem.W.Frag} {mg : Str → Option Value} {base : Heap}
/-! ### rounds_needed -/
def spNeeded : Sp := fun vs H Q _ => ∃ (a sp : Addr) (RR : List Str → List (List Str)) (ys : List Str), vs = [.ref a, .ref sp] ∧ H a = some (.tup (ys.map V.str)) ∧ SafeR H sp RR ys ∧ ys.length ≤ 6 ∧ ys.Nodup ∧ sortedS ys = true ∧
  ∀ (H' : Hp) (v : V), Evl.Ex H H' → (v = .non ∧ (RR ys = [] ∨ ∀ k, ¬ Few RR ys k ys) ∨ ∃ k : Nat, v = .int (k : Int) ∧ Few RR ys k ys ∧ RR ys ≠ [] ∧ k ≤ 64) → Q v H'
theorem sc_needed : FnScope ["changing", "safe"] ["changing", "safe"] (defScope p_rounds_needed) := ⟨rfl, rfl, rfl, by decide +kernel, rfl, by decide +kernel, by decide +kernel⟩
theorem few_le {RR : List Str → List (List Str)} {ys : List Str} {N : List (List Str × Nat)} (h : NumsOk RR ys N) (l64 : N.length ≤ 64) {k : Nat} {d : List Str} (q : Few RR ys k d) : k ≤ 64 := by
  have all : ∀ m, m ≤ k → ∃ d', (d', m) ∈ N := fun m hm => by
    obtain ⟨d', h1⟩ := few_all (n := m) (k - m) (d := d) (by rw [show m + (k - m) = k by omega]; exact q)
    exact ⟨d', (h.iff d' m).mpr h1⟩
  have h1 := nodup_le (List.range (k + 1)) (N.map (·.2)) List.nodup_range fun m hm => by
    obtain ⟨d', h2⟩ := all m (by have := List.mem_range.mp hm; omega)
    exact List.mem_map.mpr ⟨(d', m), h2, rfl⟩
  rw [List.length_range, List.length_map] at h1
  omega
theorem ok_needed {f : Addr} {fd : FuncData} (F : Fun K "rounds_needed" "rounds_needed" p_rounds_needed f fd) (C1 : Cal P w K mg base 2 "round_numbers" ["safe"] spNums) : FnOk P w K mg base CX0 3 f fd ["changing", "safe"] spNeeded := by
  obtain ⟨f1, fd1, F1, k1, b1, g1⟩ := C1.ex
  refine F.ok sc_needed (fun vs H Q E h => ?_) (fun cdv A outer s H vs Q E hr h => ?_)
  · obtain ⟨a, sp, RR, ys, rfl, _⟩ := h
    rfl
  · obtain ⟨a, sp, RR, ys, rfl, ha, S, l6, nd, so, k⟩ := h
    have ndN := sc_needed.nd
    have hu := hu_of hr
    refine ⟨_, pss_one (ps_ret (pe_ifExp (pt_truth (pe_dget hu (pv 1) (pv 0) (fun _ _ => rfl)) (fun _ => rfl)) (pe_dget1 hu (pe_call F1 hr rfl g1 k1 b1 .nil pass0 (pa_cons (pv 1) pa_nil)) (pv 0) ⟨rfl, rfl, rfl, rfl⟩) pe_non)), ?_⟩
    obtain ⟨T, sa, L, s1, s2, s3, s4, s5⟩ := S.get nd (List.Sublist.refl ys)
    refine ⟨.ref sp, rfl, .ref a, rfl, sp, .ref sa, rfl, .inr ⟨kT T, ys.map Sum.inr, a, .inl s1, rfl, by rw [keyS]; exact ha, s2.symm⟩, !(L.map fun q => V.ref q.1).isEmpty, .inl ⟨_, Evl.sq_of s3, rfl⟩, ?_⟩
    have eb : (!(L.map fun q => V.ref q.1).isEmpty) = !(RR ys).isEmpty := by rw [← s5, List.isEmpty_map, List.isEmpty_map]
    rw [eb]
    cases hS : RR ys with
    | nil =>
      show if false = true then _ else _
      exact iteF (k H .non (Evl.Ex.refl H) (.inl ⟨rfl, .inl hS⟩))
    | cons r rs =>
      show if true = true then _ else _
      have ne : RR ys ≠ [] := by rw [hS]; exact List.cons_ne_nil _ _
      refine iteT ⟨.ref sp, rfl, sp, RR, ys, rfl, S, l6, nd, so, fun D H1 N x1 hD d1 ok n64 => ?_⟩
      refine ⟨D, rfl, .inr ⟨_, .inl d1⟩, .ref a, rfl, _, .inr ⟨_, ys.map Sum.inr, a, .inl d1, rfl, by rw [keyS]; exact x1 _ _ ha, rfl⟩, ?_⟩
      by_cases m : ys ∈ N.map (·.1)
      · obtain ⟨t, ht, e⟩ := List.mem_map.mp m
        have g := kI_get ok.nd ht
        rw [e] at g
        rw [g]
        have q : Few RR ys t.2 ys := by
          have := (ok.iff t.1 t.2).mp ht
          rwa [e] at this
        exact k H1 _ x1 (.inr ⟨t.2, rfl, q, ne, few_le ok n64 q⟩)
      · rw [kI_none m]
        exact k H1 _ x1 (.inl ⟨rfl, .inr fun j q => m (List.mem_map.mpr ⟨(ys, j), (ok.iff ys j).mpr q, rfl⟩)⟩)
end
end Rw
end T_U5

section T_U6
set_option Elab.async false
set_option linter.all false
set_option maxRecDepth 100000
set_option maxHeartbeats 16000000
namespace Rw
open PySem L2 PyProof.Rows LamX
/-! ### the plan with a place -/
/-- the first of some lots within whose plans the place lies, and the place among them -/
def pickP (f : List Str → Nat) : List (List Str) → Nat → Option (List Str × Nat)
  | [], _ => none
  | p :: l, n => if n < f p then some (p, n) else pickP f l (n - f p)
theorem pick_some {f : List Str → Nat} : ∀ {l : List (List Str)} {n : Nat}, n < (l.map f).sum → ∃ p m, pickP f l n = some (p, m) ∧ p ∈ l ∧ m < f p
  | [], n, h => absurd h (Nat.not_lt_zero _)
  | p :: l, n, h => by
    rw [List.map_cons, List.sum_cons] at h
    unfold pickP
    by_cases c : n < f p
    · rw [if_pos c]
      exact ⟨p, n, rfl, List.mem_cons_self, c⟩
    · rw [if_neg c]
      obtain ⟨q, m, h1, h2, h3⟩ := pick_some (f := f) (l := l) (n := n - f p) (by omega)
      exact ⟨q, m, h1, List.mem_cons_of_mem _ h2, h3⟩
/-- the rounds behind a lot that are no empty ones -/
def fullS (RR : List Str → List (List Str)) (ys d : List Str) : List (List Str) := (RR d).filter fun p => !p.isEmpty
def planOf (RR : List Str → List (List Str)) (ys : List Str) : Nat → List Str → Nat → List (List Str)
  | 0, _, _ => []
  | k + 1, d, n => match pickP (fun p => cnt RR ys k (mixS ys d p)) (fullS RR ys d) n with
    | some (p, m) => p :: planOf RR ys k (mixS ys d p) m
    | none => []
theorem plan_step {RR : List Str → List (List Str)} {ys d p : List Str} {k n m : Nat} (h : pickP (fun p => cnt RR ys k (mixS ys d p)) (fullS RR ys d) n = some (p, m)) : planOf RR ys (k + 1) d n = p :: planOf RR ys k (mixS ys d p) m := by
  show (match pickP (fun p => cnt RR ys k (mixS ys d p)) (fullS RR ys d) n with
    | some (p, m) => p :: planOf RR ys k (mixS ys d p) m
    | none => []) = _
  rw [h]
/-- rounds that make a plan from a lot on -/
inductive PlanFrom (RR : List Str → List (List Str)) (ys : List Str) : List Str → List (List Str) → Prop
  | done : RR ys ≠ [] → PlanFrom RR ys ys []
  | step {d p : List Str} {l : List (List Str)} : p ∈ RR d → p ≠ [] → PlanFrom RR ys (mixS ys d p) l → PlanFrom RR ys d (p :: l)
theorem plan_of {RR : List Str → List (List Str)} {ys : List Str} : ∀ {k : Nat} {d : List Str} {n : Nat}, n < cnt RR ys k d → PlanFrom RR ys d (planOf RR ys k d n) ∧ (planOf RR ys k d n).length = k := by
  intro k
  induction k with
  | zero =>
    intro d n h
    have e : cnt RR ys 0 d = if d = ys then (RR d).length else 0 := rfl
    rw [e] at h
    by_cases c : d = ys
    · subst c
      rw [if_pos rfl] at h
      exact ⟨.done fun z => by rw [z] at h; exact absurd h (Nat.not_lt_zero _), rfl⟩
    · rw [if_neg c] at h
      exact absurd h (Nat.not_lt_zero _)
  | succ k ih =>
    intro d n h
    obtain ⟨p, m, h1, h2, h3⟩ := pick_some (f := fun p => cnt RR ys k (mixS ys d p)) (l := fullS RR ys d) (n := n) h
    rw [plan_step h1]
    obtain ⟨h4, h5⟩ := ih h3
    obtain ⟨h6, h7⟩ := List.mem_filter.mp h2
    exact ⟨h4.step h6 (fun z => by rw [z] at h7; cases h7), by rw [List.length_cons, h5]⟩
theorem cnt_pos {RR : List Str → List (List Str)} {ys : List Str} : ∀ {l : List (List Str)} {d : List Str}, PlanFrom RR ys d l → 0 < cnt RR ys l.length d := by
  intro l d h
  induction h with
  | done ne =>
    show 0 < if _ then _ else _
    rw [if_pos rfl]
    exact List.length_pos_iff.mpr ne
  | @step d p l h1 h2 h3 ih =>
    show 0 < (((RR d).filter fun p => !p.isEmpty).map fun p => cnt RR ys l.length (mixS ys d p)).sum
    have m : p ∈ (RR d).filter fun p => !p.isEmpty := List.mem_filter.mpr ⟨h1, by
      cases p with
      | nil => exact absurd rfl h2
      | cons z p => rfl⟩
    obtain ⟨A, B, e⟩ := List.append_of_mem m
    rw [e, List.map_append, List.map_cons, List.sum_append, List.sum_cons]
    omega
end Rw
end T_U6

section T_CW
set_option Elab.async false
set_option linter.all false
set_option maxRecDepth 100000
set_option maxHeartbeats 4000000
namespace Rw
open PySem L2 PyProof.Rows LamX
section
variable {P : Program} {w : World} {K : PySem.W.Frag} {mg : Str → Option Value} {base : Heap}
def spCheckWishes : Sp := fun vs H Q _ => ∃ (c : Addr) (ws : List Str), vs = [.ref c] ∧ SqS K H c ws ∧ ws.Nodup ∧ (∀ x ∈ ws, x ∈ wishesL) ∧ ws.length ≤ 100 ∧ ∀ H', Evl.Ex H H' → Q .non H'
theorem sc_check_wishes : FnScope ["wishes"] ["wishes"] (defScope p_check_wishes) := ⟨rfl, rfl, rfl, by decide +kernel, rfl, by decide +kernel, by decide +kernel⟩
theorem ok_check_wishes {f Wa : Addr} {fd : FuncData} (F : Fun K "check_wishes" "check_wishes" p_check_wishes f fd) (C1 : Cal P w K mg base 2 "are_different" ["value", "nodes"] (spDiff K)) (mW : mg "WISHES" = some (.ref Wa)) (hW : ∀ H, SqT K H Wa (wishesL.map V.str)) :
    FnOk P w K mg base CX0 3 f fd ["wishes"] (spCheckWishes (K := K)) := by
  obtain ⟨f1, fd1, F1, k1, b1, g1⟩ := C1.ex
  refine F.ok sc_check_wishes (fun vs H Q E h => ?_) (fun cdv A outer s H vs Q E hr h => ?_)
  · obtain ⟨c, ws, rfl, _⟩ := h
    rfl
  · obtain ⟨c, ws, rfl, hc, hn, hs, hl, k⟩ := h
    refine ⟨_, pss_one (ps_if (pt_not (pt_val (pe_call F1 hr rfl g1 k1 b1 .nil pass0 (pa_cons (pv 0) (pa_cons (pe_glob (v := .ref Wa) (by rfl) mW rfl) pa_nil))))) (pss_one ps_never) pss_nil), ?_⟩
    exact ⟨.ref c, rfl, c, Wa, ws, wishesL, rfl, hc, .inr (hW H), hn, hs, hl, fun H1 x1 => ⟨true, rfl, k _ x1⟩⟩
end
end Rw
end T_CW

section T_U1
set_option Elab.async false
set_option linter.all false
set_option maxRecDepth 100000
set_option maxHeartbeats 8000000
namespace Rw
open PySem L2 PyProof.Rows LamX
section
variable {P : Program} {w : World} {K : PySem.W.Frag} {mg : Str → Option Value} {base : Heap}
/-- the lots at which a wish is broken -/
noncomputable def brokenL (ends dots ss ps : List Str) (o n : Str → List (Str × V)) (wd : Str) : List (List Str) := (partsS (moving ends dots o n)).filter fun on => badB ends dots ss ps o n on wd
theorem nt_none {H H' : Hp} {p : Addr} (x : Evl.Ex (nt H) (nt H')) (h : H' p = none) : nt H p = none := by
  cases e : nt H p with
  | none => rfl
  | some u =>
    have := (nt_some (x _ _ e)).1
    rw [h] at this
    cases this
theorem nt_none2 {H H' : Hp} {p : Addr} (x : Evl.Ex (nt H) (nt H')) (h : nt H' p = none) : nt H p = none := by
  cases e : nt H p with
  | none => rfl
  | some u =>
    rw [x _ _ e] at h
    cases h
/-! ### broken_moments -/
def spBrokenMoments (T : List (Addr × Str)) (C : Addr) : Sp := fun vs H Q _ => ∃ (m : Addr) (wd : Str) (ends dots ss ps : List Str) (o n : Str → List (Str × V)), vs = [.ref m, .str wd] ∧ NetAt C H m ends dots ss ps o n ∧ ModelOk ends dots ss ps ∧ TabsOk ends dots o n ∧ Tabs T H ∧
  ∀ (p : Addr) (H' : Hp) (L : List (Addr × List Str)), Evl.Ex (nt H) (nt H') → Tabs T H' → nt H p = none → H' p = some (.lst (L.map fun q => V.ref q.1)) → RowsT H' L → L.map (·.2) = brokenL ends dots ss ps o n wd → Q (.ref p) H'
abbrev nBrk : List Str := ["net", "wish", "changed"]
theorem sc_brk : FnScope nBrk ["net", "wish"] (defScope p_broken_moments) := ⟨rfl, rfl, rfl, by decide +kernel, rfl, by decide +kernel, by decide +kernel⟩
theorem ok_brk {f C : Addr} {fd : FuncData} {T : List (Addr × Str)} (F : Fun K "broken_moments" "broken_moments" p_broken_moments f fd) (NX : NetTxt K C) (Pg : Prp P w K mg base C 2 "changing" (spChanging C)) (C1 : Cal P w K mg base 5 "parts_of" ["lot"] (spParts (K := K) T))
    (C2 : Cal P w K mg base 4 "fault_at" ["net", "changed", "wish"] (spFaultAt (K := K) C)) : FnOk P w K mg base CX0 6 f fd ["net", "wish"] (spBrokenMoments T C) := by
  obtain ⟨p0, g0, fd0, at0, F0, b0⟩ := Pg.ex
  obtain ⟨f1, fd1, F1, k1, b1, g1⟩ := C1.ex
  obtain ⟨f2, fd2, F2, k2, b2, g2⟩ := C2.ex
  refine F.ok sc_brk (fun vs H Q E h => ?_) (fun cdv A outer s H vs Q E hr h => ?_)
  · obtain ⟨m, wd, ends, dots, ss, ps, o, n, rfl, _⟩ := h
    rfl
  · obtain ⟨m, wd, ends, dots, ss, ps, o, n, rfl, N, ok, tok, hT, k⟩ := h
    have nd := sc_brk.nd
    have e2 := ok.e2
    have d6 := ok.d6
    refine ⟨_, pss_one (ps_ret (pe_lc (own := [("changed", 2)]) (g := gName 2) (tt := tTest (tOp (fun x y H Q => y = .non ∧ Q (.bl (!decide (x = .non))) H) (tCall (spFaultAt (K := K) C) [] E0 (tCons (tVar 0) (tCons (tVar 2) (tCons (tVar 1) tNil)))) (tC .non))) (te := tVar 2) rfl nd
        (pi_list (pe_call F1 hr rfl g1 k1 b1 .nil pass0 (pa_cons (pe_prop (pv 0) NX.cl at0 F0 (hr.mono (by decide)) b0 .nil pass0 rfl) pa_nil))) (blkOk_by (own := [("changed", 2)]) (N := nBrk) (sc := defScope p_broken_moments) (by decide +kernel))
          (fun _ _ _ _ _ => pg_name (i := 2) nd rfl (Or.inl rfl)) (fun _ _ _ _ _ => pts_one (pt_cmpR op_notN (pe_call F2 (hr.mono (by decide)) rfl g2 k2 b2 .nil pass0 (pa_cons (pv 0) (pa_cons (pv 2) (pa_cons (pv 1) pa_nil)))) pe_non (nomark _))) (fun _ _ _ _ _ => pv 2))), ?_⟩
    obtain ⟨dx, T', N', S, Po, rows, h1, _⟩ := N.ex
    refine ⟨.ref m, rfl, m, dx, _, rfl, h1, m, ends, dots, ss, ps, o, n, rfl, N, by omega, by omega, ok.en, fun l H1 x1 _ hl => ?_⟩
    have ml : (moving ends dots o n).length ≤ 6 := Nat.le_trans (List.length_filter_le _ _) d6
    unfold brokenL at k
    generalize moving ends dots o n = ys at hl ml k
    refine ⟨l, ys, rfl, Evl.st_of hl, ml, hT.ext x1, fun p H2 L x2 T2 hp tL pL sL => ?_⟩
    have eL : L.map (·.2) = partsS ys := partsS_is pL sL
    have x02 := (nt_ex x1).trans x2
    have Ll : L.length ≤ 64 := by
      have := partsS_len (zs := ys) ml
      rw [← eL, List.length_map] at this
      exact this
    rw [← eL] at k
    refine ⟨p, rfl, ⟨_, Evl.sq_of hp⟩, fun D hD => lc_list (K := K) (a := p) (xs := L.map fun q => V.ref q.1)
      (fun i H' => Evl.Ex H2 H' ∧ H' D = some (.lst (((L.take i).filter fun q => badB ends dots ss ps o n q.2 wd).map fun q => V.ref q.1))) ⟨Evl.Ex.new hD, upd_same⟩ (fun i H' _ h => Evl.sq_of (h.1 _ _ hp)) ?_ ?_⟩
    · rintro i v H3 hi ⟨x3, d3⟩
      obtain ⟨q, hq, rfl⟩ := rowsT_at hi
      have mq := List.mem_of_getElem? hq
      have et : L.take (i + 1) = L.take i ++ [q] := by rw [List.take_add_one, hq]; rfl
      refine ⟨rfl, .ref m, rfl, .ref q.1, rfl, .str wd, rfl, m, q.1, wd, q.2, ends, dots, ss, ps, o, n, rfl, N.nt.to ((x02.trans (nt_ex x3)).trans (ex_nt H3)), ok, tok, Evl.st_of (x3 _ _ (tL q mq)), fun u H4 x4 pr => ?_⟩
      refine ⟨rfl, _, rfl, ?_⟩
      rw [pair_some pr, ← badB_fault]
      have d4 := x4 _ _ d3
      have few : ((L.take i).filter fun q => badB ends dots ss ps o n q.2 wd).length ≤ 64 := Nat.le_trans (List.length_filter_le _ _) (by rw [List.length_take]; omega)
      cases hb : badB ends dots ss ps o n q.2 wd with
      | true =>
        refine iteT ⟨.ref q.1, rfl, _, d4, by rw [List.length_map]; exact small1000 (by omega), (x3.trans x4).mut hD, ?_⟩
        rw [upd_same, et, List.filter_append, List.filter_cons_of_pos (by rw [hb]), List.map_append]
        rfl
      | false =>
        refine iteF ⟨x3.trans x4, ?_⟩
        rw [d4, et, List.filter_append, List.filter_cons_of_neg (by rw [hb]; decide), List.filter_nil, List.append_nil]
    · rintro H3 ⟨x3, d3⟩
      rw [List.length_map, List.take_length] at d3
      refine k D H3 _ (x02.trans (nt_ex x3)) (T2.ext x3) (nt_none x02 hD) d3 (fun q hq => x3 _ _ (tL q (List.mem_filter.mp hq).1)) ?_
      rw [List.filter_map]
      rfl
/-! ### moments_to_avoid -/
noncomputable def avoidL (ends dots ss ps : List Str) (o n : Str → List (Str × V)) (ws : List Str) : List (List Str) := ws.flatMap (brokenL ends dots ss ps o n)
def spAvoid (T : List (Addr × Str)) (C : Addr) : Sp := fun vs H Q _ => ∃ (m c : Addr) (ws ends dots ss ps : List Str) (o n : Str → List (Str × V)), vs = [.ref m, .ref c] ∧ NetAt C H m ends dots ss ps o n ∧ ModelOk ends dots ss ps ∧ TabsOk ends dots o n ∧ SqS K H c ws ∧ ws.length ≤ 4 ∧ Tabs T H ∧
  ∀ (p : Addr) (H' : Hp) (L : List (Addr × List Str)), Evl.Ex (nt H) (nt H') → Tabs T H' → nt H p = none → H' p = some (.lst (L.map fun q => V.ref q.1)) → RowsT H' L → L.map (·.2) = avoidL ends dots ss ps o n ws → Q (.ref p) H'
abbrev nAvoid : List Str := ["net", "wishes", "wish", "changed"]
theorem sc_avoid : FnScope nAvoid ["net", "wishes"] (defScope p_moments_to_avoid) := ⟨rfl, rfl, rfl, by decide +kernel, rfl, by decide +kernel, by decide +kernel⟩
theorem brokenL_len {ends dots ss ps : List Str} {o n : Str → List (Str × V)} {wd : Str} (h : (moving ends dots o n).length ≤ 6) : (brokenL ends dots ss ps o n wd).length ≤ 64 := Nat.le_trans (List.length_filter_le _ _) (partsS_len h)
theorem ok_avoid {f C : Addr} {fd : FuncData} {T : List (Addr × Str)} (F : Fun K "moments_to_avoid" "moments_to_avoid" p_moments_to_avoid f fd) (C1 : Cal P w K mg base 6 "broken_moments" ["net", "wish"] (spBrokenMoments T C)) : FnOk P w K mg base CX0 7 f fd ["net", "wishes"] (spAvoid (K := K) T C) := by
  obtain ⟨f1, fd1, F1, k1, b1, g1⟩ := C1.ex
  refine F.ok sc_avoid (fun vs H Q E h => ?_) (fun cdv A outer s H vs Q E hr h => ?_)
  · obtain ⟨m, c, ws, ends, dots, ss, ps, o, n, rfl, _⟩ := h
    rfl
  · obtain ⟨m, c, ws, ends, dots, ss, ps, o, n, rfl, N, ok, tok, hc, l4, hT, k⟩ := h
    have nd := sc_avoid.nd
    have ml : (moving ends dots o n).length ≤ 6 := Nat.le_trans (List.length_filter_le _ _) ok.d6
    -- the walk itself, over a list or a tuple of wishes
    have body : ∀ {J : It}, Walk J ws.length (fun H' => Evl.Ex (nt H) (nt H')) (fun i H1 x H2 => H2 = H1 ∧ (ws.map V.str)[i]? = some x) → ∀ D, H D = none → ∃ W : Nat → Nat → Hp → Prop, (∃ m, W 0 m (upd H D (.lst []))) ∧ ∀ i m' H', W i m' H' →
        (J.stop i H' ∧ Q (.ref D) H') ∨ (J.go i H' ∧ ∃ Nx : Hp → Prop, (∀ H'', Nx H'' → ∃ m'', m'' < m' ∧ W (i + 1) m'' H'') ∧ ∀ x H'', J.yld i H' x H'' → gName 2 x (wipe [some (.ref m), some (.ref c), none, none] [2, 3]) H'' fun σ2 H2 => wipe σ2 [2, 3] = wipe [some (.ref m), some (.ref c), none, none] [2, 3] ∧ tYes σ2 H2 fun b H3 =>
          if b = true then iList K (tCall (spBrokenMoments T C) [] E0 (tCons (tVar 0) (tCons (tVar 2) tNil))) σ2 H3 fun J1 H4 => ∃ W1 : Nat → Nat → Hp → Prop, (∃ m, W1 0 m H4) ∧ ∀ j k H, W1 j k H →
            (J1.stop j H ∧ Nx H) ∨ (J1.go j H ∧ ∃ Nx1 : Hp → Prop, (∀ H', Nx1 H' → ∃ k', k' < k ∧ W1 (j + 1) k' H') ∧ ∀ x H', J1.yld j H x H' → gName 3 x (wipe σ2 [3]) H' fun σ3 H5 => wipe σ3 [3] = wipe σ2 [3] ∧ tYes σ3 H5 fun b H6 =>
              if b = true then tVar 3 σ3 H6 fun y H7 => ∃ acc, H7 D = some (.lst acc) ∧ acc.length < sizeLine ∧ Nx1 (upd H7 D (.lst (acc ++ [y]))) else Nx1 H6)
          else Nx H3) := by
      intro J wk D hD
      refine lc2_out wk
        (fun i H' => Evl.Ex (nt H) (nt H') ∧ Tabs T H' ∧ ∃ L : List (Addr × List Str), H' D = some (.lst (L.map fun q => V.ref q.1)) ∧ RowsT H' L ∧ L.map (·.2) = avoidL ends dots ss ps o n (ws.take i) ∧ L.length ≤ 64 * i)
        ⟨nt_new hD, hT.ext (Evl.Ex.new hD), [], upd_same, (fun q hq => nomatch hq), rfl, Nat.le_refl _⟩ (fun i H' _ h => h.1) ?_ ?_
      · rintro i x H1 H1' hi ⟨x1, T1, L, d1, t1, e1, l1⟩ ⟨rfl, hx⟩
        obtain ⟨wd, hw, rfl⟩ := str_at hx
        have et : ws.take (i + 1) = ws.take i ++ [wd] := by rw [List.take_add_one, hw]; rfl
        refine ⟨rfl, yes_if ?_⟩
        refine ⟨.ref m, rfl, .str wd, rfl, m, wd, ends, dots, ss, ps, o, n, rfl, N.nt.to (x1.trans (ex_nt H1')), ok, tok, T1, fun p H2 M x2 T2 fp hp tM eM => ?_⟩
        have Ml : M.length ≤ 64 := by
          have := congrArg List.length eM
          rw [List.length_map] at this
          rw [this]
          exact brokenL_len ml
        have npD : p ≠ D := fun z => by
          rw [z, nt_lst d1] at fp
          cases fp
        have d2 : H2 D = some (.lst (L.map fun q => V.ref q.1)) := (nt_some (x2 _ _ (nt_lst d1))).1
        have t2 : RowsT H2 L := t1.nt.to (x2.trans (ex_nt H2))
        refine ⟨p, rfl, ⟨_, Evl.sq_of hp⟩, lc2_in (walk_list (xs := M.map fun q => V.ref q.1))
          (fun j H' => Evl.Ex (nt H) (nt H') ∧ Tabs T H' ∧ H' p = some (.lst (M.map fun q => V.ref q.1)) ∧ RowsT H' M ∧ RowsT H' L ∧ H' D = some (.lst ((L ++ M.take j).map fun q => V.ref q.1)))
          ⟨x1.trans x2, T2, hp, tM, t2, by rw [List.take_zero, List.append_nil]; exact d2⟩ (fun j H' _ h => Evl.sq_of h.2.2.1) ?_ ?_⟩
        · rintro j v H3 H3' hj ⟨x3, T3, p3, tM3, t3, d3⟩ ⟨rfl, hv⟩
          obtain ⟨q, hq, rfl⟩ := rowsT_at hv
          have em : M.take (j + 1) = M.take j ++ [q] := by rw [List.take_add_one, hq]; rfl
          refine ⟨rfl, yes_if ⟨.ref q.1, rfl, _, d3, ?_, nt_mutL x3 hD, tabs_mutL T3 d3, by rw [upd_ne npD]; exact p3, tM3.mut d3, t3.mut d3, ?_⟩⟩
          · rw [List.length_map, List.length_append, List.length_take]
            exact small1000 (by omega)
          · rw [upd_same, em, ← List.append_assoc, List.map_append (l₂ := [q])]
            rfl
        · rintro H3 ⟨x3, T3, p3, tM3, t3, d3⟩
          rw [List.length_map, List.take_length] at d3
          refine ⟨x3, T3, L ++ M, d3, t3.app tM3, ?_, by rw [List.length_append]; omega⟩
          rw [List.map_append, e1, eM, et]
          unfold avoidL
          rw [List.flatMap_append, List.flatMap_singleton]
      · rintro H1 ⟨x1, T1, L, d1, t1, e1, l1⟩
        rw [List.take_length] at e1
        exact k D H1 L x1 T1 (nt_free hD) d1 t1 e1
    rcases hc with hc | hc
    · refine ⟨_, pss_one (ps_ret (pe_lc2 (own := [("wish", 2), ("changed", 3)]) (vs1 := [3]) (g := gName 2) (tt := tYes) (g1 := gName 3) (tt1 := tYes) (wi1 := iList K (tCall (spBrokenMoments T C) [] E0 (tCons (tVar 0) (tCons (tVar 2) tNil)))) (te := tVar 3) rfl nd (pi_list (pv 1)) (blkOk_by (own := [("wish", 2), ("changed", 3)]) (N := nAvoid) (sc := defScope p_moments_to_avoid) (by decide +kernel)) (by decide)
            (fun _ _ _ _ _ => pg_name (i := 2) nd rfl (Or.inl rfl)) (fun _ _ _ _ _ => pts_nil) (fun _ _ _ _ _ => pi_list (pe_call F1 hr rfl g1 k1 b1 .nil pass0 (pa_cons (pv 0) (pa_cons (pv 2) pa_nil))))
            (fun _ _ _ _ _ => pg_name (i := 3) nd rfl (Or.inl rfl)) (fun _ _ _ _ _ => pts_nil) (fun _ _ _ _ _ => pv 3))), ?_⟩
      refine ⟨.ref c, rfl, c, rfl, ⟨_, hc⟩, fun D hD => body ?_ D hD⟩
      have wk := walk_list (K := K) (a := c) (xs := ws.map V.str)
      rw [List.length_map] at wk
      exact ⟨fun i H' hi g => wk.goes i H' hi (Evl.ex_l (g.trans (ex_nt H')) (sql_nt hc)), fun H' g => wk.stops H' (Evl.ex_l (g.trans (ex_nt H')) (sql_nt hc)), fun i H1 x H2 hi g y => wk.yields i H1 x H2 hi (Evl.ex_l (g.trans (ex_nt H1)) (sql_nt hc)) y⟩
    · refine ⟨_, pss_one (ps_ret (pe_lc2 (own := [("wish", 2), ("changed", 3)]) (vs1 := [3]) (g := gName 2) (tt := tYes) (g1 := gName 3) (tt1 := tYes) (wi1 := iList K (tCall (spBrokenMoments T C) [] E0 (tCons (tVar 0) (tCons (tVar 2) tNil)))) (te := tVar 3) rfl nd (pi_tup (pv 1)) (blkOk_by (own := [("wish", 2), ("changed", 3)]) (N := nAvoid) (sc := defScope p_moments_to_avoid) (by decide +kernel)) (by decide)
            (fun _ _ _ _ _ => pg_name (i := 2) nd rfl (Or.inl rfl)) (fun _ _ _ _ _ => pts_nil) (fun _ _ _ _ _ => pi_list (pe_call F1 hr rfl g1 k1 b1 .nil pass0 (pa_cons (pv 0) (pa_cons (pv 2) pa_nil))))
            (fun _ _ _ _ _ => pg_name (i := 3) nd rfl (Or.inl rfl)) (fun _ _ _ _ _ => pts_nil) (fun _ _ _ _ _ => pv 3))), ?_⟩
      refine ⟨.ref c, rfl, c, rfl, ⟨_, hc⟩, fun D hD => body ?_ D hD⟩
      have wk := walk_tup (K := K) (a := c) (xs := ws.map V.str)
      rw [List.length_map] at wk
      exact ⟨fun i H' hi g => wk.goes i H' hi (Evl.ex_t (g.trans (ex_nt H')) (sqt_nt hc)), fun H' g => wk.stops H' (Evl.ex_t (g.trans (ex_nt H')) (sqt_nt hc)), fun i H1 x H2 hi g y => wk.yields i H1 x H2 hi (Evl.ex_t (g.trans (ex_nt H1)) (sqt_nt hc)) y⟩
end
end Rw
end T_U1

section T_U7
set_option Elab.async false
set_option linter.all false
set_option maxRecDepth 100000
set_option maxHeartbeats 16000000
namespace Rw
open PySem L2 PyProof.Rows LamX
theorem few_plan {RR : List Str → List (List Str)} {ys : List Str} (nd : ys.Nodup) : ∀ {k : Nat} {d : List Str} {l : List (List Str)}, Few RR ys k d → PlanFrom RR ys d l → ∃ l', PlanFrom RR ys [] l' ∧ l'.length = k + l.length := by
  intro k
  induction k with
  | zero =>
    intro d l h p
    rw [few_zero] at h
    subst h
    exact ⟨l, p, (Nat.zero_add _).symm⟩
  | succ k ih =>
    intro d l h p
    obtain ⟨d', q, h1, h2, rfl⟩ := few_below h
    have ne : q ≠ [] := fun z => by
      subst z
      rw [mixS_nil nd h1.1.sub] at h
      have := few_uniq h h1
      omega
    obtain ⟨l', g1, g2⟩ := ih h1 (p.step h2 ne)
    exact ⟨l', g1, by rw [g2, List.length_cons]; omega⟩
theorem plan_rch {RR : List Str → List (List Str)} {ys : List Str} : ∀ {l : List (List Str)} {d : List Str}, PlanFrom RR ys d l → ∀ {k : Nat}, Rch RR ys k d → Rch RR ys (k + l.length) ys := by
  intro l d h
  induction h with
  | done _ => exact fun r => r
  | @step d p l h1 h2 h3 ih =>
    intro k r
    have := ih (r.step h1)
    rw [List.length_cons]
    rw [show k + (l.length + 1) = k + 1 + l.length by omega]
    exact this
noncomputable def brkOf (ends dots ss ps : List Str) (o n : Str → List (Str × V)) (ws : List Str) : List Str → Bool := fun on => decide (on ∈ avoidL ends dots ss ps o n ws)
end Rw
end T_U7

section T_SL
set_option Elab.async false
set_option linter.all false
set_option maxRecDepth 100000
set_option maxHeartbeats 4000000
/-! ### sorted(a list of tuples of texts, the first of them empty) -/
namespace L2
open PySem PySem.Spec PyProof.Rows
def rSortLT : List V → Hp → VK → Prop := fun vs H Q => ∃ (a : Addr) (L : List (Addr × List Str)), vs = [V.ref a] ∧ H a = some (.lst (L.map fun q => V.ref q.1)) ∧ Rw.RowsT H L ∧ (∀ p, (L.map (·.2)).head? = some p → p = []) ∧
  ∀ (ys : List (Addr × List Str)) (p : Addr), (ys.map (·.2)).Perm (L.map (·.2)) → (ys.map (·.2)).Pairwise (fun x y => Rw.lexS y x = false) → Rw.RowsT H ys → H p = none → Q (.ref p) (upd H p (.lst (ys.map fun q => V.ref q.1)))
theorem cr_sortLT {X : Cx} (room : X.A.units + 2 < cLine) : CallR X (.builtin "sorted") rSortLT := by
  intro pins s σ H vs us Q I r h
  obtain ⟨a, L, rfl, hs, tL, h0, q⟩ := h
  obtain ⟨its, rv, hl, hz⟩ := I.list (Evl.sq_of (K := X.K) hs)
  obtain ⟨u, rfl, ru⟩ := vals1 r
  obtain rfl : u = Value.ref a := ru
  obtain ⟨e1, e2⟩ := refs_back rv fun x m => by
    obtain ⟨q', _, rfl⟩ := List.mem_map.mp m
    exact ⟨_, rfl⟩
  have all : ∀ v ∈ its, Rw.IsTE s.heap v (Rw.rowAt H (backV v)) := fun v hv => by
    obtain ⟨t, rfl⟩ := e2 v hv
    have hm : V.ref t ∈ L.map fun q => V.ref q.1 := by rw [e1]; exact List.mem_map.mpr ⟨_, hv, rfl⟩
    obtain ⟨q', hq, e⟩ := List.mem_map.mp hm
    obtain rfl : q'.1 = t := V.ref.inj e
    have ht := tL q' hq
    obtain ⟨_, i3, r3, o3, ho3, hc3, n3, hd3⟩ := I.hok _ _ ht
    refine ⟨q'.1, i3.toArray, rfl, ⟨o3, ho3, hc3, n3, hd3⟩, ?_⟩
    show StrsAre _ (Rw.rowAt H (.ref q'.1))
    rw [Rw.rowAt_of ht]
    exact Vals.strs r3
  refine SrtO.sorted_ord (Rw.lexS_swo fun v => Rw.rowAt H (backV v)) hl.isList (by rw [← rv.length]; exact hz) (fun h2 h1 d hd kk => ?_) fun out hs1 hb1 => ?_
  · refine Rw.te_sortable (s := { s with heap := h1 }) (by show X.A.units + 1 + 1 < cLine; omega) (fun v hv => ?_) (fun z => by rw [z] at h2; exact absurd h2 (by simp)) (fun v hv => (all v hv).on fun b o e _ => (kk b o e).2) fun o e => ?_
    · cases L with
      | nil => rw [List.map_nil] at e1; rw [List.map_eq_nil_iff.mp e1.symm] at hv; cases hv
      | cons q0 L =>
        cases its with
        | nil => cases hv
        | cons v0 its =>
          cases hv
          rw [List.map_cons, List.map_cons] at e1
          rw [← (List.cons.inj e1).1, Rw.rowAt_of (tL q0 List.mem_cons_self)]
          exact h0 _ rfl
    · have e' : some o = some (seqObj "list" its.toArray 0) := e.symm.trans hd
      cases e'
      intro c
      exact absurd (Value.type.inj c) (by decide)
  · have h3 : ∀ u ∈ out, ∃ a, u = Value.ref a := fun u hu => e2 u (hb1.perm.mem_iff.mp hu)
    have hp : (out.map backV).Perm (L.map fun q => V.ref q.1) := by rw [e1]; exact hb1.perm.map _
    obtain ⟨ys, ey, ry, py, my⟩ := Rw.rowsT_perm tL hp
    have sorted : (ys.map (·.2)).Pairwise (fun x y => Rw.lexS y x = false) := by
      rw [my, List.map_map]
      have z : SrtO.Srtd (fun v u => Rw.lexS (Rw.rowAt H (backV v)) (Rw.rowAt H (backV u))) out := hs1
      exact List.pairwise_map.mpr z
    obtain ⟨n, hn⟩ := sortedAll_at s.heap its out.toArray
    refine ⟨.ref (s.heap.objs.size + 1), upd H (s.heap.objs.size + 1) (.lst (out.map backV)), I.laid (t' := s.toks) (fun b o e => sortedAll_old e) (Nat.le_succ _) ⟨?_, out, n, vals_back h3, hn⟩, rfl, ?_⟩
    · rw [hp.length_eq]; exact hz
    rw [ey]
    exact q ys _ py sorted ry (I.hok.fresh (Nat.le_succ _))
end L2
end T_SL

section T_UH
set_option Elab.async false
set_option linter.all false
set_option maxRecDepth 100000
set_option maxHeartbeats 16000000
namespace Rw
open PySem L2 PyProof.Rows LamX
section
variable {RR : List Str → List (List Str)} {ys : List Str}
open Classical in
/-- how few rounds plans have, if there is one -/
noncomputable def costO (RR : List Str → List (List Str)) (ys : List Str) : Option Nat := if h : RR ys ≠ [] ∧ ∃ k, Few RR ys k ys then some h.2.choose else none
theorem costO_some {k : Nat} (ne : RR ys ≠ []) (few : Few RR ys k ys) : costO RR ys = some k := by
  have h : RR ys ≠ [] ∧ ∃ k, Few RR ys k ys := ⟨ne, k, few⟩
  unfold costO
  rw [dif_pos h]
  exact congrArg some (few_uniq h.2.choose_spec few)
theorem costO_none (no : RR ys = [] ∨ ∀ k, ¬ Few RR ys k ys) : costO RR ys = none := by
  unfold costO
  rw [dif_neg]
  rintro ⟨h1, k, h2⟩
  exact no.elim h1 fun z => z k h2
theorem costO_few {k : Nat} (h : costO RR ys = some k) : RR ys ≠ [] ∧ Few RR ys k ys := by
  unfold costO at h
  split at h
  · rename_i c
    cases h
    exact ⟨c.1, c.2.choose_spec⟩
  · cases h
end
def numV : Option Nat → V
  | none => .non
  | some k => .int (k : Int)
theorem numV_flat (c : Option Nat) : flatB (numV c) = true := by cases c <;> rfl
/-! ### dicts from tuples of names to any values -/
def kF (F : List Str → V) (W : List (List Str)) : List (List Key × V) := W.map fun t => (t.map Sum.inr, F t)
theorem kF_none {F : List Str → V} {W : List (List Str)} {p : List Str} (h : p ∉ W) : valV (kF F W) (p.map Sum.inr) = none := by
  induction W with
  | nil => rfl
  | cons t W ih =>
    show valV ((t.map Sum.inr, F t) :: kF F W) (p.map Sum.inr) = none
    rw [valV_neg (fun e => h (by rw [← inr_inj e]; exact List.mem_cons_self))]
    exact ih fun q => h (List.mem_cons_of_mem _ q)
theorem kF_get {F : List Str → V} {W : List (List Str)} {t : List Str} (h : t ∈ W) : valV (kF F W) (t.map Sum.inr) = some (F t) := by
  induction W with
  | nil => cases h
  | cons u W ih =>
    show valV ((u.map Sum.inr, F u) :: kF F W) (t.map Sum.inr) = _
    by_cases e : u = t
    · subst e
      exact valV_pos rfl
    · rw [valV_neg (fun z => e (inr_inj z))]
      exact ih ((List.mem_cons.mp h).resolve_left fun z => e z.symm)
theorem kF_new {F : List Str → V} {W : List (List Str)} {p : List Str} (h : p ∉ W) : putK (kF F W) (p.map Sum.inr) (F p) = kF F (W ++ [p]) := by
  rw [putK_new _ (kF_none h)]
  unfold kF
  rw [List.map_append]
  rfl
theorem kF_len (F : List Str → V) (W : List (List Str)) : (kF F W).length = W.length := List.length_map _
theorem kF_congr {F G : List Str → V} {W : List (List Str)} (h : ∀ t ∈ W, F t = G t) : kF F W = kF G W := by
  unfold kF
  exact List.map_congr_left fun t ht => by rw [h t ht]
theorem tabs_mutK2 {T : List (Addr × Str)} {H3 : Hp} {D : Addr} {xs ys : List (Key × V)} (T3 : Tabs T H3) (d3 : H3 D = some (.dK xs)) : Tabs T (upd H3 D (.dK ys)) := fun q hq => by
  obtain ⟨ts, t1, t2, t3⟩ := T3 q hq
  refine ⟨ts, by rw [upd_ne (fun z => by rw [z, d3] at t1; cases t1)]; exact t1, t2, fun pos cv hcv => ?_⟩
  obtain ⟨c', e1, e2⟩ := t3 pos cv hcv
  exact ⟨c', e1, by rw [upd_ne (fun z => by rw [z, d3] at e2; unfold CodeO at e2; cases e2)]; exact e2⟩
theorem tabs_mutT {T : List (Addr × Str)} {H3 : Hp} {D : Addr} {xs ys : List (List Key × V)} (T3 : Tabs T H3) (d3 : H3 D = some (.dT xs)) : Tabs T (upd H3 D (.dT ys)) := fun q hq => by
  obtain ⟨ts, t1, t2, t3⟩ := T3 q hq
  refine ⟨ts, by rw [upd_ne (fun z => by rw [z, d3] at t1; cases t1)]; exact t1, t2, fun pos cv hcv => ?_⟩
  obtain ⟨c', e1, e2⟩ := t3 pos cv hcv
  exact ⟨c', e1, by rw [upd_ne (fun z => by rw [z, d3] at e2; unfold CodeO at e2; cases e2)]; exact e2⟩
theorem partsS_head {zs p : List Str} (h : (partsS zs).head? = some p) : p = [] := by
  have m : ([] : List Str) ∈ partsS zs := partsS_has (List.nil_sublist _)
  have srt := partsS_srt zs
  cases e : partsS zs with
  | nil => rw [e] at h; cases h
  | cons q qs =>
    rw [e] at h m srt
    obtain rfl : q = p := Option.some.inj h
    rcases List.mem_cons.mp m with r | r
    · exact r.symm
    · have := numRow_le ((List.pairwise_cons.mp srt).1 _ r)
      exact List.length_eq_zero_iff.mp (Nat.le_zero.mp this)
/-- all tuples of wishes, in order -/
noncomputable def lotsW : List (List Str) := lexL (partsS wishesL)
theorem wishes_nd : wishesL.Nodup := by decide +kernel
theorem lotsW_mem {t : List Str} : t ∈ lotsW ↔ t.Sublist wishesL := (lexL_perm _).mem_iff.trans partsS_mem
theorem lotsW_nd : lotsW.Nodup := (lexL_perm _).nodup_iff.mpr (partsS_nodup wishes_nd)
theorem lotsW_len : lotsW.length ≤ 64 := by
  unfold lotsW
  rw [(lexL_perm _).length_eq]
  exact partsS_len (by decide)
noncomputable def costF (ends dots ss ps : List Str) (o n : Str → List (Str × V)) : List Str → V := fun ws => numV (costO (safeS (brkOf ends dots ss ps o n ws) (moving ends dots o n)) (moving ends dots o n))
section
variable {P : Program} {w : World} {K : PySem.W.Frag} {mg : Str → Option Value} {base : Heap}
/-! ### needed -/
def spNeedN (T : List (Addr × Str)) (C : Addr) : Sp := fun vs H Q _ => ∃ (m b : Addr) (B : List (Addr × List Str)) (ends dots ss ps : List Str) (o n : Str → List (Str × V)), vs = [.ref m, .ref b] ∧ NetAt C H m ends dots ss ps o n ∧ ModelOk ends dots ss ps ∧ H b = some (.lst (B.map fun q => V.ref q.1)) ∧ RowsT H B ∧ B.length ≤ 256 ∧ Tabs T H ∧
  ∀ H', Evl.Ex (nt H) (nt H') → Tabs T H' → Q (numV (costO (safeS (fun on => decide (on ∈ B.map (·.2))) (moving ends dots o n)) (moving ends dots o n))) H'
theorem sc_needN : FnScope ["net", "broken"] ["net", "broken"] (defScope p_needed) := ⟨rfl, rfl, rfl, by decide +kernel, rfl, by decide +kernel, by decide +kernel⟩
theorem ok_needN {f C : Addr} {fd : FuncData} {T : List (Addr × Str)} (F : Fun K "needed" "needed" p_needed f fd) (NX : NetTxt K C) (Pg : Prp P w K mg base C 2 "changing" (spChanging C)) (C5 : Cal P w K mg base 6 "safe_rounds" ["changing", "broken"] (spSafeRounds (K := K) T)) (C7 : Cal P w K mg base 3 "rounds_needed" ["changing", "safe"] spNeeded) :
    FnOk P w K mg base CX0 7 f fd ["net", "broken"] (spNeedN T C) := by
  obtain ⟨p0, g0, fd0, at0, F0, b0⟩ := Pg.ex
  obtain ⟨f5, fd5, F5, k5, b5, g5⟩ := C5.ex
  obtain ⟨f7, fd7, F7, k7, b7, g7⟩ := C7.ex
  refine F.ok sc_needN (fun vs H Q E h => ?_) (fun cdv A outer s H vs Q E hr h => ?_)
  · obtain ⟨m, b, B, ends, dots, ss, ps, o, n, rfl, _⟩ := h
    rfl
  · obtain ⟨m, b, B, ends, dots, ss, ps, o, n, rfl, N, ok, hb, tB, lB, hT, k⟩ := h
    have r3 : Room 3 _ := hr.mono (by decide)
    have e2 := ok.e2
    have d6 := ok.d6
    have ml : (moving ends dots o n).length ≤ 6 := Nat.le_trans (List.length_filter_le _ _) d6
    have mnd : (moving ends dots o n).Nodup := ok.dn.sublist List.filter_sublist
    have mso : sortedS (moving ends dots o n) = true := sorted_sub List.filter_sublist ok.ds
    refine ⟨_, pss_one (ps_ret (pe_call F7 r3 rfl g7 k7 b7 .nil pass0 (pa_cons (pe_prop (pv 0) NX.cl at0 F0 r3 b0 .nil pass0 rfl) (pa_cons (pe_call F5 hr rfl g5 k5 b5 .nil pass0 (pa_cons (pe_prop (pv 0) NX.cl at0 F0 r3 b0 .nil pass0 rfl) (pa_cons (pv 1) pa_nil))) pa_nil)))), ?_⟩
    obtain ⟨dx, T', N', S, Po, rows, h1, _⟩ := N.ex
    refine ⟨.ref m, rfl, m, dx, _, rfl, h1, m, ends, dots, ss, ps, o, n, rfl, N, by omega, by omega, ok.en, fun l1 H1 x1 _ hl1 => ?_⟩
    refine ⟨.ref m, rfl, m, dx, _, rfl, x1 _ _ h1, m, ends, dots, ss, ps, o, n, rfl, N.to x1, by omega, by omega, ok.en, fun l2 H2 x2 _ hl2 => ?_⟩
    have x12 := x1.trans x2
    refine ⟨.ref b, rfl, l2, b, _, B, rfl, Evl.st_of hl2, ml, mnd, mso, x12 _ _ hb, tB.to x12, lB, hT.ext x12, fun sp H4 x4 T4 _ S4 => ?_⟩
    have hl4 : H4 l1 = some (.tup ((moving ends dots o n).map V.str)) := (nt_some (x4 _ _ (nt_tup (x2 _ _ hl1)))).1
    refine ⟨l1, sp, _, _, rfl, hl4, S4.r ml, ml, mnd, mso, fun H7 v x7 hv => ?_⟩
    have z := (nt_ex x12).trans (x4.trans (nt_ex x7))
    rcases hv with ⟨rfl, no⟩ | ⟨kk, rfl, few, ne, _⟩
    · have := k H7 z (T4.ext x7)
      rw [costO_none no] at this
      exact this
    · have := k H7 z (T4.ext x7)
      rw [costO_some ne few] at this
      exact this
/-! ### cost -/
def spCost (T : List (Addr × Str)) (C : Addr) : Sp := fun vs H Q _ => ∃ (m c : Addr) (ws ends dots ss ps : List Str) (o n : Str → List (Str × V)), vs = [.ref m, .ref c] ∧ NetAt C H m ends dots ss ps o n ∧ ModelOk ends dots ss ps ∧ TabsOk ends dots o n ∧ SqS K H c ws ∧ ws.Nodup ∧ (∀ x ∈ ws, x ∈ wishesL) ∧ Tabs T H ∧
  ∀ H', Evl.Ex (nt H) (nt H') → Tabs T H' → Q (numV (costO (safeS (brkOf ends dots ss ps o n ws) (moving ends dots o n)) (moving ends dots o n))) H'
theorem sc_cost : FnScope ["net", "wishes"] ["net", "wishes"] (defScope p_cost) := ⟨rfl, rfl, rfl, by decide +kernel, rfl, by decide +kernel, by decide +kernel⟩
theorem avoidL_len {ends dots ss ps : List Str} {o n : Str → List (Str × V)} (ml : (moving ends dots o n).length ≤ 6) : ∀ ws : List Str, (avoidL ends dots ss ps o n ws).length ≤ 64 * ws.length := fun l => by
  unfold avoidL
  induction l with
  | nil => exact Nat.le_refl _
  | cons z l ih =>
    rw [List.flatMap_cons, List.length_append, List.length_cons]
    have := brokenL_len (ends := ends) (dots := dots) (ss := ss) (ps := ps) (o := o) (n := n) (wd := z) ml
    omega
theorem ok_cost {f C : Addr} {fd : FuncData} {T : List (Addr × Str)} (F : Fun K "cost" "cost" p_cost f fd) (C1 : Cal P w K mg base 1 "check_net" ["net"] (spCheckNet C)) (C3 : Cal P w K mg base 3 "check_wishes" ["wishes"] (spCheckWishes (K := K))) (C4 : Cal P w K mg base 7 "moments_to_avoid" ["net", "wishes"] (spAvoid (K := K) T C))
    (C5 : Cal P w K mg base 7 "needed" ["net", "broken"] (spNeedN T C)) : FnOk P w K mg base CX0 8 f fd ["net", "wishes"] (spCost (K := K) T C) := by
  obtain ⟨f1, fd1, F1, k1, b1, g1⟩ := C1.ex
  obtain ⟨f3, fd3, F3, k3, b3, g3⟩ := C3.ex
  obtain ⟨f4, fd4, F4, k4, b4, g4⟩ := C4.ex
  obtain ⟨f5, fd5, F5, k5, b5, g5⟩ := C5.ex
  refine F.ok sc_cost (fun vs H Q E h => ?_) (fun cdv A outer s H vs Q E hr h => ?_)
  · obtain ⟨m, c, ws, ends, dots, ss, ps, o, n, rfl, _⟩ := h
    rfl
  · obtain ⟨m, c, ws, ends, dots, ss, ps, o, n, rfl, N, ok, tok, hc, hn, hs, hT, k⟩ := h
    have r1 : Room 1 _ := hr.mono (by decide)
    have r3 : Room 3 _ := hr.mono (by decide)
    have l4 : ws.length ≤ 4 := nodup_le ws wishesL hn hs
    have ml : (moving ends dots o n).length ≤ 6 := Nat.le_trans (List.length_filter_le _ _) ok.d6
    refine ⟨_, pss_cons (ps_expr (pe_call F1 r1 rfl g1 k1 b1 .nil pass0 (pa_cons (pv 0) pa_nil)))
      (pss_cons (ps_expr (pe_call F3 r3 rfl g3 k3 b3 .nil pass0 (pa_cons (pv 1) pa_nil)))
      (pss_one (ps_ret (pe_call F5 hr rfl g5 k5 b5 .nil pass0 (pa_cons (pv 0) (pa_cons (pe_call F4 hr rfl g4 k4 b4 .nil pass0 (pa_cons (pv 0) (pa_cons (pv 1) pa_nil))) pa_nil)))))), ?_⟩
    refine ⟨.ref m, rfl, m, ends, dots, ss, ps, o, n, rfl, N, ?_⟩
    refine ⟨.ref c, rfl, c, ws, rfl, hc, hn, hs, by omega, fun H1 x1 => ?_⟩
    refine ⟨.ref m, rfl, .ref m, rfl, .ref c, rfl, m, c, ws, ends, dots, ss, ps, o, n, rfl, N.to x1, ok, tok, hc.ex x1, l4, hT.ext x1, fun pb H3 B x3 T3 _ hpb tB eB => ?_⟩
    have lB : B.length ≤ 256 := by
      have h2 := congrArg List.length eB
      rw [List.length_map] at h2
      have := avoidL_len (ss := ss) (ps := ps) ml ws
      omega
    have z := (nt_ex x1).trans x3
    refine ⟨m, pb, B, ends, dots, ss, ps, o, n, rfl, N.nt.to (z.trans (ex_nt H3)), ok, hpb, tB, lB, T3, fun H4 x4 T4 => ?_⟩
    rw [eB]
    exact k H4 (z.trans x4) T4
/-! ### costs -/
def spCosts (T : List (Addr × Str)) (C : Addr) : Sp := fun vs H Q _ => ∃ (m : Addr) (ends dots ss ps : List Str) (o n : Str → List (Str × V)), vs = [.ref m] ∧ NetAt C H m ends dots ss ps o n ∧ ModelOk ends dots ss ps ∧ TabsOk ends dots o n ∧ Tabs T H ∧
  ∀ (p : Addr) (H' : Hp), Evl.Ex (nt H) (nt H') → Tabs T H' → nt H p = none → H' p = some (.dT (kF (costF ends dots ss ps o n) lotsW)) → Q (.ref p) H'
abbrev nCosts : List Str := ["net", "broken", "found", "wishes", "wish", "changed"]
theorem sc_costs : FnScope nCosts ["net"] (defScope p_costs) := ⟨rfl, rfl, rfl, by decide +kernel, rfl, by decide +kernel, by decide +kernel⟩
/-- lists of rows by name -/
def ByName (H : Hp) (B : Addr) (M : List (Str × Addr × List (Addr × List Str))) : Prop := H B = some (.dK (tkv (M.map fun t => (t.1, V.ref t.2.1)))) ∧ ∀ t ∈ M, H t.2.1 = some (.lst (t.2.2.map fun q => V.ref q.1)) ∧ RowsT H t.2.2
theorem ByName.nto {H H' : Hp} {B : Addr} {M : List (Str × Addr × List (Addr × List Str))} (h : ByName H B M) (x : Evl.Ex (nt H) (nt H')) : ByName H' B M :=
  ⟨(nt_some (x _ _ (nt_dK h.1))).1, fun t ht => ⟨(nt_some (x _ _ (nt_lst (h.2 t ht).1))).1, (h.2 t ht).2.nt.to (x.trans (ex_nt H'))⟩⟩
theorem ok_costs {f C Wa : Addr} {fd : FuncData} {T : List (Addr × Str)} (F : Fun K "costs" "costs" p_costs f fd) (C1 : Cal P w K mg base 1 "check_net" ["net"] (spCheckNet C)) (C2 : Cal P w K mg base 6 "broken_moments" ["net", "wish"] (spBrokenMoments T C)) (C3 : Cal P w K mg base 5 "parts_of" ["lot"] (spParts (K := K) T))
    (C4 : Cal P w K mg base 7 "needed" ["net", "broken"] (spNeedN T C)) (mW : mg "WISHES" = some (.ref Wa)) (hW : ∀ H, SqT K H Wa (wishesL.map V.str)) (mSorted : mg "sorted" = none) : FnOk P w K mg base CX0 8 f fd ["net"] (spCosts T C) := by
  obtain ⟨f1, fd1, F1, k1, b1, g1⟩ := C1.ex
  obtain ⟨f2, fd2, F2, k2, b2, g2⟩ := C2.ex
  obtain ⟨f3, fd3, F3, k3, b3, g3⟩ := C3.ex
  obtain ⟨f4, fd4, F4, k4, b4, g4⟩ := C4.ex
  refine F.ok sc_costs (fun vs H Q E h => ?_) (fun cdv A outer s H vs Q E hr h => ?_)
  · obtain ⟨m, ends, dots, ss, ps, o, n, rfl, _⟩ := h
    rfl
  · obtain ⟨m, ends, dots, ss, ps, o, n, rfl, N, ok, tok, hT, k⟩ := h
    have nd := sc_costs.nd
    have hu := hu_of hr
    have r1 : Room 1 _ := hr.mono (by decide)
    have r5 : Room 5 _ := hr.mono (by decide)
    have r6 : Room 6 _ := hr.mono (by decide)
    have d6 := ok.d6
    have ml : (moving ends dots o n).length ≤ 6 := Nat.le_trans (List.length_filter_le _ _) d6
    refine ⟨_, pss_cons (ps_expr (pe_call F1 r1 rfl g1 k1 b1 .nil pass0 (pa_cons (pv 0) pa_nil)))
      (pss_cons (ps_set (i := 1) nd rfl (.inr rfl) (pe_dc (own := [("wish", 4)]) (g := gName 4) (tt := tYes) (tk := tVar 4) (tv := tCall (spBrokenMoments T C) [] E0 (tCons (tVar 0) (tCons (tVar 4) tNil))) rfl nd (pi_tup (pe_glob (v := .ref Wa) (by rfl) mW rfl)) (blkOk_by (own := [("wish", 4)]) (N := nCosts) (sc := defScope p_costs) (by decide +kernel))
          (fun _ _ _ _ _ => pg_name (i := 4) nd rfl (Or.inl rfl)) (fun _ _ _ _ _ => pts_nil) (fun _ _ _ _ _ => pv 4) (fun _ _ _ _ _ => pe_call F2 r6 rfl g2 k2 b2 .nil pass0 (pa_cons (pv 0) (pa_cons (pv 4) pa_nil)))))
      (pss_cons (ps_set (i := 2) nd rfl (.inl rfl) pe_dnewT)
      (pss_cons (ps_for PassesOwn.never rfl (pi_list (pe_callB (cr_sortLT (Nat.lt_of_le_of_lt (Nat.add_le_add_left (by decide) _) (un65 hr))) (by rfl) mSorted (by decide +kernel) (pa_cons (pe_call F3 r5 rfl g3 k3 b3 .nil pass0 (pa_cons (pe_glob (v := .ref Wa) (by rfl) mW rfl) pa_nil)) pa_nil))) (pg_name (i := 3) nd rfl (.inl rfl))
        (pss_one (ps_dput hu (pv 2) (pv 3) (pe_call F4 hr rfl g4 k4 b4 .nil pass0 (pa_cons (pv 0) (pa_cons
          (pe_lc2 (own := [("wish", 4), ("changed", 5)]) (vs1 := [5]) (g := gName 4) (tt := tYes) (g1 := gName 5) (tt1 := tYes) (wi1 := iList K (tDGet (tVar 1) (tVar 4))) (te := tVar 5) rfl nd (pi_tup (pv 3)) (blkOk_by (own := [("wish", 4), ("changed", 5)]) (N := nCosts) (sc := defScope p_costs) (by decide +kernel)) (by decide)
            (fun _ _ _ _ _ => pg_name (i := 4) nd rfl (Or.inl rfl)) (fun _ _ _ _ _ => pts_nil) (fun _ _ _ _ _ => pi_list (pe_dget hu (pv 1) (pv 4) (fun _ _ => rfl)))
            (fun _ _ _ _ _ => pg_name (i := 5) nd rfl (Or.inl rfl)) (fun _ _ _ _ _ => pts_nil) (fun _ _ _ _ _ => pv 5)) pa_nil))) rfl)))
      (pss_one (ps_ret (pv 2)))))), ?_⟩
    refine ⟨.ref m, rfl, m, ends, dots, ss, ps, o, n, rfl, N, ?_⟩
    -- broken
    have wsz : wishesL.length = 4 := by decide
    refine ⟨Wa, rfl, ⟨_, hW _⟩, fun B0 hB0 => dc_it (walk_tup (K := K) (a := Wa) (xs := wishesL.map V.str))
      (fun i H' => Evl.Ex (nt H) (nt H') ∧ Tabs T H' ∧ ∃ M : List (Str × Addr × List (Addr × List Str)), ByName H' B0 M ∧ M.map (·.1) = wishesL.take i ∧ ∀ t ∈ M, t.2.2.map (·.2) = brokenL ends dots ss ps o n t.1)
      ⟨nt_new hB0, hT.ext (Evl.Ex.new hB0), [], ⟨upd_same, fun t ht => nomatch ht⟩, rfl, fun t ht => nomatch ht⟩ (fun i H' _ h => hW _) ?_ ?_⟩
    · rintro i x H1 H1' hi ⟨x1, T1, M, bn, e1, a1⟩ ⟨rfl, hx⟩
      obtain ⟨wd, hw, rfl⟩ := str_at hx
      have et : wishesL.take (i + 1) = wishesL.take i ++ [wd] := by rw [List.take_add_one, hw]; rfl
      have new : wd ∉ M.map (·.1) := fun h => by
        rw [e1] at h
        have h2 : (wishesL.take (i + 1)).Nodup := wishes_nd.sublist (List.take_sublist _ _)
        rw [et] at h2
        exact (List.nodup_append.mp h2).2.2 _ h _ (List.mem_singleton.mpr rfl) rfl
      have Ml : M.length ≤ 4 := by
        have := congrArg List.length e1
        rw [List.length_map, List.length_take] at this
        omega
      refine ⟨rfl, yes_if ⟨.str wd, rfl, .ref m, rfl, .str wd, rfl, m, wd, ends, dots, ss, ps, o, n, rfl, N.nt.to (x1.trans (ex_nt H1')), ok, tok, T1, fun p H2 L x2 T2 fp hp tL eL => ?_⟩⟩
      have bn2 := bn.nto x2
      have npB : ∀ {a : Addr} {xs : List V}, H2 a = some (.lst xs) → a ≠ B0 := fun {a xs} e => ne_of e bn2.1 (by intro z; cases z)
      have ntB : ∀ {a : Addr} {xs : List V}, H2 a = some (.tup xs) → a ≠ B0 := fun {a xs} e => ne_of e bn2.1 (by intro z; cases z)
      refine ⟨_, Sum.inr wd, rfl, bn2.1, by rw [tkv_len, List.length_map]; exact small1000 (by omega), nt_mut (x1.trans x2) hB0 (fun _ z => by cases z), tabs_mutK2 T2 bn2.1, M ++ [(wd, p, L)], ⟨?_, fun t ht => ?_⟩, by rw [List.map_append, e1, et]; rfl, fun t ht => ?_⟩
      · rw [upd_same, tkv_new (by rw [List.map_map]; exact new), List.map_append]
        rfl
      · have keep : H2 t.2.1 = some (.lst (t.2.2.map fun q => V.ref q.1)) ∧ RowsT H2 t.2.2 := by
          rcases List.mem_append.mp ht with ht | ht
          · exact bn2.2 t ht
          · rw [List.mem_singleton.mp ht]; exact ⟨hp, tL⟩
        exact ⟨by rw [upd_ne (npB keep.1)]; exact keep.1, fun q hq => by rw [upd_ne (ntB (keep.2 q hq))]; exact keep.2 q hq⟩
      · rcases List.mem_append.mp ht with ht | ht
        · exact a1 t ht
        · rw [List.mem_singleton.mp ht]; exact eL
    rintro H2 ⟨x2, T2, M, bn, eM, aM⟩
    rw [List.length_map, List.take_length] at eM
    -- found
    intro D hD
    have y3 : Evl.Ex H2 (upd H2 D (.dT [])) := Evl.Ex.new hD
    have d3 : (upd H2 D (.dT [])) D = some (.dT []) := upd_same
    generalize upd H2 D (.dT []) = H3 at y3 d3
    have ndT : ∀ {xs : List (List Key × V)} {Hx : Hp}, Hx D = some (.dT xs) → nt Hx D = some (.dT xs) := fun {xs Hx} e => nt_of e fun _ z => by cases z
    refine ⟨Wa, wishesL, rfl, hW _, by decide, T2.ext y3, fun pl H4 L x4 T4 hpl tL pm sr => ?_⟩
    have eL := partsS_is pm sr
    refine ⟨pl, L, rfl, hpl, tL, fun p hp => partsS_head (by rw [← eL]; exact hp), fun ys sp py sy ty hsp => ?_⟩
    have y5 : Evl.Ex H4 (upd H4 sp (.lst (ys.map fun q => V.ref q.1))) := Evl.Ex.new hsp
    have s5 : (upd H4 sp (.lst (ys.map fun q => V.ref q.1))) sp = some (.lst (ys.map fun q => V.ref q.1)) := upd_same
    have ty5 := ty.to y5
    have T5 := T4.ext y5
    have x25 : Evl.Ex (nt H2) (nt (upd H4 sp (.lst (ys.map fun q => V.ref q.1)))) := (nt_ex y3).trans (x4.trans (nt_ex y5))
    have d5 : (upd H4 sp (.lst (ys.map fun q => V.ref q.1))) D = some (.dT []) := y5 _ _ (nt_some (x4 _ _ (ndT d3))).1
    generalize upd H4 sp (.lst (ys.map fun q => V.ref q.1)) = H5 at y5 s5 ty5 T5 x25 d5
    have eys : ys.map (·.2) = lotsW := by
      unfold lotsW
      exact lexL_is (by rw [← eL]; exact py) sy
    have ysl : ys.length ≤ 64 := by
      rw [← List.length_map (f := (·.2)), eys]
      exact lotsW_len
    refine ⟨sp, rfl, ⟨_, Evl.sq_of s5⟩, for_list (K := K) (a := sp) (xs := ys.map fun q => V.ref q.1)
      (fun i σ H' => (∃ x3 : Option V, σ = [some (.ref m), some (.ref B0), some (.ref D), x3, none, none]) ∧ Evl.Ex (nt H2) (nt H') ∧ Tabs T H' ∧ H' sp = some (.lst (ys.map fun q => V.ref q.1)) ∧ RowsT H' ys ∧ H' D = some (.dT (kF (costF ends dots ss ps o n) (lotsW.take i))))
      ⟨⟨_, rfl⟩, x25, T5, s5, ty5, d5⟩ (fun i σ H' _ h => Evl.sq_of h.2.2.2.1) ?_ ?_⟩
    · rintro j y σ H6 hj ⟨⟨x3, rfl⟩, x6, T6, s6, ty6, d6'⟩
      obtain ⟨q, hq, rfl⟩ := rowsT_at hj
      have mq := List.mem_of_getElem? hq
      have tq := ty6 q mq
      have gq : lotsW[j]? = some q.2 := by rw [← eys, List.getElem?_map, hq]; rfl
      have qs : q.2.Sublist wishesL := lotsW_mem.mp (List.mem_of_getElem? gq)
      have q4 : q.2.length ≤ 4 := by have := qs.length_le; omega
      have bn6 := bn.nto x6
      -- the moments
      refine ⟨.ref m, rfl, .ref q.1, rfl, q.1, rfl, ⟨_, Evl.st_of tq⟩, fun E0' hE => lc2_out (walk_tup (K := K) (a := q.1) (xs := q.2.map V.str))
        (fun i H' => Evl.Ex H6 H' ∧ ∃ L : List (Addr × List Str), H' E0' = some (.lst (L.map fun q => V.ref q.1)) ∧ RowsT H' L ∧ L.map (·.2) = avoidL ends dots ss ps o n (q.2.take i) ∧ L.length ≤ 64 * i)
        ⟨Evl.Ex.new hE, [], upd_same, (fun q hq => nomatch hq), rfl, Nat.le_refl _⟩ (fun i H' _ h => Evl.st_of (h.1 _ _ tq)) ?_ ?_⟩
      · rintro i x H7 H7' hi ⟨x7, L, d7, t7, e7, l7⟩ ⟨rfl, hx⟩
        obtain ⟨wd, hw, rfl⟩ := str_at hx
        rw [List.length_map] at hi
        have et : q.2.take (i + 1) = q.2.take i ++ [wd] := by rw [List.take_add_one, hw]; rfl
        have wm : wd ∈ M.map (·.1) := by rw [eM]; exact qs.subset (List.mem_of_getElem? hw)
        obtain ⟨t, ht, rfl⟩ := List.mem_map.mp wm
        have bn7 := bn6.nto (nt_ex x7)
        have gt : valV (tkv (M.map fun t => (t.1, V.ref t.2.1))) (Sum.inr t.1) = some (.ref t.2.1) := tkv_val (by rw [List.map_map]; exact eM ▸ wishes_nd) (List.mem_map.mpr ⟨t, ht, rfl⟩)
        obtain ⟨l7', t7'⟩ := bn7.2 t ht
        have tl : t.2.2.length ≤ 64 := by
          have := congrArg List.length (aM t ht)
          rw [List.length_map] at this
          rw [this]
          exact brokenL_len ml
        refine ⟨rfl, yes_if ⟨.ref B0, rfl, .str t.1, rfl, B0, .ref t.2.1, rfl, .inl ⟨_, Sum.inr t.1, .inl bn7.1, rfl, gt.symm⟩, t.2.1, rfl, ⟨_, Evl.sq_of l7'⟩, lc2_in (walk_list (xs := t.2.2.map fun q => V.ref q.1))
          (fun j H' => Evl.Ex H6 H' ∧ H' t.2.1 = some (.lst (t.2.2.map fun q => V.ref q.1)) ∧ RowsT H' t.2.2 ∧ RowsT H' L ∧ H' E0' = some (.lst ((L ++ t.2.2.take j).map fun q => V.ref q.1)))
          ⟨x7, l7', t7', t7, by rw [List.take_zero, List.append_nil]; exact d7⟩ (fun j H' _ h => Evl.sq_of h.2.1) ?_ ?_⟩⟩
        · rintro j v H8 H8' hj ⟨x8, l8, tM8, t8, d8⟩ ⟨rfl, hv⟩
          obtain ⟨r, hr', rfl⟩ := rowsT_at hv
          have em : t.2.2.take (j + 1) = t.2.2.take j ++ [r] := by rw [List.take_add_one, hr']; rfl
          have nE : t.2.1 ≠ E0' := fun z => by
            have := bn6.2 t ht
            rw [z] at this
            rw [hE] at this
            cases this.1
          refine ⟨rfl, yes_if ⟨.ref r.1, rfl, _, d8, ?_, x8.mut hE, by rw [upd_ne nE]; exact l8, tM8.mut d8, t8.mut d8, ?_⟩⟩
          · rw [List.length_map, List.length_append, List.length_take]
            exact small1000 (by omega)
          · rw [upd_same, em, ← List.append_assoc, List.map_append (l₂ := [r])]
            rfl
        · rintro H8 ⟨x8, l8, tM8, t8, d8⟩
          rw [List.length_map, List.take_length] at d8
          refine ⟨x8, L ++ t.2.2, d8, t8.app tM8, ?_, by rw [List.length_append]; omega⟩
          rw [List.map_append, e7, aM t ht, et]
          unfold avoidL
          rw [List.flatMap_append, List.flatMap_singleton]
      rintro H7 ⟨x7, L, d7, t7, e7, l7⟩
      rw [List.length_map, List.take_length] at e7
      rw [List.length_map] at l7
      have T7 := T6.ext x7
      have x27 := x6.trans (nt_ex x7)
      refine ⟨m, E0', L, ends, dots, ss, ps, o, n, rfl, N.nt.to ((x2.trans x27).trans (ex_nt H7)), ok, d7, t7, by omega, T7, fun H8 x8 T8 => ?_⟩
      have ev : numV (costO (safeS (fun on => decide (on ∈ L.map (·.2))) (moving ends dots o n)) (moving ends dots o n)) = costF ends dots ss ps o n q.2 := by rw [e7]; rfl
      rw [ev]
      have x68 := (nt_ex x7).trans x8
      have d8 : H8 D = some (.dT (kF (costF ends dots ss ps o n) (lotsW.take j))) := (nt_some (x68 _ _ (ndT d6'))).1
      have ej : lotsW.take (j + 1) = lotsW.take j ++ [q.2] := by rw [List.take_add_one, gq]; rfl
      have new : q.2 ∉ lotsW.take j := fun h => by
        have h2 : (lotsW.take (j + 1)).Nodup := lotsW_nd.sublist (List.take_sublist _ _)
        rw [ej] at h2
        exact (List.nodup_append.mp h2).2.2 _ h _ (List.mem_singleton.mpr rfl) rfl
      have tq8 : H8 q.1 = some (.tup (q.2.map V.str)) := (nt_some (x68 _ _ (nt_tup tq))).1
      have s8 : H8 sp = some (.lst (ys.map fun q => V.ref q.1)) := (nt_some (x68 _ _ (nt_lst s6))).1
      have ty8 : RowsT H8 ys := ty6.nt.to (x68.trans (ex_nt H8))
      refine ⟨.ref D, rfl, .ref q.1, rfl, D, _, rfl, DPut.t (k := q.2.map Sum.inr) d8 (by rw [keyS]; exact tq8) (by rw [kF_len]; exact small1000 (by have := lotsW_len; rw [List.length_take]; omega)), ⟨_, rfl⟩, nt_mut (x6.trans x68) hD (fun _ z => by cases z), tabs_mutT T8 d8, ?_, fun q' hq' => ?_, ?_⟩
      · rw [upd_ne (ne_of s8 d8 (by intro z; cases z))]; exact s8
      · rw [upd_ne (ne_of (ty8 q' hq') d8 (by intro z; cases z))]; exact ty8 q' hq'
      · rw [upd_same, kF_new new, ej]
    · rintro σ H6 ⟨⟨x3, rfl⟩, x6, T6, s6, ty6, d6'⟩
      rw [List.length_map, ← List.length_map (f := (·.2)), eys, List.take_length] at d6'
      exact ⟨.ref D, rfl, k D H6 (x2.trans x6) T6 (nt_none x2 hD) d6'⟩
/-! ### saved -/
def subV : Option Nat → Option Nat → V
  | some a, some b => .int ((a : Int) - (b : Int))
  | _, _ => .non
def spSaved (T : List (Addr × Str)) (C : Addr) : Sp := fun vs H Q _ => ∃ (m c c2 : Addr) (ws ws2 ends dots ss ps : List Str) (o n : Str → List (Str × V)), vs = [.ref m, .ref c, .ref c2] ∧ NetAt C H m ends dots ss ps o n ∧ ModelOk ends dots ss ps ∧ TabsOk ends dots o n ∧ SqS K H c ws ∧ ws.Nodup ∧ (∀ x ∈ ws, x ∈ wishesL) ∧ SqS K H c2 ws2 ∧ ws2.Nodup ∧ (∀ x ∈ ws2, x ∈ wishesL) ∧ (H c2 = some (.lst (ws2.map V.str)) ∨ H c2 = some (.tup (ws2.map V.str))) ∧ Tabs T H ∧
  ∀ H', Evl.Ex (nt H) (nt H') → Tabs T H' → Q (subV (costO (safeS (brkOf ends dots ss ps o n ws) (moving ends dots o n)) (moving ends dots o n)) (costO (safeS (brkOf ends dots ss ps o n ws2) (moving ends dots o n)) (moving ends dots o n))) H'
abbrev nSaved : List Str := ["net", "wishes", "other", "first", "second"]
theorem sc_saved : FnScope nSaved ["net", "wishes", "other"] (defScope p_saved) := ⟨rfl, rfl, rfl, by decide +kernel, rfl, by decide +kernel, by decide +kernel⟩
theorem ok_saved {f C : Addr} {fd : FuncData} {T : List (Addr × Str)} (F : Fun K "saved" "saved" p_saved f fd) (C1 : Cal P w K mg base 8 "cost" ["net", "wishes"] (spCost (K := K) T C)) : FnOk P w K mg base CX0 9 f fd ["net", "wishes", "other"] (spSaved (K := K) T C) := by
  obtain ⟨f1, fd1, F1, k1, b1, g1⟩ := C1.ex
  refine F.ok sc_saved (fun vs H Q E h => ?_) (fun cdv A outer s H vs Q E hr h => ?_)
  · obtain ⟨m, c, c2, ws, ws2, ends, dots, ss, ps, o, n, rfl, _⟩ := h
    rfl
  · obtain ⟨m, c, c2, ws, ws2, ends, dots, ss, ps, o, n, rfl, N, ok, tok, hc, hn, hs, hc2, hn2, hs2, hk2, hT, k⟩ := h
    have nd := sc_saved.nd
    have r8 : Room 8 _ := hr.mono (by decide)
    refine ⟨_, pss_cons (ps_par (i := 3) (j := 4) (by rfl) nd rfl rfl (by decide) rfl rfl (pa_cons (pe_call F1 r8 rfl g1 k1 b1 .nil pass0 (pa_cons (pv 0) (pa_cons (pv 1) pa_nil))) (pa_cons (pe_call F1 r8 rfl g1 k1 b1 .nil pass0 (pa_cons (pv 0) (pa_cons (pv 2) pa_nil))) pa_nil)) (by rfl))
      (pss_cons (ps_if (PW.pt (pw_or (pt_cmpR op_isN (pv 3) pe_non (nomark _)) (pw_or1 (pt_cmpR op_isN (pv 4) pe_non (nomark _))))) (pss_one (ps_ret pe_non)) pss_nil)
      (pss_one (ps_ret (pe_op op_sub (pv 3) (pv 4))))), ?_⟩
    refine ⟨.ref m, rfl, .ref c, rfl, m, c, ws, ends, dots, ss, ps, o, n, rfl, N, ok, tok, hc, hn, hs, hT, fun H1 x1 T1 => ?_⟩
    have hc21 : SqS K H1 c2 ws2 := hk2.imp (fun h => Evl.sq_of (nt_some (x1 _ _ (nt_lst h))).1) fun h => Evl.st_of (nt_some (x1 _ _ (nt_tup h))).1
    refine ⟨.ref m, rfl, .ref c2, rfl, m, c2, ws2, ends, dots, ss, ps, o, n, rfl, N.nt.to (x1.trans (ex_nt H1)), ok, tok, hc21, hn2, hs2, T1, fun H2 x2 T2 => ⟨_, _, rfl, ?_⟩⟩
    have kk := k H2 (x1.trans x2) T2
    generalize costO (safeS (brkOf ends dots ss ps o n ws) (moving ends dots o n)) (moving ends dots o n) = c1 at kk
    generalize costO (safeS (brkOf ends dots ss ps o n ws2) (moving ends dots o n)) (moving ends dots o n) = c3 at kk
    cases c1 with
    | none => exact ⟨.non, rfl, rfl, true, rfl, iteT (iteT kk)⟩
    | some a =>
      cases c3 with
      | none => exact ⟨.int (a : Int), rfl, rfl, false, rfl, iteF ⟨.non, rfl, rfl, true, rfl, iteT kk⟩⟩
      | some b => exact ⟨.int (a : Int), rfl, rfl, false, rfl, iteF ⟨.int (b : Int), rfl, rfl, false, rfl, iteF ⟨.int (a : Int), rfl, .int (b : Int), rfl, _, _, rfl, rfl, kk⟩⟩⟩
end
end Rw
end T_UH

section T_UM
set_option Elab.async false
set_option linter.all false
set_option maxRecDepth 100000
set_option maxHeartbeats 16000000
namespace Rw
open PySem L2 PyProof.Rows LamX
/-! ### rounds that stand late nodes -/
noncomputable def lateL (d : List Str) (many : Nat) : List (List Str) := ((partsS d).filter fun lt => decide (lt.length ≤ many)).map fun lt => d.filter fun z => decide (z ∉ lt)
/-- the rounds that are rounds as well where so many nodes are late -/
noncomputable def stR (RR : List Str → List (List Str)) (many : Nat) (d : List Str) : List (List Str) := (RR d).filter fun p => (lateL d many).all fun e => decide (p ∈ RR e)
end Rw
end T_UM

section T_LS
set_option Elab.async false
set_option linter.all false
set_option maxRecDepth 100000
set_option maxHeartbeats 8000000
namespace Rw
open PySem L2 PyProof.Rows
theorem mixS_mono {ys zs p zs' p' : List Str} (h : ∀ z, z ∈ zs ∨ z ∈ p → z ∈ zs' ∨ z ∈ p') : (mixS ys zs p).Sublist (mixS ys zs' p') := by
  have e : mixS ys zs p = (mixS ys zs' p').filter fun z => decide (z ∈ zs ∨ z ∈ p) := by
    unfold mixS
    rw [List.filter_filter]
    refine List.filter_congr fun z _ => ?_
    by_cases m : z ∈ zs ∨ z ∈ p
    · rw [decide_eq_true m, decide_eq_true (h z m)]
      rfl
    · rw [decide_eq_false m]
      rfl
  rw [e]
  exact List.filter_sublist
theorem wish_data {K : PySem.W.Frag} {H : Hp} {z : Str} (hz : z ∈ wishes4) : DataV K H (.str z) := by
  rcases List.mem_cons.mp hz with rfl | hz
  · exact strV_data (by decide +kernel)
  rcases List.mem_cons.mp hz with rfl | hz
  · exact strV_data (by decide +kernel)
  rcases List.mem_cons.mp hz with rfl | hz
  · exact strV_data (by decide +kernel)
  rcases List.mem_cons.mp hz with rfl | hz
  · exact strV_data (by decide +kernel)
  · cases hz
/-! ### a round stands so many late nodes: as the law looks at it -/
theorem stands_iff {bk : List Str → Bool} {ys d q : List Str} {many : Nat} (nd : ys.Nodup) (hd : d.Sublist ys) (hq : q.Sublist (restOf d ys)) : q ∈ stR (safeS bk ys) many d ↔ ∀ on, on.Sublist (mixS ys d q) → (d.filter fun z => decide (z ∉ on)).length ≤ many → bk on = false := by
  obtain ⟨qs, qd⟩ := rest_lot hq
  constructor
  · intro h on hon le
    obtain ⟨_, h2⟩ := List.mem_filter.mp h
    rw [List.all_eq_true] at h2
    have e1 := of_decide_eq_true (h2 _ (List.mem_map.mpr ⟨d.filter fun z => decide (z ∉ on), List.mem_filter.mpr ⟨partsS_has List.filter_sublist, decide_eq_true le⟩, rfl⟩))
    obtain ⟨_, e2⟩ := safeS_mem.mp e1
    have e3 := okB_iff.mp e2 (q.filter fun z => decide (z ∈ on)) List.filter_sublist
    have e4 : mixS ys (d.filter fun z => decide (z ∉ d.filter fun z => decide (z ∉ on))) (q.filter fun z => decide (z ∈ on)) = on := by
      refine sub_eq (mixS_sub _ _ _) (hon.trans (mixS_sub _ _ _)) nd fun x => ?_
      rw [mixS_mem (List.filter_sublist.trans hd) (List.filter_sublist.trans qs)]
      constructor
      · rintro (h | h)
        · obtain ⟨h1, h2⟩ := List.mem_filter.mp h
          exact Decidable.byContradiction fun c => of_decide_eq_true h2 (List.mem_filter.mpr ⟨h1, decide_eq_true c⟩)
        · exact of_decide_eq_true (List.mem_filter.mp h).2
      · intro h
        rcases (mixS_mem hd qs).mp (hon.subset h) with h2 | h2
        · exact .inl (List.mem_filter.mpr ⟨h2, decide_eq_true fun c => of_decide_eq_true (List.mem_filter.mp c).2 h⟩)
        · exact .inr (List.mem_filter.mpr ⟨h2, decide_eq_true h⟩)
    rw [e4] at e3
    exact e3
  · intro h
    refine List.mem_filter.mpr ⟨safeS_mem.mpr ⟨hq, okB_iff.mpr fun q' hq' => ?_⟩, ?_⟩
    · refine h _ ?_ ?_
      · exact mixS_mono fun z hz => hz.imp id fun g => hq'.subset g
      · rw [show (d.filter fun z => decide (z ∉ mixS ys d q')) = [] from List.filter_eq_nil_iff.mpr fun z hz c => of_decide_eq_true c ((mixS_mem hd (hq'.trans qs)).mpr (.inl hz))]
        exact Nat.zero_le _
    · rw [List.all_eq_true]
      intro e he
      obtain ⟨lt, hlt, rfl⟩ := List.mem_map.mp he
      obtain ⟨l1, l2⟩ := List.mem_filter.mp hlt
      have ls := partsS_sub l1
      refine decide_eq_true (safeS_mem.mpr ⟨lot_rest nd qs fun x hx m => qd x hx (List.filter_sublist.subset m), okB_iff.mpr fun q' hq' => ?_⟩)
      refine h _ ?_ ?_
      · exact mixS_mono fun z hz => hz.imp (fun g => List.filter_sublist.subset g) fun g => hq'.subset g
      · refine Nat.le_trans (nodup_le _ lt ((nd.sublist hd).sublist List.filter_sublist) fun z hz => ?_) (of_decide_eq_true l2)
        obtain ⟨z1, z2⟩ := List.mem_filter.mp hz
        refine Decidable.byContradiction fun c => of_decide_eq_true z2 ((mixS_mem (List.filter_sublist.trans hd) (hq'.trans qs)).mpr (.inl (List.mem_filter.mpr ⟨z1, decide_eq_true c⟩)))
section
variable {P : Program} {w : World} {K : PySem.W.Frag} {mg : Str → Option Value} {base : Heap}
def spStandsL (K : PySem.W.Frag) : Sp := fun vs H Q _ => ∃ (b r p c : Addr) (late : Nat) (f : List Str → List Str) (bk : List Str → Bool) (ys d q ws : List Str), vs = [.ref b, .ref r, .ref p, .ref c, .int (late : Int)] ∧ BadAt H b f (partsS ys) ∧ ys.length ≤ 6 ∧ ys.Nodup ∧ sortedS ys = true ∧
  H r = some (.tup (d.map V.str)) ∧ H p = some (.tup (q.map V.str)) ∧ d.Sublist ys ∧ q.Sublist (restOf d ys) ∧ SqT K H c (ws.map V.str) ∧ ws.length ≤ 4 ∧ (∀ x ∈ ws, x ∈ wishes4) ∧ (∀ on, on.Sublist ys → (bk on = true ↔ ∃ x ∈ ws, x ∈ f on)) ∧
  ∀ H', Evl.Ex H H' → Q (.bl (decide (q ∈ stR (safeS bk ys) late d))) H'
abbrev nStandsL : List Str := ["bad", "ready", "part", "wants", "late", "on", "dot", "sort"]
theorem sc_standsL : FnScope nStandsL ["bad", "ready", "part", "wants", "late"] (defScope s_stands) := ⟨rfl, rfl, rfl, by decide +kernel, rfl, by decide +kernel, by decide +kernel⟩
theorem ok_standsL {f : Addr} {fd : FuncData} (F : Fun K "_law_stands" "_law_stands" s_stands f fd) (C2 : Cal P w K mg base 1 "_law_lots" ["some"] (spLots K)) (mLen : mg "len" = none) : FnOk P w K mg base CX0 2 f fd ["bad", "ready", "part", "wants", "late"] (spStandsL K) := by
  obtain ⟨f2, fd2, F2, k2, b2, g2⟩ := C2.ex
  refine F.ok sc_standsL (fun vs H Q E h => ?_) (fun cdv A outer s H vs Q E hr h => ?_)
  · obtain ⟨b, r, p, c, late, ff, bk, ys, d, q, ws, rfl, _⟩ := h
    rfl
  · obtain ⟨b, r, p, c, late, ff, bk, ys, d, q, ws, rfl, BA, l6, ynd, yso, hr0, hp0, ds, qs, hc, w4, wm, hbk, k⟩ := h
    have nd := sc_standsL.nd
    have hu := hu_of hr
    refine ⟨_, pss_cons (ps_for PassesOwn.never rfl (pi_list (pe_call F2 hr rfl g2 k2 b2 .nil pass0 (pa_cons (pe_op op_catU (pv 1) (pv 2)) pa_nil))) (pg_name (i := 5) nd rfl (.inr rfl))
        (pss_one (ps_if (PW.pt (pw_and (pt_cmpR op_le (pe_callB call_len (by rfl) mLen PySem.boot_len (pa_cons
              (pe_lc (own := [("dot", 6)]) (g := gName 6) (tt := tTest (tOp (rIn K true) (tVar 6) (tVar 5))) (te := tVar 6) rfl nd (pi_tup (pv 1)) (blkOk_by (own := [("dot", 6)]) (N := nStandsL) (sc := defScope s_stands) (by decide +kernel))
                (fun _ _ _ _ _ => pg_name (i := 6) nd rfl (Or.inl rfl)) (fun _ _ _ _ _ => pts_one (pt_cmpR op_notIn_seq (pv 6) (pv 5) rfl)) (fun _ _ _ _ _ => pv 6)) pa_nil)) (pv 4) (nomark _))
            (pw_and1 (pt_cmpR (op_neD hr.units) (pe_lc (own := [("sort", 7)]) (g := gName 7) (tt := tTest (tOp (rIn K false) (tVar 7) (tDGet (tVar 0) (tVar 5)))) (te := tVar 7) rfl nd (pi_tup (pv 3)) (blkOk_by (own := [("sort", 7)]) (N := nStandsL) (sc := defScope s_stands) (by decide +kernel))
                (fun _ _ _ _ _ => pg_name (i := 7) nd rfl (Or.inl rfl)) (fun _ _ _ _ _ => pts_one (pt_cmpR op_in_seq (pv 7) (pe_dget hu (pv 0) (pv 5) (fun _ _ => rfl)) rfl)) (fun _ _ _ _ _ => pv 7)) (pe_lst pa_nil) (nomark _))))) (pss_one (ps_ret pe_bl)) pss_nil)))
      (pss_one (ps_ret pe_bl)), ?_⟩
    obtain ⟨qsub, qd⟩ := rest_lot qs
    have dl : d.length ≤ 6 := Nat.le_trans ds.length_le l6
    have ql : q.length ≤ 6 := Nat.le_trans qsub.length_le l6
    refine ⟨.ref r, rfl, .ref p, rfl, r, p, _, _, rfl, rfl, hr0, hp0, Nat.le_of_lt (small1000 (by rw [List.length_map, List.length_map]; omega)), fun t0 H1 x1 ht0 => ?_⟩
    rw [← List.map_append] at ht0
    have nd2 : (d ++ q).Nodup := by
      rw [List.nodup_append]
      exact ⟨ynd.sublist ds, ynd.sublist qsub, fun a ha b hb e => qd b hb (e ▸ ha)⟩
    have l62 : (d ++ q).length ≤ 6 := Nat.le_trans (nodup_le _ ys nd2 fun z hz => (List.mem_append.mp hz).elim (fun h => ds.subset h) fun h => qsub.subset h) l6
    refine ⟨t0, d ++ q, rfl, .inr (Evl.st_of ht0), l62, fun pl H2 L js jp jso x2 _ hpl tL eL => ?_⟩
    have ejs : js = mixS ys d q := mixS_is yso ynd ds qsub qd jp jso
    rw [ejs] at eL
    have x12 := x1.trans x2
    obtain ⟨T, hb, eT, hT⟩ := BA.ex
    have Tnd : (T.map (·.1)).Nodup := by rw [eT]; exact partsS_nodup ynd
    refine ⟨pl, rfl, ⟨_, Evl.sq_of hpl⟩, for_list (K := K) (a := pl) (xs := L.map fun q => V.ref q.1)
      (fun i σ H' => (∃ x5 : Option V, σ = [some (.ref b), some (.ref r), some (.ref p), some (.ref c), some (.int (late : Int)), x5, none, none]) ∧ Evl.Ex H2 H' ∧ ∀ on ∈ (L.take i).map (·.2), (d.filter fun z => decide (z ∉ on)).length ≤ late → bk on = false)
      ⟨⟨_, rfl⟩, Evl.Ex.refl _, fun on h => nomatch h⟩ (fun i σ H' _ h => Evl.sq_of (h.2.1 _ _ hpl)) ?_ ?_⟩
    · rintro i v σ H3 hi ⟨⟨x5, rfl⟩, x3, good⟩
      obtain ⟨u, hu', rfl⟩ := rowsT_at hi
      have mu := List.mem_of_getElem? hu'
      have us : u.2.Sublist (mixS ys d q) := partsS_sub (by rw [← eL]; exact List.mem_map_of_mem mu)
      have uy : u.2.Sublist ys := us.trans (mixS_sub _ _ _)
      have eu : L.take (i + 1) = L.take i ++ [u] := by rw [List.take_add_one, hu']; rfl
      have step : ∀ {Hx : Hp}, Evl.Ex H2 Hx → ((d.filter fun z => decide (z ∉ u.2)).length ≤ late → bk u.2 = false) → (∃ x5 : Option V, [some (V.ref b), some (.ref r), some (.ref p), some (.ref c), some (.int (late : Int)), some (.ref u.1), none, none] = [some (.ref b), some (.ref r), some (.ref p), some (.ref c), some (.int (late : Int)), x5, none, none]) ∧ Evl.Ex H2 Hx ∧ ∀ on ∈ (L.take (i + 1)).map (·.2), (d.filter fun z => decide (z ∉ on)).length ≤ late → bk on = false := fun {Hx} xx g => ⟨⟨_, rfl⟩, xx, fun on hon => by
        rw [eu, List.map_append] at hon
        rcases List.mem_append.mp hon with hon | hon
        · exact good on hon
        · rw [List.mem_singleton.mp hon]
          exact g⟩
      have x03 := x12.trans x3
      have tu := x3 _ _ (tL u mu)
      refine ⟨.ref r, rfl, r, rfl, ⟨_, Evl.st_of (x03 _ _ hr0)⟩, fun D hD => lc_tup (K := K) (a := r) (xs := d.map V.str)
        (fun j H' => Evl.Ex H3 H' ∧ H' D = some (.lst (((d.take j).filter fun z => decide (z ∉ u.2)).map V.str))) ⟨Evl.Ex.new hD, upd_same⟩ (fun j H' _ h => Evl.st_of (h.1 _ _ (x03 _ _ hr0))) ?_ ?_⟩
      · rintro j y H4 hj ⟨x4, d4⟩
        obtain ⟨z, hz, rfl⟩ := str_at hj
        have ez : d.take (j + 1) = d.take j ++ [z] := by rw [List.take_add_one, hz]; rfl
        have fl : ((d.take j).filter fun z => decide (z ∉ u.2)).length ≤ 100 := Nat.le_trans (List.length_filter_le _ _) (by rw [List.length_take]; omega)
        refine ⟨rfl, .str z, rfl, .ref u.1, rfl, u.1, u.2.map V.str, rfl, .inr (Evl.st_of (x4 _ _ tu)), rfl, flat_strs _, _, rfl, ?_⟩
        rw [inV_str]
        by_cases m : z ∈ u.2
        · rw [decide_eq_true m]
          refine iteF ⟨x4, ?_⟩
          rw [d4, ez, List.filter_append, List.filter_cons_of_neg (by simpa using m), List.filter_nil, List.append_nil]
        · rw [decide_eq_false m]
          refine iteT ⟨.str z, rfl, _, d4, by rw [List.length_map]; exact small1000 (by omega), x4.mut hD, ?_⟩
          rw [upd_same, ez, List.filter_append, List.filter_cons_of_pos (by simpa using m), List.filter_nil, List.map_append]
          rfl
      rintro H4 ⟨x4, d4⟩
      rw [List.length_map, List.take_length] at d4
      refine ⟨.ref D, _, rfl, .inl ⟨_, Evl.sq_of d4, rfl⟩, .int (late : Int), rfl, _, _, rfl, rfl, _, rfl, ?_⟩
      rw [List.length_map]
      by_cases le : (d.filter fun z => decide (z ∉ u.2)).length ≤ late
      · rw [decide_eq_true (show (((d.filter fun z => decide (z ∉ u.2)).length : Nat) : Int) ≤ (late : Int) by omega)]
        refine iteT ?_
        have x34 := x3.trans x4
        have x04 := x03.trans x4
        obtain ⟨t, ht, ett⟩ : ∃ t ∈ T, t.1 = u.2 := by
          have hm : u.2 ∈ T.map (·.1) := by rw [eT]; exact partsS_has uy
          obtain ⟨t, h1, h2⟩ := List.mem_map.mp hm
          exact ⟨t, h1, h2⟩
        have gt : valV (kT T) (u.2.map Sum.inr) = some (.ref t.2) := by rw [← ett]; exact kT_get Tnd ht
        have lt := hT t ht
        rw [ett] at lt
        refine ⟨.ref c, rfl, c, rfl, ⟨_, Evl.ex_t x04 hc⟩, fun D2 hD2 => lc_tup (K := K) (a := c) (xs := ws.map V.str)
          (fun j H' => Evl.Ex H4 H' ∧ H' D2 = some (.lst (((ws.take j).filter fun x => decide (x ∈ ff u.2)).map V.str))) ⟨Evl.Ex.new hD2, upd_same⟩ (fun j H' _ h => Evl.ex_t (x04.trans h.1) hc) ?_ ?_⟩
        · rintro j y H5 hj ⟨x5, d5⟩
          obtain ⟨z, hz, rfl⟩ := str_at hj
          have ez : ws.take (j + 1) = ws.take j ++ [z] := by rw [List.take_add_one, hz]; rfl
          have fl : ((ws.take j).filter fun x => decide (x ∈ ff u.2)).length ≤ 100 := Nat.le_trans (List.length_filter_le _ _) (by rw [List.length_take]; omega)
          refine ⟨rfl, .str z, rfl, .ref b, rfl, .ref u.1, rfl, b, .ref t.2, rfl, .inr ⟨kT T, u.2.map Sum.inr, u.1, .inl ((x04.trans x5) _ _ hb), rfl, by rw [keyS]; exact (x4.trans x5) _ _ tu, gt.symm⟩, t.2, (ff u.2).map V.str, rfl, .inl (Evl.sq_of ((x04.trans x5) _ _ lt)), rfl, flat_strs _, _, rfl, ?_⟩
          rw [inV_str]
          by_cases m : z ∈ ff u.2
          · rw [decide_eq_true m]
            refine iteT ⟨.str z, rfl, _, d5, by rw [List.length_map]; exact small1000 (by omega), x5.mut hD2, ?_⟩
            rw [upd_same, ez, List.filter_append, List.filter_cons_of_pos (by simpa using m), List.filter_nil, List.map_append]
            rfl
          · rw [decide_eq_false m]
            refine iteF ⟨x5, ?_⟩
            rw [d5, ez, List.filter_append, List.filter_cons_of_neg (by simpa using m), List.filter_nil, List.append_nil]
        rintro H5 ⟨x5, d5⟩
        rw [List.length_map, List.take_length] at d5
        refine ⟨Nat.zero_le _, fun e0 he0 => ?_⟩
        have y6 : Evl.Ex H5 (upd H5 e0 (.lst [])) := Evl.Ex.new he0
        obtain ⟨dd, g1, g2, g3⟩ := data_list (K := K) (Evl.sq_of (y6 _ _ d5)) fun v hv => by
          obtain ⟨z, hz, rfl⟩ := List.mem_map.mp hv
          exact wish_data (wm z (List.mem_filter.mp hz).1)
        refine ⟨dd, .list [], g1, .lst (Evl.sq_of upd_same) .nil, g2, by rfl, _, rfl, ?_⟩
        rw [g3, show ((ws.filter fun x => decide (x ∈ ff u.2)).map V.str).isEmpty = (ws.filter fun x => decide (x ∈ ff u.2)).isEmpty by cases ws.filter fun x => decide (x ∈ ff u.2) <;> rfl]
        have eb : (!(ws.filter fun x => decide (x ∈ ff u.2)).isEmpty) = bk u.2 := by
          rw [Bool.eq_iff_iff, hbk u.2 uy]
          constructor
          · intro h
            cases hf : ws.filter fun x => decide (x ∈ ff u.2) with
            | nil => rw [hf] at h; cases h
            | cons x l =>
              have hx : x ∈ ws.filter fun x => decide (x ∈ ff u.2) := by rw [hf]; exact List.mem_cons_self
              obtain ⟨h1, h2⟩ := List.mem_filter.mp hx
              exact ⟨x, h1, of_decide_eq_true h2⟩
          · rintro ⟨x, h1, h2⟩
            have hx : x ∈ ws.filter fun x => decide (x ∈ ff u.2) := List.mem_filter.mpr ⟨h1, decide_eq_true h2⟩
            cases hf : ws.filter fun x => decide (x ∈ ff u.2) with
            | nil => rw [hf] at hx; cases hx
            | cons x l => rfl
        rw [eb]
        cases hb' : bk u.2 with
        | false => exact iteF (step (x34.trans (x5.trans y6)) fun _ => hb')
        | true =>
          refine iteT ?_
          have no : ¬ q ∈ stR (safeS bk ys) late d := fun h => by
            have := (stands_iff ynd ds qs).mp h u.2 us le
            rw [hb'] at this
            cases this
          have := k _ (x04.trans (x5.trans y6))
          rw [decide_eq_false no] at this
          exact this
      · rw [decide_eq_false (show ¬ (((d.filter fun z => decide (z ∉ u.2)).length : Nat) : Int) ≤ (late : Int) by omega)]
        exact iteF (iteF (step (x3.trans x4) fun h => absurd h le))
    · rintro σ H3 ⟨⟨x5, rfl⟩, x3, good⟩
      rw [List.length_map, List.take_length, eL] at good
      have := k _ (x12.trans x3)
      rw [decide_eq_true ((stands_iff ynd ds qs).mpr fun on hon le => good on (partsS_has hon) le)] at this
      exact this
end
end Rw
end T_LS

section T_LF
set_option Elab.async false
set_option linter.all false
set_option maxRecDepth 100000
set_option maxHeartbeats 16000000
namespace Rw
open PySem L2 PyProof.Rows LamX
theorem cost_no {bk : List Str → Bool} {ys : List Str} {many : Nat} (h : [] ∉ stR (safeS bk ys) many ys) : costO (stR (safeS bk ys) many) ys = none := by
  refine costO_none (.inl ?_)
  cases e : stR (safeS bk ys) many ys with
  | nil => rfl
  | cons p l =>
    exfalso
    have hp : p ∈ stR (safeS bk ys) many ys := by rw [e]; exact List.mem_cons_self
    have hs := (safeS_mem.mp (List.mem_filter.mp hp).1).1
    rw [show restOf ys ys = [] from List.filter_eq_nil_iff.mpr fun z hz c => of_decide_eq_true c hz] at hs
    rw [List.sublist_nil.mp hs] at hp
    exact h hp
section
variable {P : Program} {w : World} {K : PySem.W.Frag} {mg : Str → Option Value} {base : Heap}
/-! ### how few rounds plans have: the law's own search -/
def spFewL (K : PySem.W.Frag) : Sp := fun vs H Q _ => ∃ (m tb db sb pb b c : Addr) (ends dots ss ps : List Str) (rows : List (Str × V)) (o n : Str → List (Str × V)) (late : Nat) (f : List Str → List Str) (bk : List Str → Bool) (ws : List Str), vs = [.ref m, .ref b, .ref c, .int (late : Int)] ∧ ModelAt H m tb db sb pb ends dots ss ps rows ∧ RowsAt H ends dots rows o n ∧
  BadAt H b f (partsS (moving ends dots o n)) ∧ SqT K H c (ws.map V.str) ∧ ws.length ≤ 4 ∧ (∀ x ∈ ws, x ∈ wishes4) ∧ (∀ on, on.Sublist (moving ends dots o n) → (bk on = true ↔ ∃ x ∈ ws, x ∈ f on)) ∧
  ∀ H', Evl.Ex H H' → Q (numV (costO (stR (safeS bk (moving ends dots o n)) late) (moving ends dots o n))) H'
abbrev nFewL : List Str := ["model", "bad", "wants", "late", "every", "now", "count_here", "seen", "behind", "ready", "part", "later", "dot"]
theorem sc_fewL : FnScope nFewL ["model", "bad", "wants", "late"] (defScope s_fewest) := ⟨rfl, rfl, rfl, by decide +kernel, rfl, by decide +kernel, by decide +kernel⟩
theorem ok_fewL {f : Addr} {fd : FuncData} (F : Fun K "_law_fewest" "_law_fewest" s_fewest f fd) (C1 : Cal P w K mg base 1 "_law_moving_dots" ["model"] spMoves) (C2 : Cal P w K mg base 1 "_law_lots" ["some"] (spLots K)) (C3 : Cal P w K mg base 1 "_law_join" ["one", "beside"] (spJoinL K)) (C4 : Cal P w K mg base 2 "_law_stands" ["bad", "ready", "part", "wants", "late"] (spStandsL K))
    (mTup : mg "tuple" = none) : FnOk P w K mg base CX0 3 f fd ["model", "bad", "wants", "late"] (spFewL K) := by
  obtain ⟨f1, fd1, F1, k1, b1, g1⟩ := C1.ex
  obtain ⟨f2, fd2, F2, k2, b2, g2⟩ := C2.ex
  obtain ⟨f3, fd3, F3, k3, b3, g3⟩ := C3.ex
  obtain ⟨f4, fd4, F4, k4, b4, g4⟩ := C4.ex
  refine F.ok sc_fewL (fun vs H Q E h => ?_) (fun cdv A outer s H vs Q E hr h => ?_)
  · obtain ⟨m, tb, db, sb, pb, b, c, ends, dots, ss, ps, rows, o, n, late, ff, bk, ws, rfl, _⟩ := h
    rfl
  · obtain ⟨m, tb, db, sb, pb, b, c, ends, dots, ss, ps, rows, o, n, late, ff, bk, ws, rfl, MA, ro, BA, hc, w4, wm, hbk, k⟩ := h
    have nd := sc_fewL.nd
    have hu := hu_of hr
    have r1 : Room 1 _ := hr.mono (by decide)
    have r2 : Room 2 _ := hr.mono (by decide)
    refine ⟨_, pss_cons (ps_par3 (i := 4) (j := 5) (l := 6) (by rfl) nd rfl rfl rfl (by decide) (by decide) (by decide) rfl rfl rfl (pa_cons (pe_callTy call_tuple_of (by rfl) mTup (by decide +kernel) (pa_cons (pe_call F1 r1 rfl g1 k1 b1 .nil pass0 (pa_cons (pv 0) pa_nil)) pa_nil)) (pa_cons (pe_lst (pa_cons (pe_tup pa_nil) pa_nil)) (pa_cons pe_int pa_nil))) (by rfl))
      (pss_cons (ps_if (pt_not (pt_val (pe_call F4 r2 rfl g4 k4 b4 .nil pass0 (pa_cons (pv 1) (pa_cons (pv 4) (pa_cons (pe_tup pa_nil) (pa_cons (pv 2) (pa_cons (pv 3) pa_nil)))))))) (pss_one (ps_ret pe_non)) pss_nil)
      (pss_cons (ps_set (i := 7) nd rfl (.inl rfl) (pe_dispT hu (pe_tup pa_nil) pe_bl))
      (pss_cons (ps_while PassesOwn.never (pt_cmpR (op_neD hr.units) (pv 5) (pe_lst pa_nil) (nomark _))
        (pss_cons (ps_if (pt_cmpR (op_inD (un65 hr)) (pv 4) (pv 5) rfl) (pss_one (ps_ret (pv 6))) pss_nil)
        (pss_cons (ps_par (i := 6) (j := 8) (by rfl) nd rfl rfl (by decide) rfl rfl (pa_cons (pe_op op_add (pv 6) pe_int) (pa_cons (pe_lst pa_nil) pa_nil)) (by rfl))
        (pss_cons (ps_for PassesOwn.never rfl (pi_list (pv 5)) (pg_name (i := 9) nd rfl (.inr rfl))
          (pss_one (ps_for PassesOwn.never rfl (pi_list (pe_call F2 r1 rfl g2 k2 b2 .nil pass0 (pa_cons
              (pe_lc (own := [("dot", 12)]) (g := gName 12) (tt := tTest (tOp (rIn K true) (tVar 12) (tVar 9))) (te := tVar 12) rfl nd (pi_tup (pv 4)) (blkOk_by (own := [("dot", 12)]) (N := nFewL) (sc := defScope s_fewest) (by decide +kernel))
                (fun _ _ _ _ _ => pg_name (i := 12) nd rfl (Or.inl rfl)) (fun _ _ _ _ _ => pts_one (pt_cmpR op_notIn_seq (pv 12) (pv 9) rfl)) (fun _ _ _ _ _ => pv 12)) pa_nil))) (pg_name (i := 10) nd rfl (.inl rfl))
            (pss_cons (ps_set (i := 11) nd rfl (.inl rfl) (pe_call F3 r1 rfl g3 k3 b3 .nil pass0 (pa_cons (pv 9) (pa_cons (pv 10) pa_nil))))
            (pss_one (ps_if (PW.pt (pw_and (pt_cmp (pc_dnotin hu (pv 11) (pv 7)) rfl) (pw_and1 (pt_val (pe_call F4 r2 rfl g4 k4 b4 .nil pass0 (pa_cons (pv 1) (pa_cons (pv 9) (pa_cons (pv 10) (pa_cons (pv 2) (pa_cons (pv 3) pa_nil))))))))))
              (pss_cons (ps_dput hu (pv 7) (pv 11) pe_bl rfl)
              (pss_one (ps_expr (pe_bm PySem.F.plainAttrs_list PySem.F.slot_list_append PySem.F.type_list_append mt_append (pv 8) (pa_cons (pv 11) pa_nil))))) pss_nil))))))
        (pss_one (ps_set (i := 5) nd rfl (.inl rfl) (pv 8)))))))
      (pss_one (ps_ret pe_non))))), ?_⟩
    have ok := MA.ok
    have d6 := ok.d6
    obtain ⟨ys, hys⟩ : ∃ ys, ys = moving ends dots o n := ⟨_, rfl⟩
    have l6 : ys.length ≤ 6 := by rw [hys]; exact Nat.le_trans (List.length_filter_le _ _) d6
    have ynd : ys.Nodup := by rw [hys]; exact ok.dn.sublist List.filter_sublist
    have yso : sortedS ys = true := by rw [hys]; exact sorted_sub List.filter_sublist ok.ds
    have ynm : ∀ z ∈ ys, Nm z := fun z hz => ok.dm z (by rw [hys] at hz; exact moving_sub hz)
    rw [← hys] at BA hbk k
    obtain ⟨RR, hRR⟩ : ∃ RR, RR = stR (safeS bk ys) late := ⟨_, rfl⟩
    rw [← hRR] at k
    have Rsub : ∀ d p, p ∈ RR d → p.Sublist (restOf d ys) := fun d p hp => by
      rw [hRR] at hp
      exact (safeS_mem.mp (List.mem_filter.mp hp).1).1
    -- every, now, count_here
    refine ⟨.ref m, rfl, m, tb, db, sb, pb, ends, dots, ss, ps, rows, o, n, rfl, MA, ro, fun ml H1 x1 _ hml => ?_⟩
    rw [← hys] at hml
    refine ⟨ml, _, rfl, .inl ⟨Evl.sq_of hml, fun ev hev => ?_⟩⟩
    have y2 : Evl.Ex H1 (upd H1 ev (.tup (ys.map V.str))) := Evl.Ex.new hev
    have e2 : (upd H1 ev (.tup (ys.map V.str))) ev = some (.tup (ys.map V.str)) := upd_same
    generalize upd H1 ev (.tup (ys.map V.str)) = H2 at y2 e2
    refine ⟨by show 0 ≤ sizeLine; decide, fun e1 he1 => ⟨by show 1 ≤ sizeLine; decide, fun w0 hw0 => ?_⟩⟩
    have y3 : Evl.Ex H2 (upd (upd H2 e1 (.tup [])) w0 (.lst [.ref e1])) := (Evl.Ex.new he1).trans (Evl.Ex.new hw0)
    have w3 : (upd (upd H2 e1 (.tup [])) w0 (.lst [.ref e1])) w0 = some (.lst ([(e1, ([] : List Str))].map fun q => V.ref q.1)) := upd_same
    have t3 : RowsT (upd (upd H2 e1 (.tup [])) w0 (.lst [.ref e1])) [(e1, [])] := fun q hq => by
      rw [List.mem_singleton.mp hq, upd_ne (ne_of_none (upd_same (H := H2) (a := e1) (o := .tup [])) hw0)]
      exact upd_same
    generalize upd (upd H2 e1 (.tup [])) w0 (.lst [.ref e1]) = H3 at y3 w3 t3
    have x13 := x1.trans (y2.trans y3)
    have e3 := y3 _ _ e2
    refine ⟨_, _, _, rfl, ?_⟩
    -- stands(bad, every, (), ..)
    refine ⟨.ref b, rfl, .ref ev, rfl, by show 0 ≤ sizeLine; decide, fun e4 he4 => ?_⟩
    have y4 : Evl.Ex H3 (upd H3 e4 (.tup [])) := Evl.Ex.new he4
    have t4 : (upd H3 e4 (.tup [])) e4 = some (.tup (([] : List Str).map V.str)) := upd_same
    generalize upd H3 e4 (.tup []) = H4 at y4 t4
    have x14 := x13.trans y4
    refine ⟨.ref c, rfl, .int (late : Int), rfl, b, ev, e4, c, late, ff, bk, ys, ys, [], ws, rfl, BA.to x14, l6, ynd, yso, y4 _ _ e3, t4, List.Sublist.refl _, List.nil_sublist _, Evl.ex_t x14 hc, w4, wm, hbk, fun H5 x5 => ⟨_, rfl, ?_⟩⟩
    rw [← hRR]
    have x15 := x14.trans x5
    by_cases pl : [] ∈ RR ys
    · rw [decide_eq_true pl]
      refine iteF ?_
      have Rne : RR ys ≠ [] := List.ne_nil_of_mem pl
      have e5 := x5 _ _ (y4 _ _ e3)
      have w5 := x5 _ _ (y4 _ _ w3)
      have t5 := (t3.to y4).to x5
      -- seen = {(): True}
      refine fun sn hsn => ⟨by show 0 ≤ sizeLine; decide, fun e6 he6 => ?_⟩
      have ne6 : e6 ≠ sn := fun e => by rw [e, upd_same] at he6; cases he6
      refine ⟨by rw [upd_ne ne6.symm]; exact upd_same, e6, [], rfl, upd_same, ?_⟩
      have x6 : Evl.Ex H5 (upd (upd (upd H5 sn (.dT [])) e6 (.tup [])) sn (.dT [([], .bl true)])) := ((Evl.Ex.new hsn).trans (Evl.Ex.new he6)).mut hsn
      have s6 : (upd (upd (upd H5 sn (.dT [])) e6 (.tup [])) sn (.dT [([], .bl true)])) sn = some (.dT (kB [[]])) := upd_same
      generalize upd (upd (upd H5 sn (.dT [])) e6 (.tup [])) sn (.dT [([], .bl true)]) = H6 at x6 s6
      have x06 := x15.trans x6
      have hsnH : H sn = none := ex_none x15 hsn
      -- while now != []
      refine ⟨fun μ σ H' => ∃ (n' : Nat) (wa : Addr) (W : List (Addr × List Str)) (N : List (List Str × Nat)) (u8 u9 u10 u11 : Option V), σ = [some (.ref m), some (.ref b), some (.ref c), some (.int (late : Int)), some (.ref ev), some (.ref wa), some (.int (n' : Int)), some (.ref sn), u8, u9, u10, u11, none] ∧ Evl.Ex H H' ∧ H' ev = some (.tup (ys.map V.str)) ∧ H' sn = some (.dT (kB (N.map (·.1)))) ∧ H' wa = some (.lst (W.map fun q => V.ref q.1)) ∧ RowsT H' W ∧
        Upto RR ys n' N ∧ (∀ d, d ∈ W.map (·.2) ↔ Few RR ys n' d) ∧ W.length ≤ 64 ∧ (∀ j, j < n' → ¬ Few RR ys j ys) ∧ μ = 2 * (64 - N.length) + (if W = [] then 0 else 1),
        ⟨_, 0, w0, [(e1, [])], [([], 0)], none, none, none, none, rfl, x06, x6 _ _ e5, s6, x6 _ _ w5, t5.to x6, ⟨rfl, by simp, fun d k => ?_⟩, fun d => ?_, by show 1 ≤ 64; omega, fun j hj => absurd hj (Nat.not_lt_zero _), rfl⟩, ?_⟩
      · rw [List.mem_singleton]
        constructor
        · intro e
          cases e
          exact ⟨few_zero.mpr rfl, Nat.le_refl _⟩
        · rintro ⟨h1, h2⟩
          have : k = 0 := by omega
          subst this
          rw [few_zero.mp h1]
      · rw [few_zero]
        show d ∈ [[]] ↔ _
        exact List.mem_singleton
      rintro μ σ H7 ⟨n', wa, W, N, u8, u9, u10, u11, rfl, x07, e7, s7, w7, t7, U, mW, W64, nof, rfl⟩
      have Wnm : ∀ q ∈ W, ∀ z ∈ q.2, Nm z := fun q hq z hz => ynm z (((mW q.2).mp (List.mem_map_of_mem hq)).1.sub.subset hz)
      refine ⟨.ref wa, rfl, Nat.zero_le _, fun e8 he8 => ?_⟩
      have y8 : Evl.Ex H7 (upd H7 e8 (.lst [])) := Evl.Ex.new he8
      refine ⟨.list (W.map fun q => .tuple (q.2.map PyData.str)), .list [], .lst (Evl.sq_of (y8 _ _ w7)) (dpa_rows (t7.to y8)), .lst (Evl.sq_of upd_same) .nil, rows_shaped Wnm, by rfl, _, rfl, ?_⟩
      replace x07 := x07.trans y8
      replace e7 := y8 _ _ e7
      replace s7 := y8 _ _ s7
      replace w7 := y8 _ _ w7
      replace t7 := t7.to y8
      generalize upd H7 e8 (.lst []) = H8 at x07 e7 s7 w7 t7
      rw [show (!PyData.eqv (.list (W.map fun q => .tuple (q.2.map PyData.str))) (.list [])) = !W.isEmpty by cases W <;> rfl]
      cases hW : W with
      | nil =>
        show if false = true then _ else _
        refine iteF ?_
        have none_ : ∀ d, ¬ Few RR ys n' d := fun d q => by
          have := (mW d).mpr q
          rw [hW] at this
          cases this
        have := k H8 x07
        rw [costO_none (.inr fun j fj => ?_)] at this
        · exact this
        · rcases Nat.lt_or_ge j n' with l | l
          · exact nof j l fj
          · obtain ⟨d', q⟩ := few_all (n := n') (j - n') (d := ys) (by rw [show n' + (j - n') = j by omega]; exact fj)
            exact none_ d' q
      | cons q0 W' =>
        show if true = true then _ else _
        rw [← hW]
        have Wne : W ≠ [] := by rw [hW]; exact List.cons_ne_nil _ _
        refine iteT ⟨fun σ' H' => ∃ (wa' : Addr) (W2 : List (Addr × List Str)) (N2 : List (List Str × Nat)) (u8 u9 u10 u11 : Option V), σ' = [some (.ref m), some (.ref b), some (.ref c), some (.int (late : Int)), some (.ref ev), some (.ref wa'), some (.int ((n' + 1 : Nat) : Int)), some (.ref sn), u8, u9, u10, u11, none] ∧ Evl.Ex H H' ∧ H' ev = some (.tup (ys.map V.str)) ∧ H' sn = some (.dT (kB (N2.map (·.1)))) ∧ H' wa' = some (.lst (W2.map fun q => V.ref q.1)) ∧ RowsT H' W2 ∧
          Upto RR ys (n' + 1) N2 ∧ (∀ d, d ∈ W2.map (·.2) ↔ Few RR ys (n' + 1) d) ∧ W2.length ≤ 64 ∧ (∀ j, j < n' + 1 → ¬ Few RR ys j ys) ∧ N2.length = N.length + W2.length, ?_, ?_⟩
        · rintro σ' H' ⟨wa', W2, N2, u8, u9, u10, u11, rfl, a1, a2, a3, a4, a5, a6, a7, a8, a9, a10⟩
          refine ⟨_, ?_, n' + 1, wa', W2, N2, u8, u9, u10, u11, rfl, a1, a2, a3, a4, a5, a6, a7, a8, a9, rfl⟩
          have h64 := a6.len l6
          rw [if_neg Wne]
          cases W2 with
          | nil =>
            rw [if_pos rfl]
            rw [List.length_nil] at a10
            omega
          | cons u W2 =>
            rw [if_neg (List.cons_ne_nil _ _)]
            rw [List.length_cons] at a10
            omega
        -- every in now
        refine ⟨.ref ev, rfl, .ref wa, rfl, .tuple (ys.map PyData.str), _, dp_row e7, .lst (Evl.sq_of w7) (dpa_rows t7), row_shaped ynm, rows_shaped Wnm, ?_⟩
        rw [any_rows]
        refine ⟨_, rfl, ?_⟩
        by_cases mE : ys ∈ W.map (·.2)
        · rw [decide_eq_true mE]
          refine iteT ?_
          have := k H8 x07
          rw [costO_some Rne ((mW ys).mp mE)] at this
          exact ⟨.int (n' : Int), rfl, this⟩
        rw [decide_eq_false mE]
        refine iteF ?_
        have nof' : ∀ j, j < n' + 1 → ¬ Few RR ys j ys := fun j hj => by
          rcases Nat.lt_or_ge j n' with l | l
          · exact nof j l
          · have ej : j = n' := by omega
            rw [ej]
            exact fun q => mE ((mW ys).mpr q)
        -- count_here, behind
        refine ⟨.int (n' : Int), rfl, _, _, rfl, rfl, Nat.zero_le _, fun la hla => ⟨_, _, rfl, ?_⟩⟩
        have y9 : Evl.Ex H8 (upd H8 la (.lst [])) := Evl.Ex.new hla
        have l9 : (upd H8 la (.lst [])) la = some (.lst (([] : List (Addr × List Str)).map fun q => V.ref q.1)) := upd_same
        have hlaH : H la = none := ex_none x07 hla
        have nls : la ≠ sn := fun e => by rw [e, s7] at hla; cases hla
        have nlw : la ≠ wa := fun e => by rw [e, w7] at hla; cases hla
        generalize upd H8 la (.lst []) = H9 at y9 l9
        have w9 := y9 _ _ w7
        have s9 := y9 _ _ s7
        have nwl : wa ≠ la := nlw.symm
        have x09 := x07.trans y9
        have many_ : ∀ {V2 : List (Addr × List Str)}, Lvl RR ys n' N (V2.map (·.2)) → V2.length ≤ 64 := fun {V2} lv => by
          have h1 := nodup_le _ (partsS ys) lv.nd fun b hb => partsS_has (lv.few U hb).1.sub
          rw [List.length_map] at h1
          exact Nat.le_trans h1 (partsS_len l6)
        -- for ready in now
        refine ⟨.ref wa, rfl, wa, rfl, ⟨_, Evl.sq_of w9⟩, for_list (K := K) (a := wa) (xs := W.map fun q => V.ref q.1)
          (fun i σ H' => (∃ u9 u10 u11 : Option V, σ = [some (.ref m), some (.ref b), some (.ref c), some (.int (late : Int)), some (.ref ev), some (.ref wa), some (.int ((n' + 1 : Nat) : Int)), some (.ref sn), some (.ref la), u9, u10, u11, none]) ∧ Evl.Ex H H' ∧ H' ev = some (.tup (ys.map V.str)) ∧ H' wa = some (.lst (W.map fun q => V.ref q.1)) ∧ RowsT H' W ∧ ∃ V2 : List (Addr × List Str), H' sn = some (.dT (kB (N.map (·.1) ++ V2.map (·.2)))) ∧ H' la = some (.lst (V2.map fun q => V.ref q.1)) ∧ RowsT H' V2 ∧ Lvl RR ys n' N (V2.map (·.2)) ∧
            ∀ d ∈ (W.take i).map (·.2), ∀ p ∈ RR d, mixS ys d p ∈ N.map (·.1) ∨ mixS ys d p ∈ V2.map (·.2))
          ⟨⟨_, _, _, rfl⟩, x09, y9 _ _ e7, w9, t7.to y9, [], by rw [List.map_nil, List.append_nil]; exact s9, l9, (fun q hq => nomatch hq), ⟨List.nodup_nil, fun b hb => nomatch hb⟩, fun d hd => nomatch hd⟩ (fun i σ H' _ h => Evl.sq_of h.2.2.2.1) ?_ ?_⟩
        · rintro i v σ HA hi ⟨⟨u9, u10, u11, rfl⟩, xA, eA, wA, tA, V2, sA, lA, tVA, lv, all⟩
          obtain ⟨q, hq, rfl⟩ := rowsT_at hi
          have mq := List.mem_of_getElem? hq
          have ei : W.take (i + 1) = W.take i ++ [q] := by rw [List.take_add_one, hq]; rfl
          have fq : Few RR ys n' q.2 := (mW q.2).mp (List.mem_map_of_mem mq)
          have qsub := fq.1.sub
          have tq := tA q mq
          -- the nodes that are not ready
          refine ⟨.ref ev, rfl, ev, rfl, ⟨_, Evl.st_of eA⟩, fun D hD => lc_tup (K := K) (a := ev) (xs := ys.map V.str)
            (fun j H' => Evl.Ex HA H' ∧ H' D = some (.lst (((ys.take j).filter fun z => decide (z ∉ q.2)).map V.str))) ⟨Evl.Ex.new hD, upd_same⟩ (fun j H' _ h => Evl.st_of (h.1 _ _ eA)) ?_ ?_⟩
          · rintro j y H4 hj ⟨x4, d4⟩
            obtain ⟨z, hz, rfl⟩ := str_at hj
            have ez : ys.take (j + 1) = ys.take j ++ [z] := by rw [List.take_add_one, hz]; rfl
            have fl : ((ys.take j).filter fun z => decide (z ∉ q.2)).length ≤ 100 := Nat.le_trans (List.length_filter_le _ _) (by rw [List.length_take]; omega)
            refine ⟨rfl, .str z, rfl, .ref q.1, rfl, q.1, q.2.map V.str, rfl, .inr (Evl.st_of (x4 _ _ tq)), rfl, flat_strs _, _, rfl, ?_⟩
            rw [inV_str]
            by_cases m : z ∈ q.2
            · rw [decide_eq_true m]
              refine iteF ⟨x4, ?_⟩
              rw [d4, ez, List.filter_append, List.filter_cons_of_neg (by simpa using m), List.filter_nil, List.append_nil]
            · rw [decide_eq_false m]
              refine iteT ⟨.str z, rfl, _, d4, by rw [List.length_map]; exact small1000 (by omega), x4.mut hD, ?_⟩
              rw [upd_same, ez, List.filter_append, List.filter_cons_of_pos (by simpa using m), List.filter_nil, List.map_append]
              rfl
          rintro HB ⟨xB, dB⟩
          rw [List.length_map, List.take_length] at dB
          have eR : (ys.filter fun z => decide (z ∉ q.2)) = restOf q.2 ys := rfl
          rw [eR] at dB
          have rl6 : (restOf q.2 ys).length ≤ 6 := Nat.le_trans (List.length_filter_le _ _) l6
          refine ⟨D, _, rfl, .inl (Evl.sq_of dB), rl6, fun pl' HC M js jp jso xC hpl0 hpl tM eM => ?_⟩
          have ejs : js = restOf q.2 ys := sorted_uniq jso (sorted_sub List.filter_sublist yso) jp
          rw [ejs] at eM
          have xAC := xB.trans xC
          have npl : pl' ≠ la := fun e => by rw [e, (xB _ _ lA)] at hpl0; cases hpl0
          -- for part in ..
          refine ⟨pl', rfl, ⟨_, Evl.sq_of hpl⟩, for_list (K := K) (a := pl') (xs := M.map fun q => V.ref q.1)
            (fun j σ H' => (∃ u10 u11 : Option V, σ = [some (.ref m), some (.ref b), some (.ref c), some (.int (late : Int)), some (.ref ev), some (.ref wa), some (.int ((n' + 1 : Nat) : Int)), some (.ref sn), some (.ref la), some (.ref q.1), u10, u11, none]) ∧ Evl.Ex H H' ∧ H' ev = some (.tup (ys.map V.str)) ∧ H' wa = some (.lst (W.map fun q => V.ref q.1)) ∧ RowsT H' W ∧ H' pl' = some (.lst (M.map fun q => V.ref q.1)) ∧ RowsT H' M ∧ ∃ V3 : List (Addr × List Str), H' sn = some (.dT (kB (N.map (·.1) ++ V3.map (·.2)))) ∧ H' la = some (.lst (V3.map fun q => V.ref q.1)) ∧ RowsT H' V3 ∧ Lvl RR ys n' N (V3.map (·.2)) ∧
              (∀ d ∈ (W.take i).map (·.2), ∀ p ∈ RR d, mixS ys d p ∈ N.map (·.1) ∨ mixS ys d p ∈ V3.map (·.2)) ∧ ∀ p ∈ (M.take j).map (·.2), p ∈ RR q.2 → mixS ys q.2 p ∈ N.map (·.1) ∨ mixS ys q.2 p ∈ V3.map (·.2))
            ⟨⟨_, _, rfl⟩, xA.trans xAC, xAC _ _ eA, xAC _ _ wA, tA.to xAC, hpl, tM, V2, xAC _ _ sA, xAC _ _ lA, tVA.to xAC, lv, all, fun b hb => nomatch hb⟩ (fun j σ H' _ h => Evl.sq_of h.2.2.2.2.2.1) ?_ ?_⟩
          · rintro j v σ HD hj ⟨⟨u10, u11, rfl⟩, xD, eD, wD, tD, pD, tMD, V3, sD, lD, tVD, lv3, all3, alj⟩
            obtain ⟨r, hr', rfl⟩ := rowsT_at hj
            have mr := List.mem_of_getElem? hr'
            have ej : M.take (j + 1) = M.take j ++ [r] := by rw [List.take_add_one, hr']; rfl
            have rS : r.2.Sublist (restOf q.2 ys) := partsS_sub (by rw [← eM]; exact List.mem_map_of_mem mr)
            obtain ⟨rs, rd⟩ := rest_lot rS
            have tq := tD q mq
            have tr := tMD r mr
            have rl : r.2.length ≤ 6 := Nat.le_trans rs.length_le l6
            have ql : q.2.length ≤ 6 := Nat.le_trans qsub.length_le l6
            -- later
            refine ⟨.ref q.1, rfl, .ref r.1, rfl, q.1, r.1, q.2, r.2, rfl, tq, tr, by omega, fun jq HE js xE hjq pj sj => ?_⟩
            rw [show (r.2.filter fun z => decide (z ∉ q.2)) = r.2 from List.filter_eq_self.mpr fun z hz => decide_eq_true (rd z hz)] at pj
            have ejs : js = mixS ys q.2 r.2 := mixS_is yso ynd qsub rs rd pj sj
            subst ejs
            have sE := xE _ _ sD
            refine ⟨.ref jq, rfl, .ref sn, rfl, sn, _, rfl, .inr ⟨_, (mixS ys q.2 r.2).map Sum.inr, jq, .inl sE, rfl, by rw [keyS]; exact hjq, rfl⟩, _, rfl, ?_⟩
            rw [kB_has]
            by_cases mm : mixS ys q.2 r.2 ∈ N.map (·.1) ++ V3.map (·.2)
            · rw [decide_eq_true mm]
              refine iteF (iteF ⟨⟨_, _, rfl⟩, xD.trans xE, xE _ _ eD, xE _ _ wD, tD.to xE, xE _ _ pD, tMD.to xE, V3, sE, xE _ _ lD, tVD.to xE, lv3, all3, fun p hp hR => ?_⟩)
              rw [ej, List.map_append] at hp
              rcases List.mem_append.mp hp with hp | hp
              · exact alj p hp hR
              · rw [List.mem_singleton.mp hp]
                exact List.mem_append.mp mm
            · rw [decide_eq_false mm]
              have x0E := xD.trans xE
              refine iteT ⟨.ref b, rfl, .ref q.1, rfl, .ref r.1, rfl, .ref c, rfl, .int (late : Int), rfl, b, q.1, r.1, c, late, ff, bk, ys, q.2, r.2, ws, rfl, BA.to x0E, l6, ynd, yso, xE _ _ tq, xE _ _ tr, qsub, rS, Evl.ex_t x0E hc, w4, wm, hbk, fun HF xF => ⟨_, rfl, ?_⟩⟩
              rw [← hRR]
              have xDF := xE.trans xF
              have sF := xDF _ _ sD
              by_cases mR : r.2 ∈ RR q.2
              · rw [decide_eq_true mR]
                have jF := xF _ _ hjq
                have kl : (kB (N.map (·.1) ++ V3.map (·.2))).length ≤ 200 := by
                  rw [kB_len, List.length_append, List.length_map, List.length_map]
                  have h1 := U.len l6
                  have h2 := many_ lv3
                  omega
                refine iteT ⟨.ref sn, rfl, .ref jq, rfl, sn, _, rfl, DPut.t (k := (mixS ys q.2 r.2).map Sum.inr) (v := .bl true) sF (by rw [keyS]; exact jF) (small1000 (by omega)), ?_⟩
                rw [kB_new mm]
                have lF := xDF _ _ lD
                have wF := xDF _ _ wD
                have eF := xDF _ _ eD
                have pF := xDF _ _ pD
                have tF := tD.to xDF
                have tMF := tMD.to xDF
                have tVF := tVD.to xDF
                have x0F := xD.trans xDF
                have kp : ∀ {u : Addr} {xs : List V}, HF u = some (.lst xs) → (upd HF sn (.dT (kB ((N.map (·.1) ++ V3.map (·.2)) ++ [mixS ys q.2 r.2])))) u = some (.lst xs) := fun {u xs} h => by rw [upd_ne (ne_of h sF (by intro z; cases z))]; exact h
                have kt : ∀ {u : Addr} {xs : List V}, HF u = some (.tup xs) → (upd HF sn (.dT (kB ((N.map (·.1) ++ V3.map (·.2)) ++ [mixS ys q.2 r.2])))) u = some (.tup xs) := fun {u xs} h => by rw [upd_ne (ne_of h sF (by intro z; cases z))]; exact h
                have x08 : Evl.Ex H (upd HF sn (.dT (kB ((N.map (·.1) ++ V3.map (·.2)) ++ [mixS ys q.2 r.2])))) := x0F.mut hsnH
                have s8 : (upd HF sn (.dT (kB ((N.map (·.1) ++ V3.map (·.2)) ++ [mixS ys q.2 r.2])))) sn = some (.dT (kB ((N.map (·.1) ++ V3.map (·.2)) ++ [mixS ys q.2 r.2]))) := upd_same
                have l8 := kp lF
                have w8 := kp wF
                have p8 := kp pF
                have e8' := kt eF
                have j8 := kt jF
                have t8 : RowsT _ W := fun r hr => kt (tF r hr)
                have tM8 : RowsT _ M := fun r hr => kt (tMF r hr)
                have tV8 : RowsT _ V3 := fun r hr => kt (tVF r hr)
                generalize upd HF sn (.dT (kB ((N.map (·.1) ++ V3.map (·.2)) ++ [mixS ys q.2 r.2]))) = HG at x08 s8 l8 w8 p8 e8' j8 t8 tM8 tV8
                have nsl : sn ≠ la := nls.symm
                have lv4 : Lvl RR ys n' N ((V3 ++ [(jq, mixS ys q.2 r.2)]).map (·.2)) := by
                  rw [List.map_append]
                  refine ⟨?_, fun b hb => ?_⟩
                  · rw [List.nodup_append]
                    exact ⟨lv3.nd, by simp, fun a ha b hb e => mm (List.mem_append_right _ (by rw [List.mem_singleton.mp hb] at e; exact (show a = mixS ys q.2 r.2 from e) ▸ ha))⟩
                  · rcases List.mem_append.mp hb with hb | hb
                    · exact lv3.new b hb
                    · rw [List.mem_singleton.mp hb]
                      exact ⟨fq.1.step mR, fun h => mm (List.mem_append_left _ h)⟩
                have h2 := many_ lv3
                refine ⟨.ref la, rfl, .inl ⟨rfl, _, Evl.sq_of l8⟩, .ref jq, rfl, la, _, _, rfl, rfl, l8, by rw [List.length_map]; exact small1000 (by omega), ⟨_, _, rfl⟩, x08.mut hlaH, by rw [upd_ne (ne_of e8' l8 (by intro z; cases z))]; exact e8', by rw [upd_ne nwl]; exact w8, t8.mut l8, by rw [upd_ne npl]; exact p8, tM8.mut l8, V3 ++ [(jq, mixS ys q.2 r.2)], ?_, ?_, ?_, lv4, fun d hd p hp => ?_, fun p hp hR => ?_⟩
                · rw [upd_ne nsl, s8, List.map_append, List.append_assoc]
                  rfl
                · rw [upd_same, List.map_append]
                  rfl
                · refine RowsT.mut (RowsT.app tV8 fun q' hq' => ?_) l8
                  rw [List.mem_singleton.mp hq']
                  exact j8
                · rw [List.map_append]
                  exact (all3 d hd p hp).imp id fun h => List.mem_append_left _ h
                · rw [ej, List.map_append] at hp
                  rw [List.map_append]
                  rcases List.mem_append.mp hp with hp | hp
                  · exact (alj p hp hR).imp id fun h => List.mem_append_left _ h
                  · rw [List.mem_singleton.mp hp]
                    exact .inr (List.mem_append_right _ List.mem_cons_self)
              · rw [decide_eq_false mR]
                refine iteF ⟨⟨_, _, rfl⟩, xD.trans xDF, xDF _ _ eD, xDF _ _ wD, tD.to xDF, xDF _ _ pD, tMD.to xDF, V3, sF, xDF _ _ lD, tVD.to xDF, lv3, all3, fun p hp hR => ?_⟩
                rw [ej, List.map_append] at hp
                rcases List.mem_append.mp hp with hp | hp
                · exact alj p hp hR
                · rw [List.mem_singleton.mp hp] at hR
                  exact absurd hR mR
          · rintro σ HD ⟨⟨u10, u11, rfl⟩, xD, eD, wD, tD, pD, tMD, V3, sD, lD, tVD, lv3, all3, alj⟩
            rw [List.length_map, List.take_length, eM] at alj
            refine ⟨⟨_, _, _, rfl⟩, xD, eD, wD, tD, V3, sD, lD, tVD, lv3, fun d hd p hp => ?_⟩
            rw [ei, List.map_append] at hd
            rcases List.mem_append.mp hd with hd | hd
            · exact all3 d hd p hp
            · rw [List.mem_singleton.mp hd] at hp ⊢
              exact alj p (partsS_has (Rsub _ _ hp)) hp
        · rintro σ HA ⟨⟨u9, u10, u11, rfl⟩, xA, eA, wA, tA, V2, sA, lA, tVA, lv, all⟩
          rw [List.length_map, List.take_length] at all
          obtain ⟨U2, iff2⟩ := lv.next U fun d hd p hp => all d ((mW d).mpr hd) p hp
          exact ⟨.ref la, rfl, la, V2, _, _, _, _, _, rfl, xA, eA, by rw [lvl_keys]; exact sA, lA, tVA, U2, iff2, many_ lv, nof', by rw [List.length_append, List.length_map, List.length_map]⟩
    · rw [decide_eq_false pl]
      refine iteT ?_
      have := k H5 x15
      rw [show costO RR ys = none by rw [hRR]; exact cost_no (by rw [← hRR]; exact pl)] at this
      exact this
end
end Rw
end T_LF

section T_G0
set_option Elab.async false
set_option linter.all false
set_option maxRecDepth 100000
set_option maxHeartbeats 2000000
namespace Rw
open PySem PySem.Spec L2 PyProof.Rows
/-! ### repr of data -/
def rRepr (K : PySem.W.Frag) : List V → Hp → VK → Prop := fun xs H Q => ∃ (a : Addr) (d : PyData), xs = [.ref a] ∧ Dp K H (.ref a) d ∧ d.showable = true ∧ d.hasDict = false ∧ d.depth ≤ 64 ∧ d.shown.length ≤ sizeLine ∧ Q (.str d.shown) H
theorem call_reprD {X : Cx} (hg : X.A.guards = some []) (hu : X.A.units + 70 < cLine) : CallR X (.builtin "repr") (rRepr X.K) := by
  intro pins s σ H xs us Q I r h
  obtain ⟨a, d, rfl, hd, h1, h2, h3, h4, q⟩ := h
  obtain ⟨u, rfl, ru⟩ := vals1 r
  obtain ⟨as, rd⟩ := Dp.reads I d (.ref a) u hd ru
  cases ru
  refine repr_of_reads' rd h1 (fun z => by rw [h2] at z; cases z) hg (by omega) (fun _ _ e => e) (fun h' v tk keep => ?_) h4
  exact ⟨.str d.shown, H, Inv.kept I keep, ⟨_, rfl⟩, q⟩
/-! ### defs that are called where no repr is under way -/
structure FnG (P : Program) (w : World) (K : PySem.W.Frag) (mg : Str → Option Value) (base : Heap) (CX : CXT) (k : Nat) (f : Addr) (fd : FuncData) (ps : List Str) (sp : Sp) : Prop where
  many : ∀ vs H Q E, sp vs H Q E → vs.length = ps.length
  goes : ∀ (A : Around) (outer : List Env) (s : Shared) (H : Hp) (args : Args) (us : List Value) (vs : List V) (Q : VK) (E : XK), A.guards = some [] → Room k A → Env0 P w K mg base A outer s H →
    BindsTo s fd args (ps.zip us) → Vals vs us → sp vs H Q E → codeAny (model P w) A (.call (.ref f) args) (CR CX outer P w H s Q E) s
section
variable {P : Program} {w : World} {K : PySem.W.Frag} {mg : Str → Option Value} {base : Heap} {CX : CXT} {k : Nat} {f : Addr} {fd : FuncData} {ps : List Str} {sp : Sp}
theorem FnG.of (F : FnOk P w K mg base CX k f fd ps sp) : FnG P w K mg base CX k f fd ps sp :=
  ⟨F.len, fun A o s H ar us vs Q E _ => F.run A o s H ar us vs Q E⟩
/-- a def by its body -/
theorem Fun.okG {x qual : Str} {st : Stmt} {N : List Str} (F : Fun K x qual st f fd) (S : FnScope N ps (defScope st)) (len : ∀ vs H Q E, sp vs H Q E → vs.length = ps.length)
    (body : ∀ (cv : Value) (A : Around) (outer : List Env) (s : Shared) (H : Hp) (vs : List V) (Q : VK) (E : XK), (A.deeper (envOfC qual (defScope st) s.heap.objs.size f cv)).guards = some [] →
      Room k (A.deeper (envOfC qual (defScope st) s.heap.objs.size f cv)) → sp vs H Q E →
      ∃ t, PSs (cxOf CX P w K mg base N qual (defScope st) f cv A outer s H E) (defBody st) t ∧ t { nx := fun _ H' => Q .non H', rt := Q } (L2.start N vs) H) : FnG P w K mg base CX (k + 1) f fd ps sp := by
  obtain ⟨_, _, _, _, _, _, cv, _, _, rfl, at_f, code_f⟩ := F.ex
  constructor
  · exact len
  · intro A outer s H ar us vs Q E guard room here bound rel prom
    have n_of := len _ _ _ _ prom
    have known : K.In s.heap := here.mod.kin.keeps fun b o e => (here.bs b o e).1
    have nolim : s.heap.NoLimit := here.mod.nolimit.keeps fun b o e => (here.bs b o e).1
    have slots : ∀ y ∈ ps.zip us, (defScope st).names.lookup y.1 = some .local ∨ ((defScope st).names.lookup y.1 = some .cell ∧ ((cellsFrom (s.heap.objs.size + 1) (defScope st).names []).lookup y.1).isSome = true) := by
      rintro ⟨m, u⟩ hy
      cases S.par m (List.of_mem_zip hy).1 with
      | inl q => exact .inl q
      | inr q => exact .inr ⟨q, PySem.W.cellsFrom_some _ _ _ (.inl q)⟩
    refine codeAny_call_function room.depth (known _ _ at_f) rfl S.co S.gen rfl (PySem.W.codeRec_of known code_f)
      (bound _ _ _ _ ?_)
    refine wpAny_newFunctionEnv_cells S.kind slots fun env isEnv s1 made => ?_
    subst isEnv
    refine ⟨nolim.keeps made.toInCall.keep, codeAny_func ?_⟩
    obtain ⟨t, term, reading⟩ := body cv A outer s H vs Q E guard (room.deeper _) prom
    have inv := inv_start (CX := CX) (E := E) S room.hd here n_of rel made
    refine wpAny_mono (term.run [] s1 (L2.start N vs) H _ inv reading) (fun out s' got => ?_) fun _ _ got => got
    cases out with
    | brk =>
      obtain ⟨_, _, _, no⟩ := got
      exact no.elim
    | cont =>
      obtain ⟨_, _, _, no⟩ := got
      exact no.elim
    | next =>
      obtain ⟨_, H', J, q⟩ := got
      exact ⟨V.non, H', J.os, J.bare, J.base, J.hok, rfl, q⟩
    | ret u =>
      obtain ⟨v, _, H', J, rv, q⟩ := got
      exact ⟨v, H', J.os, J.bare, J.base, J.hok, rv, q⟩
end
section
variable {X : Cx} {CX : CXT} {k : Nat} {f : Addr} {fd : FuncData} {ps : List Str} {sp : Sp} {dvs : List V} {ds : List Value} {E : XK} {x : Str} {p pos : Pos} {e : Expr} {es : List Expr} {t : TA}
/-- f(e, ..), f such a def -/
theorem pe_callG (guard : X.A.guards = some []) (F : FnG X.prog X.w X.K X.mg X.base CX k f fd ps sp) (room : Room k X.A) (glob : Gl X x) (at_x : X.mg x = some (.ref f)) (kept : PySem.W.keepIn X.K (.ref f) = true) (bind : Binds X.K fd ps ds) (dflt : Vals dvs ds) (pass : Passes CX X E)
    (args : PA X (e :: es) t) (nodebug : (x == ("__debug__" : Str)) = false := by decide) (first : starEach (e :: es) X.env = (false, eval e X.env) :: starEach es X.env := by rfl) (plain : (backTo pos (starEach es X.env)).any (·.1) = false := by rfl) :
    PE X (.Call (.Name x p) (e :: es) [] pos) (tCall sp dvs E t) := by
  constructor
  intro pins s σ H Q I reading
  refine wpAny_Call_Name_kw (ld_glob I glob at_x ?_ nodebug)
  refine PySem.W.callWith_K (h₀ := X.base) I.ok.mod.kin kept (thn (args.run pos pins s σ H _ I reading) ?_) first plain
  rintro us s1 ⟨vs, H1, I1, rel, prom⟩
  refine ⟨I1.kIn, ?_⟩
  have rel2 : Vals (vs ++ dvs) (us ++ ds) := rel.append dflt
  have n_of : (us ++ ds).length = ps.length := rel2.length.symm.trans (F.many _ _ _ _ prom)
  have ran := F.goes X.A X.stack s1 H1 ⟨us, []⟩ (us ++ ds) (vs ++ dvs) Q E guard room I1.env0 (bind s1 us I1.kIn n_of) rel2 prom
  refine wpAny_call (codeAny_mono ran fun out s2 got => ?_)
  match out, got with
  | .error e, got => exact pass pins σ H1 s1 e s2 I1 got
  | .ok (.ret u), got => exact I1.after got
  | .ok .next, got => exact got.elim
  | .ok .brk, got => exact got.elim
  | .ok .cont, got => exact got.elim
end
end Rw
end T_G0

section T_G2
set_option Elab.async false
set_option linter.all false
set_option maxRecDepth 100000
set_option maxHeartbeats 2000000
namespace Rw
open PySem PySem.Spec L2 PyProof.Rows
/-! ### data with dicts -/
def kD : Key → PyData
  | .inl i => .int i
  | .inr x => .str x
mutual
inductive Dq (K : PySem.W.Frag) (H : Hp) : V → PyData → Prop
  | non : Dq K H .non .none
  | bl (b : Bool) : Dq K H (.bl b) (.bool b)
  | int (i : Int) : Dq K H (.int i) (.int i)
  | str (x : Str) : Dq K H (.str x) (.str x)
  | lst {a : Addr} {xs : List V} {ds : List PyData} : SqL K H a xs → DqAll K H xs ds → Dq K H (.ref a) (.list ds)
  | tup {a : Addr} {xs : List V} {ds : List PyData} : SqT K H a xs → DqAll K H xs ds → Dq K H (.ref a) (.tuple ds)
  | dic {a : Addr} {kvs : List (Key × V)} {ds : List (PyData × PyData)} : Rd H a (.dK kvs) → DqKv K H kvs ds → Dq K H (.ref a) (.dict ds)
inductive DqAll (K : PySem.W.Frag) (H : Hp) : List V → List PyData → Prop
  | nil : DqAll K H [] []
  | cons {v : V} {vs : List V} {d : PyData} {ds : List PyData} : Dq K H v d → DqAll K H vs ds → DqAll K H (v :: vs) (d :: ds)
inductive DqKv (K : PySem.W.Frag) (H : Hp) : List (Key × V) → List (PyData × PyData) → Prop
  | nil : DqKv K H [] []
  | cons {k : Key} {v : V} {kvs : List (Key × V)} {d : PyData} {ds : List (PyData × PyData)} : Dq K H v d → DqKv K H kvs ds → DqKv K H ((k, v) :: kvs) ((kD k, d) :: ds)
end
section
variable {X : Cx} {pins : List (Addr × Obj)} {σ : L2.St} {H : Hp} {s : Shared}
/-- sys.modules is a dict -/
def SysDict (h : Heap) : Prop := ∃ o es ep, h.get? sysModules = some o ∧ o.data = .dict es ep
theorem SysDict.ne {h : Heap} {a : Addr} {o : Obj} {its : Array Value} {n : Nat} (hs : SysDict h) (ha : h.get? a = some o) (hd : o.data = .seq its n) : a ≠ sysModules := fun e => by
  obtain ⟨u, es, ep, hu, hq⟩ := hs
  subst e
  rw [ha] at hu
  cases hu
  rw [hd] at hq
  cases hq
mutual
theorem Dq.reads (I : Inv X pins σ H s) (hs : SysDict s.heap) : ∀ (d : PyData) (v : V) (u : Value), Dq X.K H v d → RelV v u → ∃ as, Reads s.heap u d as ∧ sysModules ∉ as
  | .none, _, _, h, r => by
    cases h
    cases r
    exact ⟨_, Reads.none, by simp⟩
  | .bool b, _, _, h, r => by
    cases h
    cases r
    exact ⟨_, Reads.bool b, by simp⟩
  | .int i, _, _, h, r => by
    cases h
    obtain ⟨t, rfl⟩ := r
    exact ⟨_, Reads.int i t, by simp⟩
  | .str x, _, _, h, r => by
    cases h
    obtain ⟨t, rfl⟩ := r
    exact ⟨_, Reads.str x t, by simp⟩
  | .list ds, _, _, h, r => by
    cases h with
    | lst hq ha =>
      cases r
      obtain ⟨its, rv, ⟨o, n, ho, hc, _, hd⟩, _⟩ := I.list hq
      obtain ⟨as, hr, no⟩ := Dq.readsAll I hs ds _ its ha rv
      refine ⟨_, Reads.list ho hc hd hr, fun m => ?_⟩
      rcases List.mem_cons.mp m with e | m
      · exact hs.ne ho hd e.symm
      · exact no m
  | .tuple ds, _, _, h, r => by
    cases h with
    | tup hq ha =>
      cases r
      obtain ⟨its, rv, ⟨o, ho, hc, n, hd⟩, _⟩ := I.tuple hq
      obtain ⟨as, hr, no⟩ := Dq.readsAll I hs ds _ its ha rv
      exact ⟨_, Reads.tuple ho hc hd hr, no⟩
  | .dict ds, _, _, h, r => by
    cases h with
    | dic hq ha =>
      cases r
      obtain ⟨_, low, vs, pairs, o, es, ep, ho, exact_, hdat, _, prs, _⟩ := dk_rd I.hok hq
      obtain ⟨as, bs, h1, h2, n1, n2⟩ := Dq.readsKv I hs ds _ vs es.toList ha pairs prs
      refine ⟨_, Reads.dict ho exact_.1 hdat h1 h2, fun m => ?_⟩
      rcases List.mem_append.mp m with m | m
      · rcases List.mem_cons.mp m with e | m
        · exact absurd e.symm (by simpa using low)
        · exact n1 m
      · exact n2 m
theorem Dq.readsAll (I : Inv X pins σ H s) (hs : SysDict s.heap) : ∀ (ds : List PyData) (vs : List V) (us : List Value), DqAll X.K H vs ds → Vals vs us → ∃ as, ReadsAll s.heap us ds as ∧ sysModules ∉ as
  | [], _, _, h, r => by
    cases h
    cases r
    exact ⟨_, ReadsAll.nil, by simp⟩
  | d :: ds, _, _, h, r => by
    cases h with
    | cons h1 h2 =>
      cases r with
      | cons r1 r2 =>
        obtain ⟨as, q1, n1⟩ := Dq.reads I hs d _ _ h1 r1
        obtain ⟨bs, q2, n2⟩ := Dq.readsAll I hs ds _ _ h2 r2
        exact ⟨_, ReadsAll.cons q1 q2, fun m => (List.mem_append.mp m).elim n1 n2⟩
theorem Dq.readsKv (I : Inv X pins σ H s) (hs : SysDict s.heap) : ∀ (ds : List (PyData × PyData)) (kvs : List (Key × V)) (vs : List (Key × Value)) (es : List DictEntry), DqKv X.K H kvs ds → KV kvs vs → Pairs (mixKind X.prog X.w) es vs →
    ∃ as bs, ReadsAll s.heap (es.map (·.key)) (ds.map (·.1)) as ∧ ReadsAll s.heap (es.map (·.val)) (ds.map (·.2)) bs ∧ sysModules ∉ as ∧ sysModules ∉ bs
  | [], _, _, _, h, r, p => by
    cases h
    cases r
    cases p
    exact ⟨_, _, ReadsAll.nil, ReadsAll.nil, by simp, by simp⟩
  | (k0, d) :: ds, _, _, _, h, r, p => by
    cases h with
    | @cons k v kvs _ _ h1 h2 =>
      cases r with
      | @cons _ q _ vs r1 r2 =>
        obtain ⟨k1, u⟩ := q
        obtain ⟨ek, rv⟩ := r1
        have ek' : k = k1 := ek
        subst ek'
        cases p with
        | @cons e _ es _ p1 p2 p3 =>
          obtain ⟨as, bs, q1, q2, n1, n2⟩ := Dq.readsKv I hs ds kvs vs es h2 r2 p3
          obtain ⟨cs, q3, n3⟩ := Dq.reads I hs d v u h1 rv
          have key : Reads s.heap e.key (kD k) [] := by
            rcases keyIs_shape (show keyIs k e.key = true from p1) with ⟨i, t, rfl, ev⟩ | ⟨x, t, rfl, ev⟩
            · rw [ev]
              exact Reads.int i t
            · rw [ev]
              exact Reads.str x t
          have val : e.val = u := p2
          refine ⟨[] ++ as, cs ++ bs, ReadsAll.cons key q1, ?_, n1, fun m => (List.mem_append.mp m).elim n3 n2⟩
          show ReadsAll s.heap (e.val :: es.map (·.val)) (d :: ds.map (·.2)) (cs ++ bs)
          rw [val]
          exact ReadsAll.cons q3 q2
end
end
def rReprQ (K : PySem.W.Frag) : List V → Hp → VK → Prop := fun xs H Q => ∃ (a : Addr) (d : PyData), xs = [.ref a] ∧ Dq K H (.ref a) d ∧ d.showable = true ∧ d.depth ≤ 64 ∧ d.shown.length ≤ sizeLine ∧ Q (.str d.shown) H
theorem call_reprQ {X : Cx} (hg : X.A.guards = some []) (hu : X.A.units + 70 < cLine) (sys : SysDict X.base) : CallR X (.builtin "repr") (rReprQ X.K) := by
  intro pins s σ H xs us Q I r h
  obtain ⟨a, d, rfl, hd, h1, h3, h4, q⟩ := h
  obtain ⟨u, rfl, ru⟩ := vals1 r
  obtain ⟨as, rd, no⟩ := Dq.reads I (let ⟨o, es, ep, h1, h2⟩ := sys; ⟨o, es, ep, I.bk _ _ h1, h2⟩) d (.ref a) u hd ru
  cases ru
  refine repr_of_reads' rd h1 (fun _ => no) hg (by omega) (fun _ _ e => e) (fun h' v tk keep => ?_) h4
  exact ⟨.str d.shown, H, Inv.kept I keep, ⟨_, rfl⟩, q⟩
end Rw
end T_G2

section T_DR
set_option Elab.async false
set_option linter.all false
set_option maxRecDepth 100000
set_option maxHeartbeats 4000000
/-! ### dict([(key, value), ..]) whose keys are tuples -/
namespace L2
open PySem PySem.Spec PyProof.Rows
abbrev EntT := Addr × Addr × List Key × V
def entV (t : EntT) : List Key × V := (t.2.2.1, t.2.2.2)
theorem rows_ofT {X : Cx} {pins : List (Addr × Obj)} {σ : L2.St} {H : Hp} {s : Shared} (I : L2.Inv X pins σ H s) : ∀ {L : List EntT}, (∀ t ∈ L, H t.1 = some (.tup [.ref t.2.1, t.2.2.2]) ∧ H t.2.1 = some (.tup (t.2.2.1.map kV))) →
    ∃ xs : List (List Key × Addr × Value), KT H (L.map entV) xs ∧ xs.length = L.length ∧ ∀ (j : Nat) (x : List Key × Addr × Value), xs[j]? = some x → ∃ t, L[j]? = some t ∧ x.1 = t.2.2.1 ∧ x.2.1 = t.2.1 ∧ s.heap.IsTuple t.1 #[.ref t.2.1, x.2.2]
  | [], _ => ⟨[], .nil, rfl, fun j x e => by simp at e⟩
  | t :: L, h => by
    obtain ⟨xs, r, hl, hp⟩ := rows_ofT I fun u hu => h u (List.mem_cons_of_mem _ hu)
    obtain ⟨h1, h2⟩ := h t List.mem_cons_self
    obtain ⟨_, its, rv, o, ho, hc, n, hd⟩ := I.hok _ _ h1
    obtain ⟨u, y, rfl, ru, ry⟩ := vals2 rv
    obtain rfl : u = Value.ref t.2.1 := ru
    refine ⟨(t.2.2.1, t.2.1, y) :: xs, .cons ⟨rfl, h2, ry⟩ r, by rw [List.length_cons, List.length_cons, hl], fun j x e => ?_⟩
    cases j with
    | zero =>
      cases e
      exact ⟨t, rfl, rfl, rfl, o, ho, hc, n, hd⟩
    | succ j => exact hp j x (by simpa using e)
theorem call_dictPT {X : Cx} (hcalm : X.calm = true) (room : (tupleKind (mixKind X.prog X.w)).room X.A.in1.in1) : CallR X (.type "dict") (fun xs H Q => ∃ (a : Addr) (L : List EntT), xs = [.ref a] ∧ SqL X.K H a (L.map fun t => V.ref t.1) ∧
    (∀ t ∈ L, H t.1 = some (.tup [.ref t.2.1, t.2.2.2]) ∧ H t.2.1 = some (.tup (t.2.2.1.map kV))) ∧ (L.map fun t => t.2.2.1).Nodup ∧ ∀ p, H p = none → Q (.ref p) (upd H p (.dT (L.map entV)))) := by
  intro pins s σ H xs us Q I r q
  obtain ⟨a, L, rfl, hq, hL, nd, q⟩ := q
  obtain ⟨u, rfl, rx⟩ := vals1 r
  cases rx
  obtain ⟨its, rv, pl, hz⟩ := I.list hq
  have ei : its = (L.map (·.1)).map Value.ref := refs_at (by rw [List.map_map]; exact rv)
  subst ei
  rw [List.length_map] at hz
  obtain ⟨xs, kt, hl, hx⟩ := rows_ofT I hL
  obtain ⟨o, n, ho, hc, hd, hdat⟩ := pl
  have P := PairArg.list (prog := X.prog) (w := X.w) a ((L.map (·.1)).map Value.ref).toArray (fun j => ((L.map (·.1))[j]?).getD 0) (xs.map fun x => (Value.ref x.2.1, x.2.2))
  have items : PairItems s.heap ((L.map (·.1)).map Value.ref).toArray (fun j => ((L.map (·.1))[j]?).getD 0) (xs.map fun x => (Value.ref x.2.1, x.2.2)) := by
    refine ⟨by simp [hl], fun j k v e => ?_⟩
    rw [List.getElem?_map] at e
    cases ex : xs[j]? with
    | none => rw [ex] at e; cases e
    | some x =>
      rw [ex] at e
      cases e
      obtain ⟨t, ht, e1, e2, e3⟩ := hx j x ex
      have hT : ((L.map (·.1))[j]?).getD 0 = t.1 := by rw [List.getElem?_map, ht]; rfl
      refine ⟨?_, .inl ?_⟩
      · rw [List.getElem?_toArray, List.getElem?_map, List.getElem?_map, ht]
        show some (Value.ref t.1) = some (Value.ref (((L.map (·.1))[j]?).getD 0))
        rw [hT]
      · show s.heap.IsTuple (((L.map (·.1))[j]?).getD 0) #[.ref x.2.1, x.2.2]
        rw [hT, e2]
        exact e3
  have xnd : (xs.map (·.1)).Nodup := by
    have e : xs.map (·.1) = L.map fun t => t.2.2.1 := by
      refine List.ext_getElem? fun j => ?_
      rw [List.getElem?_map, List.getElem?_map]
      cases ex : xs[j]? with
      | none => rw [List.getElem?_eq_none (by rw [← hl]; exact List.getElem?_eq_none_iff.mp ex)]; rfl
      | some x =>
        obtain ⟨t, ht, e1, _⟩ := hx j x ex
        rw [ht]
        exact congrArg some e1
    rw [e]
    exact nd
  have keys : ∀ x ∈ xs, (tupleKind (mixKind X.prog X.w)).is s.heap x.1 x.2.1 := fun x hm => by
    obtain ⟨j, hj⟩ := List.mem_iff_getElem?.mp hm
    obtain ⟨t, ht, e1, e2, _⟩ := hx j x hj
    rw [e1, e2]
    exact key_of I.hok (hL t (List.mem_of_getElem? ht)).2
  refine call_dict_pairsH (knd := tupleKind (mixKind X.prog X.w)) (ps := xs) P (I.ok.hd hcalm) room ⟨⟨o, n, ho, hc, hd, hdat⟩, items⟩ ⟨by rw [List.length_map], fun i key v e => ?_⟩ (fun h' hk x hm => ?_) (by rw [List.length_map, hl]; exact hz) fun h' tk hd' hk => ?_
  · have e' : (xs.map fun x => (Value.ref x.2.1, x.2.2))[i]? = some (key, v) := e
    rw [List.getElem?_map] at e'
    cases ex : xs[i]? with
    | none => rw [ex] at e'; cases e'
    | some x =>
      rw [ex] at e'
      cases e'
      exact ⟨x.1, x.2.1, rfl, rfl⟩
  · obtain ⟨oo, items, nn, g1, g2, g3, g4⟩ := keys x hm
    exact ⟨oo, items, nn, hk _ _ (Nat.ne_of_lt (Heap.lt_size g1)) (by simp) g1, g2, g3, g4⟩
  · rw [storedAllH_nil_of_nodup xs xnd] at hd'
    have hm : (s.heap.objs.size == sysModules) = false := beq_eq_false_iff_ne.mpr (Nat.ne_of_gt I.big)
    obtain ⟨od, es, ep, d1, d2, d3, d4, d5, d6⟩ := hd'
    have fresh := I.hok.fresh (Nat.le_refl s.heap.objs.size)
    exact ⟨.ref s.heap.objs.size, upd H s.heap.objs.size (.dT (L.map entV)), I.laid (t' := tk) (fun b u e => hk b u (by simp) e) (Nat.le_refl _) (show ObjOk X.prog X.w _ _ _ (.dT (L.map entV)) from ⟨by rw [List.length_map]; exact hz, hm, xs, KT.keeps kt (fun c ys ec => Evl.Ex.new fresh _ _ ec), od, es, ep, d1, d2, d3, d4, d6⟩), rfl, q _ fresh⟩
/-! ### clear -/
theorem d_clearT {X : Cx} {pins : List (Addr × Obj)} {σ : L2.St} {H : Hp} {s : Shared} {A : Around} {E : Value → Shared → Prop} {a : Addr} {kvs : List (List Key × V)} {Q : Value → Shared → Prop} (I : L2.Inv X pins σ H s) (e : H a = some (.dT kvs)) (h : ∀ s', L2.Inv X pins σ (upd H a (.dT [])) s' → Q .none s') :
    wpAny (model X.prog X.w) A (call (.builtin "dict.clear") [.ref a]) Q E s := by
  obtain ⟨z, hd, xs, rel, dd⟩ := dt_of I.hok e
  obtain ⟨od, es, ep, d1, d2, d3, d4, d5, d6⟩ := id dd
  have sz : es.size ≤ sizeLine := by
    have e1 : es.toList.length = xs.length := by rw [d4, List.length_map]
    have e2 := Paired.length rel
    rw [Array.length_toList] at e1
    omega
  refine call_meetsIn PySem.F.slot_dict_clear dd.typeIs PySem.F.entry_dict_clear (PySem.F.args_dict_clear_1 _) (meets_dict_clear_raw a) ⟨es, ep, ⟨od, d1, d2, d3⟩, sz, fun h' raw hs => h _ ?_⟩
  obtain ⟨q, q1, q2, q3⟩ := raw
  exact d_write (t' := s.toks) I (by rw [e]; exact True.intro) hs ⟨q, q1⟩ ⟨Nat.zero_le _, hd, [], .nil, q, #[], ep + 1, q1, q2, q3, rfl, List.nodup_nil⟩
def rDClearT : V → List V → Hp → VK → Prop := fun x vs H Q => ∃ (a : Addr) (kvs : List (List Key × V)), x = .ref a ∧ vs = [] ∧ H a = some (.dT kvs) ∧ Q .non (upd H a (.dT []))
theorem mtd_clearT {X : Cx} : MtR X "dict.clear" rDClearT := by
  intro pins s σ H x vs v us Q I rx rv h
  obtain ⟨a, kvs, ex, ev, e, q⟩ := h
  subst ex
  subst ev
  obtain rfl : v = Value.ref a := rx
  have hus := rv.zero
  subst hus
  exact d_clearT I e fun s' I' => ⟨.non, _, I', rfl, q⟩
section
variable {X : Cx} {o : Expr} {to : TE} {apos cpos : Pos}
theorem pe_dclearT (ho : PE X o to) (hbase : attributeBase o "clear" X.env (eval o X.env) = eval o X.env := by rfl) (hline : (apos.endLine == cpos.line) = true := by rfl) : PE X (.Call (.Attribute o "clear" apos) [] [] cpos) (tBM0 X.K "dict" rDClearT to) :=
  pe_bm0 PySem.F.plainAttrs_dict PySem.F.slot_dict_clear PySem.F.type_dict_clear mtd_clearT ho hbase hline
end
end L2
namespace Rw
open PySem PySem.Spec L2 PyProof.Rows
/-! ### repr of a dict whose keys are tuples, its values numbers or None -/
def kDs (k : List Key) : PyData := .tuple (k.map fun x => match x with | .inl i => PyData.int i | .inr s => PyData.str s)
def nD : V → PyData
  | .int i => .int i
  | _ => .none
def dictT (kvs : List (List Key × V)) : PyData := .dict (kvs.map fun p => (kDs p.1, nD p.2))
section
variable {X : Cx} {pins : List (Addr × Obj)} {σ : L2.St} {H : Hp} {s : Shared}
theorem keys_read (I : L2.Inv X pins σ H s) : ∀ {ks : List Key} {us : List Value}, Vals (ks.map kV) us → ∃ as, ReadsAll s.heap us (ks.map fun x => match x with | .inl i => PyData.int i | .inr s => PyData.str s) as ∧ sysModules ∉ as
  | [], _, r => by
    cases r
    exact ⟨_, ReadsAll.nil, by simp⟩
  | k :: ks, _, r => by
    cases r with
    | cons r1 r2 =>
      obtain ⟨as, q, n⟩ := keys_read I r2
      cases k with
      | inl i =>
        obtain ⟨t, rfl⟩ := r1
        exact ⟨_, ReadsAll.cons (Reads.int i t) q, by simpa using n⟩
      | inr x =>
        obtain ⟨t, rfl⟩ := r1
        exact ⟨_, ReadsAll.cons (Reads.str x t) q, by simpa using n⟩
theorem pairs_read (I : L2.Inv X pins σ H s) : ∀ {kvs : List (List Key × V)} {xs : List (List Key × Addr × Value)}, KT H kvs xs → (∀ p ∈ kvs, p.2 = .non ∨ ∃ i, p.2 = .int i) →
    ∃ as bs, ReadsAll s.heap (xs.map fun x => Value.ref x.2.1) (kvs.map fun p => kDs p.1) as ∧ ReadsAll s.heap (xs.map fun x => x.2.2) (kvs.map fun p => nD p.2) bs ∧ sysModules ∉ as ∧ sysModules ∉ bs
  | [], _, r, _ => by
    cases r
    exact ⟨_, _, ReadsAll.nil, ReadsAll.nil, by simp, by simp⟩
  | p :: kvs, _, r, hv => by
    cases r with
    | @cons _ x _ xs r1 r2 =>
      obtain ⟨as, bs, q1, q2, n1, n2⟩ := pairs_read I r2 fun u hu => hv u (List.mem_cons_of_mem _ hu)
      obtain ⟨e1, e2, e3⟩ := r1
      obtain ⟨_, its, rv, o, ho, hc, n, hd⟩ := I.hok _ _ e2
      obtain ⟨cs, q3, n3⟩ := keys_read I rv
      have key : Reads s.heap (.ref x.2.1) (kDs p.1) cs := Reads.tuple ho hc hd q3
      have val : Reads s.heap x.2.2 (nD p.2) [] := by
        rcases hv p List.mem_cons_self with e | ⟨i, e⟩
        · rw [e] at e3 ⊢
          have e3' : x.2.2 = Value.none := e3
          rw [e3']
          exact Reads.none
        · rw [e] at e3 ⊢
          obtain ⟨t, ht⟩ := e3
          rw [ht]
          exact Reads.int i t
      exact ⟨cs ++ as, [] ++ bs, ReadsAll.cons key q1, ReadsAll.cons val q2, fun m => (List.mem_append.mp m).elim n3 n1, n2⟩
end
def rReprT : List V → Hp → VK → Prop := fun xs H Q => ∃ (a : Addr) (kvs : List (List Key × V)), xs = [.ref a] ∧ H a = some (.dT kvs) ∧ (∀ p ∈ kvs, p.2 = .non ∨ ∃ i, p.2 = .int i) ∧ (dictT kvs).showable = true ∧ (dictT kvs).depth ≤ 64 ∧ (dictT kvs).shown.length ≤ sizeLine ∧ Q (.str (dictT kvs).shown) H
theorem call_reprT {X : Cx} (hg : X.A.guards = some []) (hu : X.A.units + 70 < cLine) : CallR X (.builtin "repr") rReprT := by
  intro pins s σ H xs us Q I r h
  obtain ⟨a, kvs, rfl, ha, hv, h1, h3, h4, q⟩ := h
  obtain ⟨u, rfl, ru⟩ := vals1 r
  cases ru
  obtain ⟨_, low, ys, rel, o, es, ep, ho, exact_, hdat, hes, _, _⟩ := dt_of I.hok ha
  obtain ⟨as, bs, g1, g2, n1, n2⟩ := pairs_read I rel hv
  have e1 : es.toList.map (·.key) = ys.map fun x => Value.ref x.2.1 := by
    rw [hes, List.map_map]
    rfl
  have e2 : es.toList.map (·.val) = ys.map fun x => x.2.2 := by
    rw [hes, List.map_map]
    rfl
  have rd : Reads s.heap (.ref a) (dictT kvs) ((a :: as) ++ bs) := Reads.dict ho exact_.1 hdat (by rw [e1, List.map_map]; exact g1) (by rw [e2, List.map_map]; exact g2)
  refine repr_of_reads' rd h1 (fun _ m => ?_) hg (by omega) (fun _ _ e => e) (fun h' v tk keep => ?_) h4
  · rcases List.mem_append.mp m with m | m
    · rcases List.mem_cons.mp m with e | m
      · exact absurd e.symm (by simpa using low)
      · exact n1 m
    · exact n2 m
  · exact ⟨.str (dictT kvs).shown, H, Inv.kept I keep, ⟨_, rfl⟩, q⟩
end Rw
end T_DR

section T_QW
set_option Elab.async false
set_option linter.all false
set_option maxRecDepth 100000
set_option maxHeartbeats 8000000
namespace Rw
open PySem L2 PyProof.Rows
/-! ### plans, their prices, and what stands late nodes -/
section
variable {RR RR' : List Str → List (List Str)} {ys : List Str}
theorem plan_neR {l : List (List Str)} {d : List Str} (h : PlanFrom RR ys d l) : RR ys ≠ [] := by
  induction h with
  | done ne => exact ne
  | step _ _ _ ih => exact ih
theorem cost_planR (nd : ys.Nodup) {k : Nat} (h : costO RR ys = some k) : ∃ l, PlanFrom RR ys [] l ∧ l.length = k := by
  obtain ⟨ne, few⟩ := costO_few h
  obtain ⟨l, p, e⟩ := few_plan nd few (PlanFrom.done ne)
  exact ⟨l, p, e⟩
theorem plan_costR {l : List (List Str)} (h : PlanFrom RR ys [] l) : ∃ k, costO RR ys = some k ∧ k ≤ l.length := by
  have r := plan_rch h Rch.zero
  rw [Nat.zero_add] at r
  obtain ⟨j, hj, f⟩ := few_of r
  exact ⟨j, costO_some (plan_neR h) f, hj⟩
/-- fewer rounds that may be taken -/
theorem plan_monoR (le : ∀ d p, p ∈ RR' d → p ∈ RR d) {l : List (List Str)} {d : List Str} (h : PlanFrom RR' ys d l) : PlanFrom RR ys d l := by
  induction h with
  | done ne =>
    obtain ⟨p, hp⟩ := List.exists_mem_of_ne_nil _ ne
    exact .done (List.ne_nil_of_mem (le _ _ hp))
  | step h1 h2 _ ih => exact .step (le _ _ h1) h2 ih
theorem cost_monoR (nd : ys.Nodup) (le : ∀ d p, p ∈ RR' d → p ∈ RR d) {k : Nat} (h : costO RR' ys = some k) : ∃ j, costO RR ys = some j ∧ j ≤ k := by
  obtain ⟨l, p, rfl⟩ := cost_planR nd h
  exact plan_costR (plan_monoR le p)
theorem stR_sub {many : Nat} {d p : List Str} (h : p ∈ stR RR many d) : p ∈ RR d := (List.mem_filter.mp h).1
theorem stR_less {a b : Nat} (ab : a ≤ b) {d p : List Str} (h : p ∈ stR RR b d) : p ∈ stR RR a d := by
  obtain ⟨h1, h2⟩ := List.mem_filter.mp h
  refine List.mem_filter.mpr ⟨h1, ?_⟩
  rw [List.all_eq_true] at h2 ⊢
  intro e he
  refine h2 e ?_
  obtain ⟨lt, hlt, rfl⟩ := List.mem_map.mp he
  obtain ⟨m1, m2⟩ := List.mem_filter.mp hlt
  exact List.mem_map.mpr ⟨lt, List.mem_filter.mpr ⟨m1, decide_eq_true (Nat.le_trans (of_decide_eq_true m2) ab)⟩, rfl⟩
theorem stR_late {many : Nat} {d p lt : List Str} (h : p ∈ stR RR many d) (hl : lt.Sublist d) (hm : lt.length ≤ many) : p ∈ RR (d.filter fun z => decide (z ∉ lt)) := by
  have h2 := (List.mem_filter.mp h).2
  rw [List.all_eq_true] at h2
  exact of_decide_eq_true (h2 _ (List.mem_map.mpr ⟨lt, List.mem_filter.mpr ⟨partsS_has hl, decide_eq_true hm⟩, rfl⟩))
end
/-- costs with more late nodes are no less -/
theorem cost_late {bk : List Str → Bool} {ys : List Str} (nd : ys.Nodup) (a b k : Nat) (ab : a ≤ b) (h : costO (stR (safeS bk ys) b) ys = some k) : ∃ j, costO (stR (safeS bk ys) a) ys = some j ∧ j ≤ k :=
  cost_monoR nd (fun _ _ hp => stR_less ab hp) h
/-- what is broken, by the program's list and by the law's dict -/
theorem brk_bads {ends dots ss ps ws : List Str} {o n : Str → List (Str × V)} (wm : ∀ x ∈ ws, x ∈ wishes4) (on : List Str) (h : on.Sublist (moving ends dots o n)) : brkOf ends dots ss ps o n ws on = true ↔ ∃ x ∈ ws, x ∈ bads ends dots ss ps o n on := by
  unfold brkOf avoidL brokenL bads
  rw [decide_eq_true_iff, List.mem_flatMap]
  constructor
  · rintro ⟨wd, hw, m⟩
    exact ⟨wd, hw, List.mem_filter.mpr ⟨wm wd hw, (List.mem_filter.mp m).2⟩⟩
  · rintro ⟨wd, hw, m⟩
    exact ⟨wd, hw, List.mem_filter.mpr ⟨partsS_has h, (List.mem_filter.mp m).2⟩⟩
end Rw
end T_QW

section T_LA
set_option Elab.async false
set_option linter.all false
set_option maxRecDepth 100000
set_option maxHeartbeats 16000000
namespace Rw
open PySem L2 PyProof.Rows LamX
theorem stR_zeroF {RR : List Str → List (List Str)} : stR RR 0 = RR := by
  funext d
  unfold stR
  rw [List.filter_eq_self]
  intro p hp
  rw [List.all_eq_true]
  intro e he
  obtain ⟨lt, hlt, rfl⟩ := List.mem_map.mp he
  have hz := of_decide_eq_true (List.mem_filter.mp hlt).2
  have e0 : lt = [] := List.length_eq_zero_iff.mp (Nat.le_zero.mp hz)
  rw [e0, show (d.filter fun z => decide (z ∉ ([] : List Str))) = d from List.filter_eq_self.mpr fun z _ => decide_eq_true (fun h => nomatch h)]
  exact decide_eq_true hp
section
variable {P : Program} {w : World} {K : PySem.W.Frag} {mg : Str → Option Value} {base : Heap}
/-! ### all costs, as the law tells them -/
def spAll : Sp := fun vs H Q _ => ∃ (m tb db sb pb : Addr) (ends dots ss ps : List Str) (rows : List (Str × V)) (o n : Str → List (Str × V)), vs = [.ref m] ∧ ModelAt H m tb db sb pb ends dots ss ps rows ∧ RowsAt H ends dots rows o n ∧
  ∀ p H', Evl.Ex H H' → H p = none → H' p = some (.dT (kF (costF ends dots ss ps o n) lotsW)) → Q (.ref p) H'
abbrev nAll : List Str := ["model", "bad", "wants"]
theorem sc_all : FnScope nAll ["model"] (defScope s_all_costs) := ⟨rfl, rfl, rfl, by decide +kernel, rfl, by decide +kernel, by decide +kernel⟩
theorem ok_all {f : Addr} {fd : FuncData} (F : Fun K "_law_all_costs" "_law_all_costs" s_all_costs f fd) (C1 : Cal P w K mg base 3 "_law_bad" ["model"] spBadL) (C2 : Cal P w K mg base 1 "_law_lots" ["some"] (spLots K)) (C3 : Cal P w K mg base 1 "_law_sorts" [] spSorts) (C4 : Cal P w K mg base 3 "_law_fewest" ["model", "bad", "wants", "late"] (spFewL K))
    (mDict : mg "dict" = none) (mSorted : mg "sorted" = none) : FnOk P w K mg base CX0 4 f fd ["model"] spAll := by
  obtain ⟨f1, fd1, F1, k1, b1, g1⟩ := C1.ex
  obtain ⟨f2, fd2, F2, k2, b2, g2⟩ := C2.ex
  obtain ⟨f3, fd3, F3, k3, b3, g3⟩ := C3.ex
  obtain ⟨f4, fd4, F4, k4, b4, g4⟩ := C4.ex
  refine F.ok sc_all (fun vs H Q E h => ?_) (fun cdv A outer s H vs Q E hr h => ?_)
  · obtain ⟨m, tb, db, sb, pb, ends, dots, ss, ps, rows, o, n, rfl, _⟩ := h
    rfl
  · obtain ⟨m, tb, db, sb, pb, ends, dots, ss, ps, rows, o, n, rfl, MA, ro, k⟩ := h
    have nd := sc_all.nd
    have hu := hu_of hr
    have r1 : Room 1 _ := hr.mono (by decide)
    have r3 : Room 3 _ := hr.mono (by decide)
    refine ⟨_, pss_cons (ps_set (i := 1) nd rfl (.inr rfl) (pe_call F1 r3 rfl g1 k1 b1 .nil pass0 (pa_cons (pv 0) pa_nil)))
      (pss_one (ps_ret (pe_callTy (call_dictPT rfl (roomT (Nat.lt_of_le_of_lt (Nat.add_le_add_left (show 2 ≤ 65 by decide) _) (un65 hr)))) (by rfl) mDict (by decide +kernel) (pa_cons
        (pe_lc (own := [("wants", 2)]) (g := gName 2) (tt := tYes) (te := tTup (tCons (tVar 2) (tCons (tCall (spFewL K) [] E0 (tCons (tVar 0) (tCons (tVar 1) (tCons (tVar 2) (tCons (tC (.int 0)) tNil))))) tNil))) rfl nd
          (pi_list (pe_callB (cr_sortLT (Nat.lt_of_le_of_lt (Nat.add_le_add_left (by decide) _) (un65 hr))) (by rfl) mSorted (by decide +kernel) (pa_cons (pe_call F2 r1 rfl g2 k2 b2 .nil pass0 (pa_cons (pe_call0 F3 r1 rfl g3 k3 b3 .nil pass0) pa_nil)) pa_nil)))
          (blkOk_by (own := [("wants", 2)]) (N := nAll) (sc := defScope s_all_costs) (by decide +kernel))
          (fun _ _ _ _ _ => pg_name (i := 2) nd rfl (Or.inl rfl)) (fun _ _ _ _ _ => pts_nil)
          (fun _ _ _ _ _ => pe_tup (pa_cons (pv 2) (pa_cons (pe_call F4 r3 rfl g4 k4 b4 .nil pass0 (pa_cons (pv 0) (pa_cons (pv 1) (pa_cons (pv 2) (pa_cons pe_int pa_nil))))) pa_nil)))) pa_nil)))), ?_⟩
    have ok := MA.ok
    refine ⟨.ref m, rfl, m, tb, db, sb, pb, ends, dots, ss, ps, rows, o, n, rfl, MA, ro, fun b H1 x1 hb0 B0 => ?_⟩
    have BA := B0.to (rest_ex H H1)
    refine ⟨rfl, fun wl hwl => ?_⟩
    have y2 : Evl.Ex H1 (upd H1 wl (.lst (wishesL.map V.str))) := Evl.Ex.new hwl
    have w2 : (upd H1 wl (.lst (wishesL.map V.str))) wl = some (.lst (wishesL.map V.str)) := upd_same
    generalize upd H1 wl (.lst (wishesL.map V.str)) = H2 at y2 w2
    refine ⟨wl, wishesL, rfl, .inl (Evl.sq_of w2), by decide, fun pl H3 L js jp jso x3 _ hpl tL eL => ?_⟩
    have ejs : js = wishesL := sorted_uniq jso wishes4_sorted jp
    rw [ejs] at eL
    refine ⟨pl, L, rfl, hpl, tL, fun p hp => partsS_head (by rw [← eL]; exact hp), fun ys sp py sy ty hsp => ?_⟩
    have y4 : Evl.Ex H3 (upd H3 sp (.lst (ys.map fun q => V.ref q.1))) := Evl.Ex.new hsp
    have s4 : (upd H3 sp (.lst (ys.map fun q => V.ref q.1))) sp = some (.lst (ys.map fun q => V.ref q.1)) := upd_same
    have ty4 := ty.to y4
    have x14 : Evl.Ex H1 (upd H3 sp (.lst (ys.map fun q => V.ref q.1))) := y2.trans (x3.trans y4)
    generalize upd H3 sp (.lst (ys.map fun q => V.ref q.1)) = H4 at y4 s4 ty4 x14
    have eys : ys.map (·.2) = lotsW := by
      unfold lotsW
      exact lexL_is (by rw [← eL]; exact py) sy
    have ysl : ys.length ≤ 64 := by
      rw [← List.length_map (f := (·.2)), eys]
      exact lotsW_len
    refine ⟨sp, rfl, ⟨_, Evl.sq_of s4⟩, fun D hD => lc_list (K := K) (a := sp) (xs := ys.map fun q => V.ref q.1)
      (fun j H' => Evl.Ex H4 H' ∧ ∃ E : List EntT, H' D = some (.lst (E.map fun t => V.ref t.1)) ∧ (∀ t ∈ E, H' t.1 = some (.tup [.ref t.2.1, t.2.2.2]) ∧ H' t.2.1 = some (.tup (t.2.2.1.map kV))) ∧ E.map entV = kF (costF ends dots ss ps o n) ((ys.map (·.2)).take j))
      ⟨Evl.Ex.new hD, [], upd_same, (fun t ht => nomatch ht), rfl⟩ (fun j H' _ h => Evl.sq_of (h.1 _ _ s4)) ?_ ?_⟩
    · rintro j v H5 hj ⟨x5, E, d5, tE, eE⟩
      obtain ⟨q, hq, rfl⟩ := rowsT_at hj
      have mq := List.mem_of_getElem? hq
      have jl := (List.getElem?_eq_some_iff.mp hq).1
      have qs : q.2.Sublist wishesL := lotsW_mem.mp (by rw [← eys]; exact List.mem_map_of_mem mq)
      have q4 : q.2.length ≤ 4 := by have := qs.length_le; exact this
      have tq := x5 _ _ (ty4 q mq)
      have El : E.length ≤ 64 := by
        have := congrArg List.length eE
        rw [List.length_map, kF_len, List.length_take] at this
        have h2 := List.length_map (f := fun q : Addr × List Str => q.2) (as := ys)
        omega
      have x15 := x14.trans x5
      refine ⟨rfl, yes_if ⟨.ref q.1, rfl, .ref m, rfl, .ref b, rfl, .ref q.1, rfl, m, tb, db, sb, pb, b, q.1, ends, dots, ss, ps, rows, o, n, 0, _, brkOf ends dots ss ps o n q.2, q.2, rfl, (MA.ex x1).ex x15, (ro.ex x1).ex x15, BA.to x15, Evl.st_of tq, q4, (fun x hx => qs.subset hx), (fun on h => brk_bads (fun x hx => qs.subset hx) on h), fun H6 x6 => ⟨by show 2 ≤ sizeLine; decide, fun t ht => ?_⟩⟩⟩
      have ev : numV (costO (stR (safeS (brkOf ends dots ss ps o n q.2) (moving ends dots o n)) 0) (moving ends dots o n)) = costF ends dots ss ps o n q.2 := by
        rw [stR_zeroF]
        rfl
      rw [ev]
      have y7 : Evl.Ex H6 (upd H6 t (.tup [.ref q.1, costF ends dots ss ps o n q.2])) := Evl.Ex.new ht
      have t7 : (upd H6 t (.tup [.ref q.1, costF ends dots ss ps o n q.2])) t = some (.tup [.ref q.1, costF ends dots ss ps o n q.2]) := upd_same
      generalize upd H6 t (.tup [.ref q.1, costF ends dots ss ps o n q.2]) = H7 at y7 t7
      have x67 := x6.trans y7
      have d7 := x67 _ _ d5
      have ntD : ∀ {a : Addr} {xs : List V}, H7 a = some (.tup xs) → a ≠ D := fun {a xs} e => ne_of e d7 (by intro z; cases z)
      refine ⟨_, d7, by rw [List.length_map]; exact small1000 (by omega), (x5.trans x67).mut hD, E ++ [(t, q.1, q.2.map Sum.inr, costF ends dots ss ps o n q.2)], by rw [upd_same, List.map_append]; rfl, fun u hu => ?_, ?_⟩
      · have keep : H7 u.1 = some (.tup [.ref u.2.1, u.2.2.2]) ∧ H7 u.2.1 = some (.tup (u.2.2.1.map kV)) := by
          rcases List.mem_append.mp hu with hu | hu
          · exact ⟨x67 _ _ (tE u hu).1, x67 _ _ (tE u hu).2⟩
          · rw [List.mem_singleton.mp hu]
            exact ⟨t7, by rw [keyS]; exact x67 _ _ tq⟩
        exact ⟨by rw [upd_ne (ntD keep.1)]; exact keep.1, by rw [upd_ne (ntD keep.2)]; exact keep.2⟩
      · rw [List.map_append, eE, List.take_add_one, List.getElem?_map, hq]
        unfold kF
        rw [List.map_append]
        rfl
    · rintro H5 ⟨x5, E, d5, tE, eE⟩
      rw [List.length_map, ← List.length_map (f := (·.2)), List.take_length, eys] at eE
      refine ⟨D, E, rfl, Evl.sq_of d5, tE, ?_, fun p hp => ?_⟩
      · have h1 := congrArg (List.map Prod.fst) eE
        rw [List.map_map] at h1
        have h2 : (E.map fun t => t.2.2.1) = lotsW.map fun t => t.map Sum.inr := by
          refine Eq.trans h1 ?_
          unfold kF
          rw [List.map_map]
          rfl
        rw [h2]
        exact lotsW_nd.map _ fun a b ne e => ne (inr_inj e)
      · rw [eE]
        have x05 := x1.trans (x14.trans x5)
        exact k p _ (x05.trans (Evl.Ex.new hp)) (ex_none x05 hp) upd_same
end
end Rw
end T_LA

section T_QP
set_option Elab.async false
set_option linter.all false
set_option maxRecDepth 100000
set_option maxHeartbeats 8000000
namespace Rw
open PySem L2 PyProof.Rows
/-! ### plans of rounds of any kind -/
section
variable {RR : List Str → List (List Str)} {ys : List Str}
def foldM (ys : List Str) (P : List (List Str)) (k : Nat) : List Str := (P.take k).foldl (mixS ys) []
def lotK (P : List (List Str)) (k : Nat) : List Str := P[k]?.getD []
theorem foldM_succ {P : List (List Str)} {k : Nat} {r : List Str} (h : P[k]? = some r) : foldM ys P (k + 1) = mixS ys (foldM ys P k) r := by
  unfold foldM
  rw [List.take_add_one, h, List.foldl_append]
  rfl
theorem foldM_sub (P : List (List Str)) (k : Nat) : (foldM ys P k).Sublist ys := by
  unfold foldM
  generalize P.take k = A
  rcases List.eq_nil_or_concat A with e | ⟨B, r, e⟩
  · rw [e]
    exact List.nil_sublist _
  · rw [e, List.concat_eq_append, List.foldl_append]
    exact mixS_sub _ _ _
theorem plan_endR {l : List (List Str)} {d : List Str} (h : PlanFrom RR ys d l) : l.foldl (mixS ys) d = ys := by
  induction h with
  | done _ => rfl
  | step _ _ _ ih => exact ih
theorem plan_atR {l : List (List Str)} {d : List Str} (rest : ∀ d p, p ∈ RR d → p.Sublist (restOf d ys)) (h : PlanFrom RR ys d l) : ∀ k, k < l.length + 1 → lotK l k ∈ RR ((l.take k).foldl (mixS ys) d) := by
  induction h with
  | done ne =>
    intro k hk
    have e : k = 0 := by rw [List.length_nil] at hk; omega
    subst e
    obtain ⟨p, hp⟩ := List.exists_mem_of_ne_nil _ ne
    have h1 := rest _ _ hp
    rw [show restOf ys ys = [] from List.filter_eq_nil_iff.mpr fun z hz c => of_decide_eq_true c hz] at h1
    rw [List.sublist_nil.mp h1] at hp
    exact hp
  | @step d p l h1 h2 h3 ih =>
    intro k hk
    cases k with
    | zero => exact h1
    | succ k => exact ih k (by rw [List.length_cons] at hk; omega)
theorem plan_rowsR (nd : ys.Nodup) {l : List (List Str)} {d : List Str} (rest : ∀ d p, p ∈ RR d → p.Sublist (restOf d ys)) (h : PlanFrom RR ys d l) : d.Sublist ys → (∀ r ∈ l, r.Sublist ys ∧ r ≠ []) ∧ d.length + (l.map List.length).sum = ys.length := by
  induction h with
  | done _ =>
    intro _
    exact ⟨(fun r hr => nomatch hr), Nat.add_zero _⟩
  | @step d p l h1 h2 h3 ih =>
    intro hd
    obtain ⟨ps, pd⟩ := rest_lot (rest _ _ h1)
    obtain ⟨i1, i2⟩ := ih (mixS_sub _ _ _)
    refine ⟨fun r hr => ?_, ?_⟩
    · rcases List.mem_cons.mp hr with rfl | hr
      · exact ⟨ps, h2⟩
      · exact i1 r hr
    · have pm : (mixS ys d p).Perm (d ++ p) := by
        refine (List.perm_ext_iff_of_nodup (nd.sublist (mixS_sub _ _ _)) ?_).mpr fun x => ?_
        · rw [List.nodup_append]
          exact ⟨nd.sublist hd, nd.sublist ps, fun a ha b hb e => pd b hb (e ▸ ha)⟩
        · rw [mixS_mem hd ps, List.mem_append]
      have e := pm.length_eq
      rw [List.length_append] at e
      rw [List.map_cons, List.sum_cons]
      omega
end
end Rw
end T_QP

section T_LZ
set_option Elab.async false
set_option linter.all false
set_option maxRecDepth 100000
set_option maxHeartbeats 16000000
namespace Rw
open PySem PySem.Spec L2 PyProof.Rows LamX
/-! ### costs are shown -/
theorem cost_le6 {RR : List Str → List (List Str)} {ys : List Str} (nd : ys.Nodup) (rest : ∀ d p, p ∈ RR d → p.Sublist (restOf d ys)) {k : Nat} (h : costO RR ys = some k) : k ≤ ys.length := by
  obtain ⟨l, p, rfl⟩ := cost_planR nd h
  obtain ⟨g1, g2⟩ := plan_rowsR nd rest p (List.nil_sublist _)
  have main : ∀ l : List (List Str), (∀ r ∈ l, r ≠ []) → l.length ≤ (l.map List.length).sum := fun l => by
    induction l with
    | nil => intro _; exact Nat.le_refl _
    | cons r l ih =>
      intro h
      have h1 := List.length_pos_iff.mpr (h r List.mem_cons_self)
      have h2 := ih fun x hx => h x (List.mem_cons_of_mem _ hx)
      rw [List.map_cons, List.sum_cons, List.length_cons]
      omega
  have h1 := main l fun r hr => (g1 r hr).2
  rw [List.length_nil] at g2
  omega
theorem brk_perm {ends dots ss ps ws js : List Str} {o n : Str → List (Str × V)} (h : js.Perm ws) : brkOf ends dots ss ps o n js = brkOf ends dots ss ps o n ws := by
  funext on
  unfold brkOf avoidL
  rw [decide_eq_decide, List.mem_flatMap, List.mem_flatMap]
  exact ⟨fun ⟨x, hx, m⟩ => ⟨x, h.mem_iff.mp hx, m⟩, fun ⟨x, hx, m⟩ => ⟨x, h.mem_iff.mpr hx, m⟩⟩
/-- None, or a small number -/
def NumOk (v : V) : Prop := v = .non ∨ ∃ k : Nat, v = .int (k : Int) ∧ k ≤ 6
theorem costF_ok {ends dots ss ps : List Str} (ok : ModelOk ends dots ss ps) (o n : Str → List (Str × V)) (ws : List Str) : NumOk (costF ends dots ss ps o n ws) := by
  have nd : (moving ends dots o n).Nodup := ok.dn.sublist List.filter_sublist
  have l6 : (moving ends dots o n).length ≤ 6 := Nat.le_trans (List.length_filter_le _ _) ok.d6
  unfold costF
  cases e : costO (safeS (brkOf ends dots ss ps o n ws) (moving ends dots o n)) (moving ends dots o n) with
  | none => exact .inl rfl
  | some k => exact .inr ⟨k, rfl, Nat.le_trans (cost_le6 nd (fun d p hp => (safeS_mem.mp hp).1) e) l6⟩
theorem word_nm : ∀ z ∈ wishesL, Nm z := by
  intro z hz
  rcases List.mem_cons.mp hz with rfl | hz
  · exact ⟨[104, 111, 109, 101], by decide +kernel, by decide, by decide, by decide⟩
  rcases List.mem_cons.mp hz with rfl | hz
  · exact ⟨[108, 111, 115, 116], by decide +kernel, by decide, by decide, by decide⟩
  rcases List.mem_cons.mp hz with rfl | hz
  · exact ⟨[112, 111, 115, 116, 115], by decide +kernel, by decide, by decide, by decide⟩
  rcases List.mem_cons.mp hz with rfl | hz
  · exact ⟨[114, 105, 110, 103, 115], by decide +kernel, by decide, by decide, by decide⟩
  · cases hz
theorem nm_short {z : Str} (h : Nm z) : PyData.leavesShort 13 (.str z) = true := PyData.leavesShort_of_canLay0 13 (.str z) (nm_ok h) rfl
theorem words_q : ∀ t : List Str, (∀ z ∈ t, Nm z) → PyData.leavesShortAll 13 (t.map PyData.str) = true ∧ PyData.depthAll (t.map PyData.str) = 0 ∧ PyData.weightAll (t.map PyData.str) ≤ 7 * t.length ∧ PyData.showableAll (t.map PyData.str) = true
  | [], _ => ⟨rfl, rfl, Nat.zero_le _, rfl⟩
  | z :: t, h => by
    obtain ⟨g2, g3, g4, g6⟩ := words_q t fun u hu => h u (List.mem_cons_of_mem _ hu)
    have hz := h z List.mem_cons_self
    have zl : z.cps.size ≤ 6 := nm_len hz
    refine ⟨?_, ?_, ?_, ?_⟩
    · show (PyData.leavesShort 13 (.str z) && PyData.leavesShortAll 13 (t.map PyData.str)) = true
      rw [g2, nm_short hz]
      rfl
    · show max 0 (PyData.depthAll (t.map PyData.str)) = 0
      rw [g3]
      rfl
    · show z.cps.size + 1 + PyData.weightAll (t.map PyData.str) ≤ 7 * (t.length + 1)
      omega
    · show (true && PyData.showableAll (t.map PyData.str)) = true
      rw [g6]
      rfl
theorem nums_q {v : V} (h : NumOk v) : PyData.leavesShort 13 (nD v) = true ∧ PyData.depth (nD v) = 0 ∧ PyData.weight (nD v) ≤ 10 ∧ PyData.showable (nD v) = true := by
  rcases h with rfl | ⟨k, rfl, k6⟩
  · exact ⟨rfl, rfl, Nat.zero_le _, rfl⟩
  · have e : k = 0 ∨ k = 1 ∨ k = 2 ∨ k = 3 ∨ k = 4 ∨ k = 5 ∨ k = 6 := by omega
    rcases e with rfl | rfl | rfl | rfl | rfl | rfl | rfl
    all_goals exact ⟨by decide +kernel, by decide +kernel, by decide +kernel, by decide +kernel⟩
theorem kD_q {F : List Str → V} (hF : ∀ t, NumOk (F t)) : ∀ W : List (List Str), (∀ t ∈ W, t.length ≤ 4 ∧ ∀ z ∈ t, Nm z) →
    PyData.leavesShortKv 13 ((kF F W).map fun p => (kDs p.1, nD p.2)) = true ∧ PyData.depthKv ((kF F W).map fun p => (kDs p.1, nD p.2)) ≤ 1 ∧ PyData.weightKv ((kF F W).map fun p => (kDs p.1, nD p.2)) ≤ 60 * W.length ∧ PyData.showableKv ((kF F W).map fun p => (kDs p.1, nD p.2)) = true
  | [], _ => ⟨rfl, Nat.zero_le _, Nat.zero_le _, rfl⟩
  | t :: W, h => by
    obtain ⟨g1, g2, g3, g4⟩ := kD_q hF W fun u hu => h u (List.mem_cons_of_mem _ hu)
    obtain ⟨l4, nm⟩ := h t List.mem_cons_self
    obtain ⟨w1, w2, w3, w4⟩ := words_q t nm
    obtain ⟨n1, n2, n3, n4⟩ := nums_q (hF t)
    have ek : kDs (t.map Sum.inr) = .tuple (t.map PyData.str) := by
      unfold kDs
      rw [List.map_map]
      rfl
    have e : (kF F (t :: W)).map (fun p => (kDs p.1, nD p.2)) = (PyData.tuple (t.map PyData.str), nD (F t)) :: (kF F W).map fun p => (kDs p.1, nD p.2) := by
      rw [← ek]
      rfl
    rw [e]
    generalize (kF F W).map (fun p => (kDs p.1, nD p.2)) = R at g1 g2 g3 g4
    refine ⟨?_, ?_, ?_, ?_⟩
    · show (PyData.leavesShortAll 13 (t.map PyData.str) && PyData.leavesShort 13 (nD (F t)) && PyData.leavesShortKv 13 R) = true
      rw [w1, n1, g1]
      rfl
    · show max (max (PyData.depthAll (t.map PyData.str) + 1) (PyData.depth (nD (F t)))) (PyData.depthKv R) ≤ 1
      omega
    · show PyData.weightAll (t.map PyData.str) + PyData.weight (nD (F t)) + 2 + PyData.weightKv R ≤ 60 * (W.length + 1)
      omega
    · show (PyData.showableAll (t.map PyData.str) && PyData.showable (nD (F t)) && PyData.showableKv R) = true
      rw [w4, n4, g4]
      rfl
theorem kF_shown {F : List Str → V} (hF : ∀ t, NumOk (F t)) : (dictT (kF F lotsW)).showable = true ∧ (dictT (kF F lotsW)).depth ≤ 64 ∧ (dictT (kF F lotsW)).shown.length ≤ sizeLine := by
  obtain ⟨g1, g2, g3, g4⟩ := kD_q hF lotsW fun t ht => by
    have ts := lotsW_mem.mp ht
    exact ⟨by have := ts.length_le; exact this, fun z hz => word_nm z (ts.subset hz)⟩
  refine ⟨g4, ?_, ?_⟩
  · show PyData.depthKv ((kF F lotsW).map fun p => (kDs p.1, nD p.2)) + 1 ≤ 64
    omega
  · refine PyData.shown_fits (B := 13) (by decide) (by decide) (show PyData.leavesShort 13 (.dict _) = true from g1) (Nat.le_trans (show PyData.weightKv ((kF F lotsW).map fun p => (kDs p.1, nD p.2)) ≤ _ from g3) ?_)
    have := lotsW_len
    omega
theorem kF_nums {F : List Str → V} (hF : ∀ t, NumOk (F t)) {W : List (List Str)} : ∀ p ∈ kF F W, p.2 = .non ∨ ∃ i, p.2 = .int i := fun p hp => by
  obtain ⟨t, _, rfl⟩ := List.mem_map.mp hp
  rcases hF t with h | ⟨k, h, _⟩
  · exact .inl h
  · exact .inr ⟨_, h⟩
/-! ### repr of None, or of a number -/
def shownN : V → Str
  | .int i => Str.ofString (toString i)
  | _ => "None"
def rReprI : List V → Hp → VK → Prop := fun xs H Q => ∃ v : V, xs = [v] ∧ (v = .non ∨ ∃ i : Int, v = .int i ∧ i.natAbs ≤ 100) ∧ Q (.str (shownN v)) H
theorem call_reprI {X : Cx} : CallR X (.builtin "repr") rReprI := by
  intro pins s σ H xs us Q I r h
  obtain ⟨v, rfl, hv, q⟩ := h
  obtain ⟨u, rfl, ru⟩ := vals1 r
  rcases hv with rfl | ⟨i, rfl, hi⟩
  · cases ru
    exact PySem.P.repr_of_none ⟨.str "None", H, I.tok _, ⟨_, rfl⟩, q⟩
  · obtain ⟨t, rfl⟩ := ru
    exact PySem.P.repr_of_int (by have := Nat.log2_le_self i.natAbs; omega) ⟨.str (shownN (.int i)), H, I.tok _, ⟨_, rfl⟩, q⟩
end Rw
end T_LZ

section T_RS
set_option Elab.async false
set_option linter.all false
set_option maxRecDepth 100000
set_option maxHeartbeats 8000000
namespace Rw
open PySem L2 PyProof.Rows
/-! ### lists of rounds are shown -/
def rowsD (Rs : List (List Str)) : PyData := .list (Rs.map fun r => .tuple (r.map .str))
theorem strs_shown : ∀ {zs : List Str}, (∀ z ∈ zs, Nm z) → PyData.canLayAll0 (zs.map PyData.str) = true ∧ PyData.depthAll (zs.map PyData.str) = 0 ∧ PyData.weightAll (zs.map PyData.str) ≤ 7 * zs.length ∧ PyData.intsShortAll 13 (zs.map PyData.str) = true ∧ PyData.showableAll (zs.map PyData.str) = true
  | [], _ => ⟨rfl, rfl, Nat.zero_le _, rfl, rfl⟩
  | z :: zs, h => by
    obtain ⟨g2, g3, g4, g5, g6⟩ := strs_shown fun y hy => h y (List.mem_cons_of_mem _ hy)
    have hz := h z List.mem_cons_self
    have zl : z.cps.size ≤ 6 := nm_len hz
    refine ⟨?_, ?_, ?_, ?_, ?_⟩
    · show (PyData.strOk z && PyData.canLayAll0 (zs.map PyData.str)) = true
      rw [g2, nm_ok hz]
      rfl
    · show max 0 (PyData.depthAll (zs.map PyData.str)) = 0
      rw [g3]
      rfl
    · show z.cps.size + 1 + PyData.weightAll (zs.map PyData.str) ≤ 7 * (zs.length + 1)
      omega
    · show (PyData.intsShort 13 (.str z) && PyData.intsShortAll 13 (zs.map PyData.str)) = true
      rw [g5]
      rfl
    · show (true && PyData.showableAll (zs.map PyData.str)) = true
      rw [g6]
      rfl
theorem rows_shown : ∀ {Rs : List (List Str)}, (∀ r ∈ Rs, r.length ≤ 6 ∧ ∀ z ∈ r, Nm z) → PyData.canLayAll0 (Rs.map fun r => .tuple (r.map .str)) = true ∧ PyData.depthAll (Rs.map fun r => .tuple (r.map .str)) ≤ 1 ∧ PyData.weightAll (Rs.map fun r => .tuple (r.map .str)) ≤ 43 * Rs.length ∧ PyData.intsShortAll 13 (Rs.map fun r => .tuple (r.map .str)) = true ∧ PyData.showableAll (Rs.map fun r => .tuple (r.map .str)) = true
  | [], _ => ⟨rfl, Nat.zero_le _, Nat.zero_le _, rfl, rfl⟩
  | r :: Rs, h => by
    obtain ⟨g2, g3, g4, g5, g6⟩ := rows_shown fun y hy => h y (List.mem_cons_of_mem _ hy)
    obtain ⟨r6, rn⟩ := h r List.mem_cons_self
    obtain ⟨s2, s3, s4, s5, s6⟩ := strs_shown rn
    refine ⟨?_, ?_, ?_, ?_, ?_⟩
    · show (PyData.canLayAll0 (r.map PyData.str) && PyData.canLayAll0 (Rs.map fun r => .tuple (r.map .str))) = true
      rw [g2, s2]
      rfl
    · show max (PyData.depthAll (r.map PyData.str) + 1) (PyData.depthAll (Rs.map fun r => .tuple (r.map .str))) ≤ 1
      omega
    · show PyData.weightAll (r.map PyData.str) + 1 + PyData.weightAll (Rs.map fun r => .tuple (r.map .str)) ≤ 43 * (Rs.length + 1)
      omega
    · show (PyData.intsShortAll 13 (r.map PyData.str) && PyData.intsShortAll 13 (Rs.map fun r => .tuple (r.map .str))) = true
      rw [g5, s5]
      rfl
    · show (PyData.showableAll (r.map PyData.str) && PyData.showableAll (Rs.map fun r => .tuple (r.map .str))) = true
      rw [g6, s6]
      rfl
structure ShownOk (d : PyData) : Prop where
  s1 : d.showable = true
  s2 : d.hasDict = false
  s3 : d.depth ≤ 64
  s4 : d.shown.length ≤ sizeLine
theorem rowsD_shown {Rs : List (List Str)} (h : ∀ r ∈ Rs, r.length ≤ 6 ∧ ∀ z ∈ r, Nm z) (few : Rs.length ≤ 100) : ShownOk (rowsD Rs) := by
  obtain ⟨g2, g3, g4, g5, g6⟩ := rows_shown h
  have lay : PyData.canLay0 (rowsD Rs) = true := g2
  have dep : PyData.depth (rowsD Rs) ≤ 2 := by
    show PyData.depthAll (Rs.map fun r => .tuple (r.map .str)) + 1 ≤ 2
    omega
  refine ⟨g6, PyData.hasDict_of_canLay _ lay, by omega, ?_⟩
  refine PyData.shown_fits_of_layable0 (B := 13) (by decide) (by decide) ?_ g5
  show (PyData.canLay0 (rowsD Rs) && decide (PyData.depth (rowsD Rs) ≤ 64) && decide (PyData.weight (rowsD Rs) ≤ 2 ^ 20)) = true
  rw [lay, decide_eq_true (show PyData.depth (rowsD Rs) ≤ 64 by omega), decide_eq_true (show PyData.weight (rowsD Rs) ≤ 2 ^ 20 from Nat.le_trans (show PyData.weightAll (Rs.map fun r => .tuple (r.map .str)) ≤ 43 * Rs.length from g4) (by omega))]
  rfl
theorem rowsD2_shown {Rs : List (List Str)} (h : ∀ r ∈ Rs, r.length ≤ 6 ∧ ∀ z ∈ r, Nm z) (few : Rs.length ≤ 100) : ShownOk (.list [rowsD Rs, rowsD Rs]) := by
  obtain ⟨g2, g3, g4, g5, g6⟩ := rows_shown h
  have lay1 : PyData.canLay0 (rowsD Rs) = true := g2
  have lay : PyData.canLay0 (.list [rowsD Rs, rowsD Rs]) = true := by
    show (PyData.canLay0 (rowsD Rs) && (PyData.canLay0 (rowsD Rs) && true)) = true
    rw [lay1]
    rfl
  have dep : PyData.depth (.list [rowsD Rs, rowsD Rs]) ≤ 3 := by
    show max (PyData.depthAll (Rs.map fun r => .tuple (r.map .str)) + 1) (max (PyData.depthAll (Rs.map fun r => .tuple (r.map .str)) + 1) 0) + 1 ≤ 3
    omega
  refine ⟨?_, PyData.hasDict_of_canLay _ lay, by omega, ?_⟩
  · show (PyData.showableAll (Rs.map fun r => .tuple (r.map .str)) && (PyData.showableAll (Rs.map fun r => .tuple (r.map .str)) && true)) = true
    rw [g6]
    rfl
  refine PyData.shown_fits_of_layable0 (B := 13) (by decide) (by decide) ?_ ?_
  · show (PyData.canLay0 (.list [rowsD Rs, rowsD Rs]) && decide (PyData.depth (.list [rowsD Rs, rowsD Rs]) ≤ 64) && decide (PyData.weight (.list [rowsD Rs, rowsD Rs]) ≤ 2 ^ 20)) = true
    rw [lay, decide_eq_true (show PyData.depth (.list [rowsD Rs, rowsD Rs]) ≤ 64 by omega), decide_eq_true (show PyData.weight (.list [rowsD Rs, rowsD Rs]) ≤ 2 ^ 20 from ?_)]
    · rfl
    · show PyData.weightAll (Rs.map fun r => .tuple (r.map .str)) + 1 + (PyData.weightAll (Rs.map fun r => .tuple (r.map .str)) + 1 + 0) ≤ 2 ^ 20
      omega
  · show (PyData.intsShortAll 13 (Rs.map fun r => .tuple (r.map .str)) && (PyData.intsShortAll 13 (Rs.map fun r => .tuple (r.map .str)) && true)) = true
    rw [g5]
    rfl
theorem dp_rows {K : PySem.W.Frag} {H : Hp} {a : Addr} {L : List (Addr × List Str)} (h : H a = some (.lst (L.map fun q => V.ref q.1))) (t : RowsT H L) : Dp K H (.ref a) (rowsD (L.map (·.2))) := by
  unfold rowsD
  rw [List.map_map]
  exact .lst (Evl.sq_of h) (dpa_rows t)
end Rw
end T_RS

section T_G1
set_option Elab.async false
set_option linter.all false
set_option maxRecDepth 100000
set_option maxHeartbeats 2000000
namespace Rw
open PySem PySem.Spec PySem.Calls L2 PyProof.Rows
/-- the law's own call, its def a FnG -/
theorem law_goes {P : Program} {w : World} {K : PySem.W.Frag} {mg mb : Str → Option Value} {k : Nat} {fa a : Addr} {fd : FuncData} {x : Str} {sp : Sp} {s : Shared} {vs : List Value} {ns : List Int}
    (known : K.In s.heap) (globs : s.heap.Ns mainGlobals mg) (blt : s.heap.Ns builtinsNs mb) (blt_is : ∀ y : Str, y ≠ "__name__" → mb y = bootBuiltins y) (nolim : s.heap.NoLimit) (nogen : s.gens = #[])
    (scr : s.heap.get? a = some { cls := .type "list", data := .seq vs.toArray }) (intsOf : IntsAre vs ns) (few : ns.length ≤ sizeLine) (room : Room k callerA)
    (F : ∀ base : Heap, K.In base → base.Ns mainGlobals mg → FnG P w K mg base CX0 k fa fd [x] sp) (bind : ∀ (s : Shared) (u : Value), BindsTo s fd ⟨[u], []⟩ [(x, u)])
    (prom : ∀ H : Hp, SqL K H a (ns.map V.int) → sp [.ref a] H (fun v _ => v = .bl true) fun _ _ _ => False) :
    codeAny (model P w) callerA (.call (.ref fa) ⟨[.ref a], []⟩) (fun r s' => r = .ok (.ret (.bool true)) ∧ OldK s.heap s'.heap ∧ s'.os = s.os ∧ AllBare s'.gens) s := by
  have items := vals_ints intsOf
  have main : ∀ H : Hp, (∀ b u, H b = some u → b = a ∧ K.lookup a = none ∧ u = .frz { cls := .type "list", data := .seq vs.toArray } (.lst (ns.map V.int))) → SqL K H a (ns.map V.int) →
      codeAny (model P w) callerA (.call (.ref fa) ⟨[.ref a], []⟩) (fun r s' => r = .ok (.ret (.bool true)) ∧ OldK s.heap s'.heap ∧ s'.os = s.os ∧ AllBare s'.gens) s := by
    intro H sole reads
    have held : HOk P w H s.heap := fun b u z => by
      obtain ⟨rfl, _, rfl⟩ := sole b u z
      exact ⟨scr, by rw [List.length_map]; exact few, vs, _, items, scr⟩
    have ns_hid : ∀ {b : Addr} {m : Str → Option Value}, s.heap.Ns b m → (hidT s.heap H).Ns b m := by
      rintro b m ⟨o, es, ep, at_b, isD, rest⟩
      refine ⟨o, es, ep, hidT_get at_b ?_, isD, rest⟩
      cases z : H b with
      | none => rfl
      | some u =>
        obtain ⟨rfl, _, _⟩ := sole b u z
        rw [scr] at at_b
        cases at_b
        cases isD
    have known_hid : K.In (hidT s.heap H) := fun b o at_b => hidT_get (known b o at_b) (by
      cases z : H b with
      | none => rfl
      | some u =>
        obtain ⟨rfl, no, _⟩ := sole b u z
        rw [no] at at_b
        cases at_b)
    have lim_hid : (hidT s.heap H).NoLimit := by
      obtain ⟨mc, q1, q2⟩ := nolim
      exact ⟨mc, ns_hid q1, q2⟩
    have here : Env0 P w K mg (hidT s.heap H) callerA [] s H :=
      { frames := rfl, mod := ⟨known_hid, ns_hid globs, ⟨mb, ns_hid blt, blt_is⟩, lim_hid⟩, bs := fun b o => of_hidT, bsz := Nat.le_of_eq (hidT_size _ _), funs := trivial,
        frf := fun b hb => (by cases hb), hok := held, bare := .of_eq nogen }
    have ran := (F _ known_hid (ns_hid globs)).goes callerA [] s H ⟨[.ref a], []⟩ [.ref a] [.ref a] _ _ rfl room here (bind s (.ref a)) (.cons rfl .nil) (prom H reads)
    refine codeAny_mono ran fun out s' got => ?_
    match out, got with
    | .error _, got => exact got.elim
    | .ok .next, got => exact got.elim
    | .ok .brk, got => exact got.elim
    | .ok .cont, got => exact got.elim
    | .ok (.ret u), got =>
      obtain ⟨v, H', os, bare, un, held', rel, yes⟩ := got
      have yes' : v = .bl true := yes
      subst yes'
      have u_is : u = Value.bool true := rel
      subst u_is
      refine ⟨rfl, OldK.of_keep fun b o at_b => ?_, os, bare⟩
      cases z : H b with
      | none => exact un.keep b o at_b z (fun hb => by cases hb) (fun hb => by cases hb)
      | some u =>
        obtain ⟨rfl, _, rfl⟩ := sole b u z
        obtain ⟨still, _⟩ := held' b _ (un.frzs b _ _ z)
        rw [scr] at at_b
        cases at_b
        exact still
  cases kn : K.lookup a with
  | none =>
    refine main (fun b => if b = a then some (.frz { cls := .type "list", data := .seq vs.toArray } (.lst (ns.map V.int))) else none) (fun b u z => ?_) (.inl (.inr ⟨_, if_pos rfl⟩))
    by_cases e : b = a
    · rw [if_pos e] at z
      exact ⟨e, kn, (Option.some.inj z).symm⟩
    · rw [if_neg e] at z
      cases z
  | some o =>
    have o_is := known a o kn
    rw [scr] at o_is
    cases o_is
    exact main (fun _ => none) (fun b u z => by cases z) (.inr ⟨_, vs.toArray, _, kn, rfl, rfl, rfl, by rw [List.size_toArray, intsOf.length]; exact few, by simpa using items⟩)
/-- the end of a row, its law a FnG -/
theorem walk_ofG {l : PySem.W.OpenLaw} {n k : Nat} {q : Program} {loose : List Str} {XP : (Str → Option Value) → Heap → Prop} {YP : World → Heap → Prop} {d : DefRec} {K : Params → PySem.W.Frag} {sp : World → Sp} {x : Str}
    (most : l.most = some n) (small : n ≤ sizeLine) (nodef : d.params.defaults = []) (room : Room k callerA) (knows : ∀ (w : World) (h : Heap), YP w h → (K w.params).In h)
    (F : ∀ (w : World) (mg : Str → Option Value) (fa : Addr) (h : Heap), (K w.params).In h → h.Ns mainGlobals mg → mg d.name = some (.ref fa) →
      ∃ fd : FuncData, (∀ (s : Shared) (u : Value), BindsTo s fd ⟨[u], []⟩ [(x, u)]) ∧ ∀ base : Heap, (K w.params).In base → base.Ns mainGlobals mg → FnG l.prog w (K w.params) mg base CX0 k fa fd [x] (sp w))
    (prom : ∀ (w : World) (H : Hp) (a : Addr) (ns : List Int), ns.length ≤ n → SqL (K w.params) H a (ns.map V.int) → sp w [.ref a] H (fun v _ => v = .bl true) fun _ _ _ => False) :
    PySem.W.WalkO q loose XP YP l.row.toRowW d [] (fun f vs => PySem.call f vs) := by
  refine Att.attach_call most nodef ?_
  intro w s₀ s₁ mg mb fa o pm cd doc a vs ns G Y _ _ _ at_law scr intsOf few nogen
  obtain ⟨fd, bind, all⟩ := F w mg fa _ (knows w _ Y) G.T.g at_law
  exact law_goes (knows w _ Y) G.T.g G.T.b G.T.builtins G.T.nolimit nogen scr intsOf (Nat.le_trans few small) room all bind fun H reads => prom w H a ns few reads
end Rw
end T_G1

section T_B1
set_option Elab.async false
set_option linter.all false
set_option maxRecDepth 100000
set_option maxHeartbeats 4000000
namespace Rw
open PySem L2 PyProof.Rows
section
variable {P : Program} {w : World} {K : PySem.W.Frag} {mg : Str → Option Value} {base : Heap}
theorem sc_begin : FnScope ["script", "great", "cell"] ["script"] (defScope s_begin) := ⟨rfl, rfl, rfl, by decide +kernel, rfl, by decide +kernel, by decide +kernel⟩
theorem ok_begin {f : Addr} {fd : FuncData} (F : Fun K "_law_begin" "_law_begin" s_begin f fd) (mAbs : mg "abs" = none) : FnOk P w K mg base CX0 1 f fd ["script"] (spBegin K) := by
  refine F.ok sc_begin (fun vs H Q E h => ?_) (fun cdv A outer s H vs Q E hr h => ?_)
  · obtain ⟨a, ns, rfl, _⟩ := h
    rfl
  · obtain ⟨a, ns, rfl, hS, hl, k⟩ := h
    have nd := sc_begin.nd
    refine ⟨_, pss_cons (ps_setLc (i := 1) (own := [("cell", 2)]) (g := gName 2) (by rfl) nd rfl rfl (sw_true rfl rfl rfl (by decide +kernel)) (pi_list (pv 0)) (blkOk_by (own := [("cell", 2)]) (N := ["script", "great", "cell"]) (sc := defScope s_begin) (by decide +kernel))
          (fun _ _ _ _ _ => pg_name (i := 2) nd rfl (Or.inl rfl)) (fun _ _ _ _ _ => pts_one (pt_cmpR op_ge (pe_callB call_abs (by rfl) mAbs boot_abs (pa_cons (pv 2) pa_nil)) (pe_op op_pow pe_int pe_int) (nomark _)))
          (fun _ _ _ _ _ => pe_op op_sub (pe_callB call_abs (by rfl) mAbs boot_abs (pa_cons (pv 2) pa_nil)) (pe_op op_pow pe_int pe_int)))
      (pss_one (ps_ret (pe_disp (pps_cons pe_str (pv 1) (pps_cons pe_str pe_int (pps_cons pe_str
          (pe_lc (own := [("cell", 2)]) (g := gName 2) (tt := tYes) rfl nd (pi_list (pv 0)) (blkOk_by (own := [("cell", 2)]) (N := ["script", "great", "cell"]) (sc := defScope s_begin) (by decide +kernel))
            (fun _ _ _ _ _ => pg_name (i := 2) nd rfl (Or.inl rfl)) (fun _ _ _ _ _ => pts_nil) (fun _ _ _ _ _ => pe_callB call_abs (by rfl) mAbs boot_abs (pa_cons (pv 2) pa_nil)))
          (pps_cons pe_str pe_int pps_nil)))) (by rfl) (by rfl) (fun z => by cases z) (by decide)))), ?_⟩
    -- great = [..]
    have int_at : ∀ {i : Nat} {x : V}, (ns.map V.int)[i]? = some x → ∃ z : Int, x = V.int z := fun {i x} hi => by
      rw [List.getElem?_map] at hi
      cases e : ns[i]? with
      | none => rw [e] at hi; cases hi
      | some z => rw [e] at hi; exact ⟨z, (Option.some.inj hi).symm⟩
    refine ⟨.ref a, rfl, a, rfl, ⟨_, hS⟩, fun g hg => lc_list (K := K) (a := a) (xs := ns.map V.int)
      (fun i H1 => ∃ gs : List Int, gs.length ≤ i ∧ H1 = upd H g (.lst (gs.map V.int))) ⟨[], Nat.le_refl _, rfl⟩ ?_ ?_ ?_⟩
    · rintro i H1 _ ⟨gs, _, rfl⟩
      exact Evl.ex_l (Evl.Ex.new hg) hS
    · rintro i x H1 hi ⟨gs, hgl, rfl⟩
      obtain ⟨z, rfl⟩ := int_at hi
      have hil : i < (ns.map V.int).length := (List.getElem?_eq_some_iff.mp hi).1
      rw [List.length_map] at hil
      refine ⟨rfl, _, rfl, z, rfl, 10, 18, rfl, rfl, ⟨by decide, by decide, by decide⟩, _, _, rfl, rfl, _, rfl, ite2 (fun _ => ?_) (fun _ => ⟨gs, by omega, rfl⟩)⟩
      refine ⟨_, rfl, z, rfl, 10, 18, rfl, rfl, ⟨by decide, by decide, by decide⟩, _, _, rfl, rfl, _, upd_same, ?_, gs ++ [(if z < 0 then -z else z) - 10 ^ (18 : Int).toNat], ?_, ?_⟩
      · rw [List.length_map]; exact small1000 (by omega)
      · rw [List.length_append]; show gs.length + 1 ≤ i + 1; omega
      · rw [upd_upd, List.map_append]; rfl
    · rintro H1 ⟨gs, _, rfl⟩
      -- the dict
      intro d hd
      have hng : g ≠ d := ne_of_none upd_same hd
      have hSd : SqL K (upd (upd H g (.lst (gs.map V.int))) d (.dK [])) a (ns.map V.int) := Evl.ex_l (Evl.Ex.new hd) (Evl.ex_l (Evl.Ex.new hg) hS)
      refine ⟨.ref g, rfl, .ref a, rfl, a, rfl, ⟨_, hSd⟩, fun c hc => lc_list (K := K) (a := a) (xs := ns.map V.int)
        (fun i H1 => ∃ cs : List Int, cs.length ≤ i ∧ H1 = upd (upd (upd H g (.lst (gs.map V.int))) d (.dK [])) c (.lst (cs.map V.int))) ⟨[], Nat.le_refl _, rfl⟩ ?_ ?_ ?_⟩
      · rintro i H1 _ ⟨cs, _, rfl⟩
        exact Evl.ex_l (Evl.Ex.new hc) hSd
      · rintro i x H1 hi ⟨cs, hcl, rfl⟩
        obtain ⟨z, rfl⟩ := int_at hi
        have hil : i < (ns.map V.int).length := (List.getElem?_eq_some_iff.mp hi).1
        rw [List.length_map] at hil
        refine ⟨rfl, ?_⟩
        refine yes_if ?_
        refine ⟨_, rfl, z, rfl, _, upd_same, ?_, cs ++ [if z < 0 then -z else z], ?_, ?_⟩
        · rw [List.length_map]; exact small1000 (by omega)
        · rw [List.length_append]; show cs.length + 1 ≤ i + 1; omega
        · rw [upd_upd, List.map_append]; rfl
      · rintro H1 ⟨cs, _, rfl⟩
        have ndc : d ≠ c := ne_of_none upd_same hc
        have ngc : g ≠ c := ne_of_none (o := .lst (gs.map V.int)) (by rw [upd_ne hng]; exact upd_same) hc
        have dn : H d = none := by rw [upd_ne hng.symm] at hd; exact hd
        have cn : H c = none := by rw [upd_ne ndc.symm, upd_ne ngc.symm] at hc; exact hc
        refine ⟨by rw [upd_ne ndc]; exact upd_same, dkv g c 0 0, rfl, by show 4 ≤ 15; decide, ?_⟩
        refine k d g c _ ⟨⟨0, 0, ?_⟩, ⟨gs, ?_⟩, ⟨cs, ?_⟩, ngc.symm⟩ fun b o e => off_of ?_ (ne_of_none e dn) (ne_of_none e hg)
        · rw [upd_same]
          exact congrArg (fun z => some (HO.dK z)) (by kernel_rfl)
        · rw [upd_ne hng, upd_ne ngc, upd_ne hng, upd_same]
        · rw [upd_ne ndc.symm, upd_same]
        · rw [upd_ne (ne_of_none e dn), upd_ne (ne_of_none e cn), upd_ne (ne_of_none e dn), upd_ne (ne_of_none e hg)]
          exact e
end
end Rw
end T_B1

section T_BQ
set_option Elab.async false
set_option linter.all false
set_option maxRecDepth 100000
set_option maxHeartbeats 4000000
namespace Rw
open PySem PySem.Spec L2 PyProof.Rows LamX

/-- repr of None, or of data -/
def rReprN (K : PySem.W.Frag) : List V → Hp → VK → Prop := fun xs H Q => ∃ v : V, xs = [v] ∧ ((v = .non ∧ Q (.str "None") H) ∨ ∃ (a : Addr) (d : PyData), v = .ref a ∧ Dp K H (.ref a) d ∧ ShownOk d ∧ Q (.str d.shown) H)
theorem call_reprN {X : Cx} (hg : X.A.guards = some []) (hu : X.A.units + 70 < cLine) : CallR X (.builtin "repr") (rReprN X.K) := by
  intro pins s σ H xs us Q I r h
  obtain ⟨v, rfl, ⟨rfl, q⟩ | ⟨a, d, rfl, hd, hs, q⟩⟩ := h
  · obtain ⟨u, rfl, ru⟩ := vals1 r
    cases ru
    exact PySem.P.repr_of_none ⟨.str "None", H, I.tok _, ⟨_, rfl⟩, q⟩
  · exact call_reprD hg hu pins s σ H [.ref a] us Q I r ⟨a, d, rfl, hd, hs.s1, hs.s2, hs.s3, hs.s4, q⟩
/-! ### steps of laws that draw and call lambdas -/
theorem DrawAt.nt {H : Hp} {d g c : Addr} (D : DrawAt H d g c) : DrawAt (nt H) d g c := by
  obtain ⟨r, t, h⟩ := D.ex
  obtain ⟨gs, hg⟩ := D.gl
  obtain ⟨cs, hc⟩ := D.cl
  exact ⟨⟨r, t, nt_dK h⟩, ⟨gs, nt_lst hg⟩, ⟨cs, nt_lst hc⟩, D.ne⟩
theorem DrawAt.ntTo {H H' : Hp} {d g c : Addr} (D : DrawAt H d g c) (x : Evl.Ex (Rw.nt H) (Rw.nt H')) : DrawAt H' d g c := D.nt.ext (x.trans (ex_nt H'))
theorem Tabs.draw {T : List (Addr × Str)} {d g c : Addr} {H H' : Hp} (h : Tabs T H) (D : DrawAt H d g c) (x : Evl.Ex (off d g H) (off d g H')) : Tabs T H' := fun q hq => by
  obtain ⟨ts, h1, h2, h3⟩ := h q hq
  have st : ∀ {b : Addr} {u : HO}, H b = some u → (∀ l, u ≠ .dK l) → (∀ l, u ≠ .lst l) → H' b = some u := fun {b u} e n1 n2 => by
    obtain ⟨r, t, hd⟩ := D.ex
    obtain ⟨gs, hg⟩ := D.gl
    refine ex_off d g H' _ _ (x _ _ (off_of e (fun z => ?_) (fun z => ?_)))
    · rw [z, hd] at e
      exact n1 _ (Option.some.inj e).symm
    · rw [z, hg] at e
      exact n2 _ (Option.some.inj e).symm
  refine ⟨ts, st h1 (fun l z => by cases z) (fun l z => by cases z), h2, fun pos cv hcv => ?_⟩
  obtain ⟨c', e1, e2⟩ := h3 pos cv hcv
  exact ⟨c', e1, st e2 (fun l z => by unfold CodeO at z; cases z) (fun l z => by unfold CodeO at z; cases z)⟩
/-- what stays while draws are made and lambdas are -/
def fr (d g : Addr) (H : Hp) : Hp := off d g (nt H)
theorem fr_draw {d g : Addr} {H H' : Hp} (x : Evl.Ex (off d g H) (off d g H')) : Evl.Ex (fr d g H) (fr d g H') := fun a o h => by
  have z := off_some h
  have y := nt_some z.2.2
  have w := off_some (x a o (off_of y.1 z.1 z.2.1))
  exact off_of (nt_of w.2.2 y.2) z.1 z.2.1
theorem fr_nt {d g : Addr} {H H' : Hp} (x : Evl.Ex (nt H) (nt H')) : Evl.Ex (fr d g H) (fr d g H') := off_ex x
theorem fr_ex {d g : Addr} {H H' : Hp} (x : Evl.Ex H H') : Evl.Ex (fr d g H) (fr d g H') := fr_nt (nt_ex x)
theorem ex_fr (d g : Addr) (H : Hp) : Evl.Ex (fr d g H) H := (ex_off d g (nt H)).trans (ex_nt H)
theorem fr_of {d g : Addr} {H : Hp} {a : Addr} {o : HO} (h : off d g H a = some o) (n : ∀ ps, o ≠ .tbl ps) : fr d g H a = some o := by
  have z := off_some h
  exact off_of (nt_of z.2.2 n) z.1 z.2.1
theorem nt_mut2 {H H3 : Hp} {D : Addr} {xs : List V} (x : Evl.Ex (nt H) (nt H3)) (hD : nt H D = none) : Evl.Ex (nt H) (nt (upd H3 D (.lst xs))) := fun p' o' h' => by
  have h1 := x _ _ h'
  have np : p' ≠ D := fun z => by rw [z, hD] at h'; cases h'
  exact nt_of (by rw [upd_ne np]; exact (nt_some h1).1) (nt_some h1).2
theorem rest_fr {d g c : Addr} {H H' : Hp} (D : DrawAt H d g c) : Evl.Ex (nt (rest H H')) (Rw.fr d g H') := fun a u ha => by
  have y := nt_some ha
  have z : H a = none ∧ H' a = some u := by
    have e := y.1
    unfold rest at e
    cases q : H a with
    | none => rw [q] at e; exact ⟨rfl, e⟩
    | some w => rw [q] at e; cases e
  have ne := D.ned z.1
  exact fr_of (off_of z.2 ne.1 ne.2.1) y.2
theorem BadAt.nt {H : Hp} {b : Addr} {f : List Str → List Str} {Ps : List (List Str)} (h : BadAt H b f Ps) : BadAt (Rw.nt H) b f Ps := by
  obtain ⟨T, h1, h2, h3⟩ := h
  exact ⟨T, nt_of h1 (fun _ z => by cases z), h2, fun t ht => nt_lst (h3 t ht)⟩
end Rw
end T_BQ

section T_KWA
set_option Elab.async false
set_option linter.all false
set_option maxRecDepth 100000
set_option maxHeartbeats 4000000
namespace Rw
open PySem L2 PyProof.Rows
/-! ### calls by names alone -/
/-- f(k = v, ..), all by names: gV puts the values in the parameters' order -/
structure KwAll (K : PySem.W.Frag) (fd : FuncData) (ps ks : List Str) (g : List Value → List Value) (gV : List V → List V) : Prop where
  to : ∀ (s : Shared) (ws : List Value), K.In s.heap → (g ws).length = ps.length → BindsTo s fd ⟨[], ks.zip ws⟩ (ps.zip (g ws))
  rel : ∀ {zs : List V} {ws : List Value}, Vals zs ws → Vals (gV zs) (g ws)
def tCallA (sp : Sp) (gV : List V → List V) (E : XK) (tk : TA) : TE := fun σ H Q => tk σ H fun zs H1 => sp (gV zs) H1 Q E
theorem Vals.rev {zs : List V} {ws : List Value} (r : Vals zs ws) : Vals zs.reverse ws.reverse := by
  induction r with
  | nil => exact .nil
  | cons h _ ih =>
    rw [List.reverse_cons, List.reverse_cons]
    exact ih.append (.cons h .nil)
section
variable {X : Cx} {CX : CXT} {k : Nat} {f : Addr} {fd : FuncData} {ps ks : List Str} {sp : Sp} {E : XK} {x : Str} {p pos : Pos} {kws : List Keyword} {tk : TA} {g : List Value → List Value} {gV : List V → List V}
theorem pe_callA (F : FnOk X.prog X.w X.K X.mg X.base CX k f fd ps sp) (room : Room k X.A) (glob : Gl X x) (at_x : X.mg x = some (.ref f)) (kept : PySem.W.keepIn X.K (.ref f) = true) (bind : KwAll X.K fd ps ks g gV) (pass : Passes CX X E) (named : PK X kws tk)
    (hall : (backToKw pos (keywordEach kws X.env)).all (·.1.isSome) = true := by rfl) (hks : (backToKw pos (keywordEach kws X.env)).filterMap (·.1) = ks := by rfl) (nodebug : (x == ("__debug__" : Str)) = false := by decide)
    (plain : ((backTo pos (starEach [] X.env)).any (·.1) || (backToKw pos (keywordEach kws X.env)).any (·.1.isNone)) = false := by rfl) :
    PE X (.Call (.Name x p) [] kws pos) (tCallA sp gV E tk) := by
  constructor
  intro pins s σ H Q I reading
  refine wpAny_Call_Name_kw (ld_glob I glob at_x ?_ nodebug)
  refine PySem.W.callWith_KW0 (h₀ := X.base) I.ok.mod.kin kept hall ?_ plain
  refine thn (named.run pos pins s σ H _ I reading) ?_
  rintro ws s2 ⟨zs, H2, I2, rel, prom⟩
  refine ⟨I2.kIn, ?_⟩
  rw [hks]
  have rel2 := bind.rel rel
  have n_of : (g ws).length = ps.length := rel2.length.symm.trans (F.len _ _ _ _ prom)
  have ran := F.run X.A X.stack s2 H2 ⟨[], ks.zip ws⟩ (g ws) (gV zs) Q E room I2.env0 (bind.to s2 ws I2.kIn n_of) rel2 prom
  refine wpAny_call (codeAny_mono ran fun out s3 got => ?_)
  match out, got with
  | .error e, got => exact pass pins σ H2 s2 e s3 I2 got
  | .ok (.ret u), got => exact I2.after got
  | .ok .next, got => exact got.elim
  | .ok .brk, got => exact got.elim
  | .ok .cont, got => exact got.elim
end
end Rw
end T_KWA

section T_NOF
set_option Elab.async false
set_option linter.all false
set_option maxRecDepth 100000
set_option maxHeartbeats 8000000
namespace Rw
open PySem L2 PyProof.Rows
theorem dkv_no (g c : Addr) (r t : Int) {tb : List (Str × V)} (h : ∀ q ∈ tb, q.2 ≠ .int r) : dkv g c r t ≠ tkv tb := fun e => by
  have m : ((.inr "rest" : Key), V.int r) ∈ dkv g c r t := List.mem_cons_of_mem _ List.mem_cons_self
  rw [e] at m
  unfold tkv at m
  obtain ⟨q, hq, eq⟩ := List.mem_map.mp m
  exact h q hq (Prod.mk.inj eq).2
/-- a net stands apart from the draws -/
theorem net_off {C : Addr} {H : Hp} {m d g c : Addr} {ends dots ss ps : List Str} {o n : Str → List (Str × V)} (h : NetAt C H m ends dots ss ps o n) (D : DrawAt H d g c) (e2 : ends.length ≤ 2) : NetAt C (off d g H) m ends dots ss ps o n := by
  obtain ⟨dx, T, N, S, P, rows, h1, h2, h3, h4, h5, h6, h7⟩ := h
  obtain ⟨⟨r, t, hd⟩, ⟨gs, hg⟩, _, _⟩ := D
  have any : ∀ {a : Addr} {u : HO}, H a = some u → (∀ l, u ≠ .lst l) → (∀ l, u ≠ .dK l) → off d g H a = some u := fun {a u} e n1 n2 => off_of e (fun q => by rw [q, hd] at e; exact n2 _ (Option.some.inj e).symm) (fun q => by rw [q, hg] at e; exact n1 _ (Option.some.inj e).symm)
  have dic : ∀ {a : Addr} {tb : List (Str × V)}, H a = some (.dK (tkv tb)) → (dkv g c r t ≠ tkv tb) → off d g H a = some (.dK (tkv tb)) := fun {a tb} e no => off_of e (fun q => by rw [q, hd] at e; exact no (HO.dK.inj (Option.some.inj e))) (fun q => by rw [q, hg] at e; cases (Option.some.inj e))
  refine ⟨dx, T, N, S, P, rows, any h1 (fun _ z => by cases z) (fun _ z => by cases z), dic h2 (fun e => ?_), any h3 (fun _ z => by cases z) (fun _ z => by cases z), any h4 (fun _ z => by cases z) (fun _ z => by cases z), any h5 (fun _ z => by cases z) (fun _ z => by cases z), h6, fun e he => ?_⟩
  · have l := congrArg List.length e
    rw [tkv_len] at l
    have l4 : (dkv g c r t).length = 4 := rfl
    have l2 := congrArg List.length h6
    rw [List.length_map] at l2
    omega
  · obtain ⟨p, po, pn, q1, pa⟩ := h7 e he
    have tab : ∀ {tb : List (Str × V)}, TabOk dots e tb → dkv g c r t ≠ tkv tb := fun {tb} ok => dkv_no g c r t fun q hq z => by
      have := ok.ps q hq
      rw [z] at this
      rcases this with w | w | ⟨_, _, _, w⟩ <;> cases w
    exact ⟨p, po, pn, q1, any pa.hp (fun _ z => by cases z) (fun _ z => by cases z), dic pa.ho (tab pa.o1), dic pa.hn (tab pa.o2), pa.o1, pa.o2⟩
end Rw
end T_NOF

section T_LX
set_option Elab.async false
set_option linter.all false
set_option maxRecDepth 100000
set_option maxHeartbeats 32000000
namespace Rw
open PySem L2 PyProof.Rows LamX
theorem dT_fr {d g c a : Addr} {H : Hp} {ks : List (List Key × V)} (D : DrawAt H d g c) (h : H a = some (.dT ks)) : fr d g H a = some (.dT ks) := by
  obtain ⟨r, t, hd⟩ := D.ex
  obtain ⟨gs, hg⟩ := D.gl
  exact fr_of (off_of h (ne_of h hd (by intro z; cases z)) (ne_of h hg (by intro z; cases z))) fun _ z => by cases z
theorem ntOff {d g : Addr} {H : Hp} : Evl.Ex (nt (off d g H)) (fr d g H) := fun a o h => fr_of (nt_some h).1 (nt_some h).2
theorem rows_nt {H : Hp} {ends dots : List Str} {rows : List (Str × V)} {o n : Str → List (Str × V)} (h : RowsAt H ends dots rows o n) : RowsAt (nt H) ends dots rows o n := fun e he => by
  obtain ⟨p, po, pn, hv, pa⟩ := h e he
  exact ⟨p, po, pn, hv, nt_tup pa.hp, nt_dK pa.ho, nt_dK pa.hn, pa.o1, pa.o2⟩
theorem model_nt {H : Hp} {m tb db sb pb : Addr} {ends dots ss ps : List Str} {rows : List (Str × V)} {o n : Str → List (Str × V)} (h : ModelAt H m tb db sb pb ends dots ss ps rows) (r : RowsAt H ends dots rows o n) : ModelAt (nt H) m tb db sb pb ends dots ss ps rows :=
  ⟨nt_dK h.hm, nt_dK h.ht, nt_lst h.hd, nt_lst h.hs, nt_lst h.hp, h.rk, (rows_nt r).ok h.rk h.ok.en, h.ok⟩
theorem fr_mutS {d g sz : Addr} {H5 H3 : Hp} {o : HO} (x : Evl.Ex (fr d g H5) (fr d g H3)) (hs : fr d g H5 sz = none) : Evl.Ex (fr d g H5) (fr d g (upd H3 sz o)) := fun a u h => by
  have ne : a ≠ sz := fun z => by rw [z, hs] at h; cases h
  have w := off_some (x _ _ h)
  have w2 := nt_some w.2.2
  exact fr_of (off_of (by rw [upd_ne ne]; exact w2.1) w.1 w.2.1) w2.2
theorem fr_off {d g : Addr} {H : Hp} : Evl.Ex (fr d g H) (off d g H) := off_ex (ex_nt H)
/-- what stays while a net's costs are judged -/
structure TurnC (Hf : Hp) (m tb db sb pb D : Addr) (ends dots ss ps : List Str) (rows : List (Str × V)) (o n : Str → List (Str × V)) : Prop where
  MA : ModelAt Hf m tb db sb pb ends dots ss ps rows
  ra : RowsAt Hf ends dots rows o n
  hD : Hf D = some (.dT (kF (costF ends dots ss ps o n) lotsW))
theorem TurnC.to {Hf Hg : Hp} {m tb db sb pb D : Addr} {ends dots ss ps : List Str} {rows : List (Str × V)} {o n : Str → List (Str × V)} (h : TurnC Hf m tb db sb pb D ends dots ss ps rows o n) (x' : Evl.Ex Hf Hg) : TurnC Hg m tb db sb pb D ends dots ss ps rows o n := ⟨h.MA.ex x', h.ra.ex x', x' _ _ h.hD⟩
theorem TurnC.tok {Hf : Hp} {m tb db sb pb D : Addr} {ends dots ss ps : List Str} {rows : List (Str × V)} {o n : Str → List (Str × V)} (h : TurnC Hf m tb db sb pb D ends dots ss ps rows o n) : TabsOk ends dots o n :=
  ⟨fun e he => by obtain ⟨_, _, _, _, pa⟩ := h.ra e he; exact pa.o1, fun e he => by obtain ⟨_, _, _, _, pa⟩ := h.ra e he; exact pa.o2⟩
structure TurnR (C : Addr) (Hf : Hp) (m tb db sb pb D x wl ml : Addr) (ends dots ss ps : List Str) (rows : List (Str × V)) (o n : Str → List (Str × V)) (ws us : List Str) : Prop where
  S : TurnC Hf m tb db sb pb D ends dots ss ps rows o n
  N : NetAt C Hf x ends dots ss ps o n
  hw : Hf wl = some (.lst (ws.map V.str))
  hu : Hf ml = some (.lst (us.map V.str))
theorem TurnR.to {C : Addr} {Hf Hg : Hp} {m tb db sb pb D x wl ml : Addr} {ends dots ss ps : List Str} {rows : List (Str × V)} {o n : Str → List (Str × V)} {ws us : List Str} (h : TurnR C Hf m tb db sb pb D x wl ml ends dots ss ps rows o n ws us) (x' : Evl.Ex Hf Hg) : TurnR C Hg m tb db sb pb D x wl ml ends dots ss ps rows o n ws us := ⟨h.S.to x', h.N.to x', x' _ _ h.hw, x' _ _ h.hu⟩
theorem js_lot {ws js : List Str} (nd : ws.Nodup) (wi : ∀ x ∈ ws, x ∈ wishesL) (p : js.Perm ws) (so : sortedS js = true) : js ∈ lotsW := by
  refine lotsW_mem.mpr ?_
  have e : js = wishesL.filter fun z => decide (z ∈ ws) := by
    refine sorted_uniq so (sorted_sub List.filter_sublist wishes4_sorted) ((List.perm_ext_iff_of_nodup (p.nodup_iff.mpr nd) (wishes_nd.sublist List.filter_sublist)).mpr fun z => ?_)
    rw [List.mem_filter, decide_eq_true_iff]
    exact ⟨fun h => ⟨wi z (p.subset h), p.subset h⟩, fun h => p.symm.subset h.2⟩
  rw [e]
  exact List.filter_sublist
theorem numOk_i {v : V} (h : NumOk v) : v = .non ∨ ∃ i : Int, v = .int i ∧ i.natAbs ≤ 100 := by
  rcases h with h | ⟨k, h, k6⟩
  · exact .inl h
  · exact .inr ⟨_, h, by omega⟩
theorem sub_ok {a b : Option Nat} (ha : NumOk (numV a)) (hb : NumOk (numV b)) : subV a b = .non ∨ ∃ i : Int, subV a b = .int i ∧ i.natAbs ≤ 100 := by
  cases a with
  | none => exact .inl rfl
  | some a =>
    cases b with
    | none => exact .inl rfl
    | some b =>
      rcases ha with h | ⟨k, h, k6⟩
      · cases h
      · cases h
        rcases hb with h | ⟨k', h, k6'⟩
        · cases h
        · cases h
          exact .inr ⟨_, rfl, by omega⟩
section
variable {P : Program} {w : World} {K : PySem.W.Frag} {mg : Str → Option Value} {base : Heap}
def spRightC (T : List (Addr × Str)) : Sp := fun vs H Q _ => ∃ (d g c m tb db sb pb D : Addr) (ends dots ss ps : List Str) (rows : List (Str × V)) (o n : Str → List (Str × V)), vs = [.ref d, .ref m, .ref D] ∧ DrawAt H d g c ∧ TurnC (fr d g H) m tb db sb pb D ends dots ss ps rows o n ∧ Tabs T H ∧
  ∀ H', DrawAt H' d g c → Evl.Ex (fr d g H) (fr d g H') → Tabs T H' → Q (.bl true) H'
abbrev nRight : List Str := ["draw", "model", "due", "net_here", "wants", "more", "first", "second", "found", "less"]
theorem sc_rightC : FnScope nRight ["draw", "model", "due"] (defScope s_right) := ⟨rfl, rfl, rfl, by decide +kernel, rfl, by decide +kernel, by decide +kernel⟩
theorem ok_rightC {f C fC fS fO : Addr} {fd fdC fdS fdO : FuncData} {T : List (Addr × Str)} (F : Fun K "_law_right" "_law_right" s_right f fd)
    (CNt : Cal P w K mg base 6 "_law_net" ["model"] (spNet C)) (CWa : Cal P w K mg base 4 "_law_wants" ["draw"] spWants)
    (OC : FnOk P w K mg base CX0 8 fC fdC ["net"] (spCosts T C)) (kC : PySem.W.keepIn K (.ref fC) = true) (bC : Binds K fdC ["net"] []) (gC : mg "costs" = some (.ref fC)) (aC : KwAll K fdC ["net"] ["net"] List.reverse List.reverse)
    (OO : FnOk P w K mg base CX0 8 fO fdO ["net", "wishes"] (spCost (K := K) T C)) (kO : PySem.W.keepIn K (.ref fO) = true) (bO : Binds K fdO ["net", "wishes"] []) (gO : mg "cost" = some (.ref fO)) (aO : KwAll K fdO ["net", "wishes"] ["wishes", "net"] List.reverse List.reverse)
    (OS : FnOk P w K mg base CX0 9 fS fdS ["net", "wishes", "other"] (spSaved (K := K) T C)) (kS : PySem.W.keepIn K (.ref fS) = true) (bS : Binds K fdS ["net", "wishes", "other"] []) (gS : mg "saved" = some (.ref fS)) (aS : KwAll K fdS ["net", "wishes", "other"] ["other", "wishes", "net"] List.reverse List.reverse)
    (mTup : mg "tuple" = none) (mSorted : mg "sorted" = none) (mRepr : mg "repr" = none) : FnG P w K mg base CX0 10 f fd ["draw", "model", "due"] (spRightC T) := by
  obtain ⟨fN, fdN, NT, kN, bN, gN⟩ := CNt.ex
  obtain ⟨fW, fdW, WA, kW, bW, gW⟩ := CWa.ex
  refine Rw.Fun.okG F sc_rightC (fun vs H Q E h => ?_) (fun cdv A outer s H vs Q E guard hr h => ?_)
  · obtain ⟨d, g, c, m, tb, db, sb, pb, D, ends, dots, ss, ps, rows, o, n, rfl, _⟩ := h
    rfl
  · obtain ⟨d, g, c, m, tb, db, sb, pb, D, ends, dots, ss, ps, rows, o, n, rfl, D0, S0, T0, k⟩ := h
    have nd := sc_rightC.nd
    have hu := hu_of hr
    have r4 : Room 4 _ := hr.mono (by decide)
    have r6 : Room 6 _ := hr.mono (by decide)
    have r8 : Room 8 _ := hr.mono (by decide)
    have r9 : Room 9 _ := hr.mono (by decide)
    have un70 := hr.un
    have hrep : (A.deeper (envOfC "_law_right" (defScope s_right) s.heap.objs.size f cdv)).units + 70 < cLine := by omega
    refine ⟨_, PSs.nox (C8.pss_cut (ps_par3 (i := 3) (j := 4) (l := 5) (by rfl) nd rfl rfl rfl (by decide) (by decide) (by decide) rfl rfl rfl (pa_cons (pe_call NT r6 rfl gN kN bN .nil pass0 (pa_cons (pv 1) pa_nil)) (pa_cons (pe_call WA r4 rfl gW kW bW .nil pass0 (pa_cons (pv 0) pa_nil)) (pa_cons (pe_call WA r4 rfl gW kW bW .nil pass0 (pa_cons (pv 0) pa_nil)) pa_nil))) (by rfl))
      (C8.pss_cut (ps_par (i := 6) (j := 7) (by rfl) nd rfl rfl (by decide) rfl rfl (pa_cons (pe_dget hu (pv 2) (pe_callTy call_tuple_of (by rfl) mTup (by decide +kernel) (pa_cons (pe_callB cr_sortedLU (by rfl) mSorted (by decide +kernel) (pa_cons (pv 4) pa_nil)) pa_nil)) (fun _ _ => rfl)) (pa_cons (pe_dget hu (pv 2) (pe_callTy call_tuple_of (by rfl) mTup (by decide +kernel) (pa_cons (pe_callB cr_sortedLU (by rfl) mSorted (by decide +kernel) (pa_cons (pv 5) pa_nil)) pa_nil)) (fun _ _ => rfl)) pa_nil)) (by rfl))
      (pss_cons (ps_set (i := 8) nd rfl (.inl rfl) (pe_call OC r8 rfl gC kC bC .nil pass0 (pa_cons (pv 3) pa_nil)))
      (C8.pss_cut (ps_if (PW.pt (pw_or (pt_cmpR op_ne (pe_callB (call_reprT guard hrep) (by rfl) mRepr (by decide +kernel) (pa_cons (pv 8) pa_nil)) (pe_callB (call_reprT guard hrep) (by rfl) mRepr (by decide +kernel) (pa_cons (pv 2) pa_nil)) (nomark _))
          (pw_or1 (pt_cmpR op_ne (pe_callB call_reprI (by rfl) mRepr (by decide +kernel) (pa_cons (pe_call OO r8 rfl gO kO bO .nil pass0 (pa_cons (pv 3) (pa_cons (pv 4) pa_nil))) pa_nil)) (pe_callB call_reprI (by rfl) mRepr (by decide +kernel) (pa_cons (pv 6) pa_nil)) (nomark _))))) (pss_one (ps_ret pe_bl)) pss_nil)
      (C8.pss_cut (ps_expr (pe_dclearT (pv 8)))
      (C8.pss_cut (ps_set (i := 9) nd rfl (.inl rfl) (pe_ifExp (PW.pt (pw_or (pt_cmpR op_isN (pv 6) pe_non (nomark _)) (pw_or1 (pt_cmpR op_isN (pv 7) pe_non (nomark _))))) pe_non (pe_op op_sub (pv 6) (pv 7))))
      (C8.pss_cut (ps_if (pt_cmpR op_ne (pe_callB call_reprI (by rfl) mRepr (by decide +kernel) (pa_cons (pe_call OS r9 rfl gS kS bS .nil pass0 (pa_cons (pv 3) (pa_cons (pv 4) (pa_cons (pe_callTy call_tuple_of (by rfl) mTup (by decide +kernel) (pa_cons (pv 5) pa_nil)) pa_nil)))) pa_nil)) (pe_callB call_reprI (by rfl) mRepr (by decide +kernel) (pa_cons (pv 9) pa_nil)) (nomark _)) (pss_one (ps_ret pe_bl)) pss_nil)
      (C8.pss_cut (ps_if (pt_cmpR op_ne (pe_callB call_reprI (by rfl) mRepr (by decide +kernel) (pa_cons (pe_callA OS r9 rfl gS kS aS pass0 (pk_cons (pv 5) (pk_cons (pe_callTy call_tuple_of (by rfl) mTup (by decide +kernel) (pa_cons (pv 4) pa_nil)) (pk_cons (pe_call NT r6 rfl gN kN bN .nil pass0 (pa_cons (pv 1) pa_nil)) pk_nil)))) pa_nil)) (pe_callB call_reprI (by rfl) mRepr (by decide +kernel) (pa_cons (pv 9) pa_nil)) (nomark _)) (pss_one (ps_ret pe_bl)) pss_nil)
      (pss_one (ps_ret (pe_and (pe_cmpR op_eq (pe_callB (call_reprT guard hrep) (by rfl) mRepr (by decide +kernel) (pa_cons (pe_callA OC r8 rfl gC kC aC pass0 (pk_cons (pv 3) pk_nil)) pa_nil)) (pe_callB (call_reprT guard hrep) (by rfl) mRepr (by decide +kernel) (pa_cons (pv 2) pa_nil)) (nomark _))
        (pe_one (pe_cmpR op_eq (pe_callB call_reprI (by rfl) mRepr (by decide +kernel) (pa_cons (pe_callA OO r8 rfl gO kO aO pass0 (pk_cons (pe_callTy call_tuple_of (by rfl) mTup (by decide +kernel) (pa_cons (pv 5) pa_nil)) (pk_cons (pv 3) pk_nil))) pa_nil)) (pe_callB call_reprI (by rfl) mRepr (by decide +kernel) (pa_cons (pv 7) pa_nil)) (nomark _)))))))))))))), ?_⟩
    have ok := S0.MA.ok
    have tok := S0.tok
    have exf := ex_fr d g
    have cf : ∀ t, NumOk (costF ends dots ss ps o n t) := fun t => costF_ok ok o n t
    obtain ⟨sh1, sh2, sh3⟩ := kF_shown cf
    have nums : ∀ p ∈ kF (costF ends dots ss ps o n) lotsW, p.2 = .non ∨ ∃ i, p.2 = .int i := kF_nums cf
    -- net_here, wants, more
    refine ⟨fun σ' H' => ∃ (x wl ml : Addr) (ws us : List Str), σ' = [some (.ref d), some (.ref m), some (.ref D), some (.ref x), some (.ref wl), some (.ref ml), none, none, none, none] ∧ DrawAt H' d g c ∧ Tabs T H' ∧ Evl.Ex (fr d g H) (fr d g H') ∧ TurnR C (fr d g H') m tb db sb pb D x wl ml ends dots ss ps rows o n ws us ∧ ws.Nodup ∧ (∀ z ∈ ws, z ∈ wishesL) ∧ us.Nodup ∧ ∀ z ∈ us, z ∈ wishesL, ?_, ?_⟩
    · refine ⟨.ref m, rfl, m, tb, db, sb, pb, ends, dots, ss, ps, rows, o, n, rfl, S0.MA.ex (exf H), S0.ra.ex (exf H), fun x H1 x1 hx N1 => ?_⟩
      have D1 := D0.ext x1
      have T1 := T0.ext x1
      have v1 : Evl.Ex (fr d g H) (fr d g H1) := fr_ex x1
      have N1' : NetAt C (fr d g H1) x ends dots ss ps o n := N1.nt.to (rest_fr D0)
      refine ⟨.ref d, rfl, d, g, c, rfl, D1, fun wl ws H2 wn wi D2 y2 hwl => ?_⟩
      have T2 := Rw.Tabs.draw T1 D1 y2
      refine ⟨.ref d, rfl, d, g, c, rfl, D2, fun ml us H3 un ui D3 y3 hml => ⟨_, _, _, rfl, ?_⟩⟩
      have v3 : Evl.Ex (fr d g H2) (fr d g H3) := fr_draw y3
      have v13 := (fr_draw y2).trans v3
      have w2 : fr d g H2 wl = some (.lst (ws.map V.str)) := fr_of hwl fun _ z => by cases z
      exact ⟨x, wl, ml, ws, us, rfl, D3, Rw.Tabs.draw T2 D2 y3, v1.trans v13, ⟨S0.to (v1.trans v13), N1'.to v13, v3 _ _ w2, fr_of hml fun _ z => by cases z⟩, wn, wi, un, ui⟩
    rintro _ H1 ⟨x, wl, ml, ws, us, rfl, D1, T1, v1, R1, wn, wi, un, ui⟩
    have w4 : ws.length ≤ 4 := nodup_le ws wishesL wn wi
    have u4 : us.length ≤ 4 := nodup_le us wishesL un ui
    -- first, second
    refine ⟨fun σ' H' => σ' = [some (.ref d), some (.ref m), some (.ref D), some (.ref x), some (.ref wl), some (.ref ml), some (costF ends dots ss ps o n ws), some (costF ends dots ss ps o n us), none, none] ∧ DrawAt H' d g c ∧ Tabs T H' ∧ Evl.Ex (fr d g H1) (fr d g H'), ?_, ?_⟩
    · have one : ∀ {Ha : Hp} {a : Addr} {zs js : List Str} {tp : Addr} {H9 : Hp}, zs.Nodup → (∀ z ∈ zs, z ∈ wishesL) → js.Perm zs → sortedS js = true → H9 D = some (.dT (kF (costF ends dots ss ps o n) lotsW)) → H9 tp = some (.tup (js.map V.str)) → DGet H9 D (.ref tp) (some (costF ends dots ss ps o n zs)) := fun {Ha a zs js tp H9} zn zi jp jso hD ht => by
        refine .inr ⟨kF (costF ends dots ss ps o n) lotsW, js.map Sum.inr, tp, .inl hD, rfl, by rw [keyS]; exact ht, ?_⟩
        rw [kF_get (js_lot zn zi jp jso)]
        unfold costF
        rw [brk_perm jp]
      have RX := R1.to (exf H1)
      refine ⟨.ref D, rfl, .ref wl, rfl, wl, ws, rfl, .inl (Evl.sq_of RX.hw), by omega, fun js p1 jp jso hp1 => ?_⟩
      have y2 : Evl.Ex H1 (upd H1 p1 (.lst (js.map V.str))) := Evl.Ex.new hp1
      have q2 : (upd H1 p1 (.lst (js.map V.str))) p1 = some (.lst (js.map V.str)) := upd_same
      generalize upd H1 p1 (.lst (js.map V.str)) = H2 at y2 q2
      refine ⟨p1, _, rfl, .inl ⟨Evl.sq_of q2, fun tp htp => ?_⟩⟩
      have y3 : Evl.Ex H2 (upd H2 tp (.tup (js.map V.str))) := Evl.Ex.new htp
      have q3 : (upd H2 tp (.tup (js.map V.str))) tp = some (.tup (js.map V.str)) := upd_same
      generalize upd H2 tp (.tup (js.map V.str)) = H3 at y3 q3
      have x13 := y2.trans y3
      refine ⟨D, _, rfl, one (Ha := H3) (a := 0) wn wi jp jso (x13 _ _ RX.S.hD) q3, ?_⟩
      refine ⟨.ref D, rfl, .ref ml, rfl, ml, us, rfl, .inl (Evl.sq_of (x13 _ _ RX.hu)), by omega, fun is p2 ip iso hp2 => ?_⟩
      have y4 : Evl.Ex H3 (upd H3 p2 (.lst (is.map V.str))) := Evl.Ex.new hp2
      have q4 : (upd H3 p2 (.lst (is.map V.str))) p2 = some (.lst (is.map V.str)) := upd_same
      generalize upd H3 p2 (.lst (is.map V.str)) = H4 at y4 q4
      refine ⟨p2, _, rfl, .inl ⟨Evl.sq_of q4, fun tq htq => ?_⟩⟩
      have y5 : Evl.Ex H4 (upd H4 tq (.tup (is.map V.str))) := Evl.Ex.new htq
      have q5 : (upd H4 tq (.tup (is.map V.str))) tq = some (.tup (is.map V.str)) := upd_same
      generalize upd H4 tq (.tup (is.map V.str)) = H5 at y5 q5
      have x15 := x13.trans (y4.trans y5)
      exact ⟨D, _, rfl, one (Ha := H3) (a := 0) un ui ip iso (x15 _ _ RX.S.hD) q5, _, _, rfl, rfl, D1.ext x15, T1.ext x15, fr_ex x15⟩
    rintro _ H2 ⟨rfl, D2, T2, v2⟩
    have R2 := R1.to v2
    have RX := R2.to (exf H2)
    -- found
    refine ⟨.ref x, rfl, x, ends, dots, ss, ps, o, n, rfl, RX.N, ok, tok, T2, fun p H3 x3 T3 fp hp => ?_⟩
    have D3 := D2.ntTo x3
    have v3 : Evl.Ex (fr d g H2) (fr d g H3) := fr_nt x3
    -- shown alike
    obtain ⟨c1, hc1⟩ : ∃ c1, costO (safeS (brkOf ends dots ss ps o n ws) (moving ends dots o n)) (moving ends dots o n) = c1 := ⟨_, rfl⟩
    obtain ⟨c2, hc2⟩ : ∃ c2, costO (safeS (brkOf ends dots ss ps o n us) (moving ends dots o n)) (moving ends dots o n) = c2 := ⟨_, rfl⟩
    have e1 : costF ends dots ss ps o n ws = numV c1 := by rw [← hc1]; rfl
    have e2 : costF ends dots ss ps o n us = numV c2 := by rw [← hc2]; rfl
    have ok1 : NumOk (numV c1) := by rw [← e1]; exact cf ws
    have ok2 : NumOk (numV c2) := by rw [← e2]; exact cf us
    rw [e1, e2]
    refine ⟨fun σ' H' => σ' = [some (.ref d), some (.ref m), some (.ref D), some (.ref x), some (.ref wl), some (.ref ml), some (numV c1), some (numV c2), some (.ref p), none] ∧ DrawAt H' d g c ∧ Tabs T H' ∧ Evl.Ex (nt H3) (nt H'), ?_, ?_⟩
    · have R3 := (R2.to v3).to (exf H3)
      refine ⟨.ref p, rfl, p, _, rfl, hp, nums, sh1, sh2, sh3, .ref D, rfl, D, _, rfl, R3.S.hD, nums, sh1, sh2, sh3, rfl, false, by rw [decide_eq_true rfl]; rfl, iteF ?_⟩
      refine ⟨.ref x, rfl, .ref wl, rfl, x, wl, ws, ends, dots, ss, ps, o, n, rfl, R3.N, ok, tok, .inl (Evl.sq_of R3.hw), wn, wi, T3, fun H4 x4 T4 => ?_⟩
      rw [hc1]
      exact ⟨_, rfl, numOk_i ok1, _, rfl, _, rfl, numOk_i ok1, rfl, false, by rw [decide_eq_true rfl]; rfl, iteF ⟨rfl, D3.ntTo x4, T4, x4⟩⟩
    rintro _ H4 ⟨rfl, D4, T4, x4⟩
    have hp4 : H4 p = some (.dT (kF (costF ends dots ss ps o n) lotsW)) := (nt_some (x4 _ _ (nt_of hp fun _ z => by cases z))).1
    have v4 : Evl.Ex (fr d g H2) (fr d g H4) := v3.trans (fr_nt x4)
    -- clear
    refine ⟨fun σ' H' => σ' = [some (.ref d), some (.ref m), some (.ref D), some (.ref x), some (.ref wl), some (.ref ml), some (numV c1), some (numV c2), some (.ref p), none] ∧ DrawAt H' d g c ∧ Tabs T H' ∧ Evl.Ex (fr d g H2) (fr d g H'), ?_, ?_⟩
    · have nl := D2.nt.ned fp
      exact ⟨.ref p, rfl, .inr (.inr (.inl ⟨rfl, .inr ⟨_, hp4⟩⟩)), p, _, rfl, rfl, hp4, rfl, D4.mut nl.1 nl.2.1 nl.2.2, tabs_mutT T4 hp4, fr_mutS v4 (off_free fp)⟩
    rintro _ H5 ⟨rfl, D5, T5, v5⟩
    -- less
    refine ⟨fun σ' H' => σ' = [some (.ref d), some (.ref m), some (.ref D), some (.ref x), some (.ref wl), some (.ref ml), some (numV c1), some (numV c2), some (.ref p), some (subV c1 c2)] ∧ H5 = H', ?_, ?_⟩
    · cases c1 with
      | none => exact ⟨.non, rfl, rfl, true, rfl, iteT (iteT ⟨rfl, rfl⟩)⟩
      | some a =>
        cases c2 with
        | none => exact ⟨.int (a : Int), rfl, rfl, false, rfl, iteF ⟨.non, rfl, rfl, true, rfl, iteT ⟨rfl, rfl⟩⟩⟩
        | some b => exact ⟨.int (a : Int), rfl, rfl, false, rfl, iteF ⟨.int (b : Int), rfl, rfl, false, rfl, iteF ⟨.int (a : Int), rfl, .int (b : Int), rfl, _, _, rfl, rfl, rfl, rfl⟩⟩⟩
    rintro _ _ ⟨rfl, rfl⟩
    have sok := sub_ok ok1 ok2
    -- saved
    refine ⟨fun σ' H' => σ' = [some (.ref d), some (.ref m), some (.ref D), some (.ref x), some (.ref wl), some (.ref ml), some (numV c1), some (numV c2), some (.ref p), some (subV c1 c2)] ∧ DrawAt H' d g c ∧ Tabs T H' ∧ Evl.Ex (fr d g H2) (fr d g H'), ?_, ?_⟩
    · have R5 := (R2.to v5).to (exf H5)
      refine ⟨.ref x, rfl, .ref wl, rfl, .ref ml, rfl, ml, _, rfl, .inl ⟨Evl.sq_of R5.hu, fun tp htp => ?_⟩⟩
      have y6 : Evl.Ex H5 (upd H5 tp (.tup (us.map V.str))) := Evl.Ex.new htp
      have q6 : (upd H5 tp (.tup (us.map V.str))) tp = some (.tup (us.map V.str)) := upd_same
      generalize upd H5 tp (.tup (us.map V.str)) = H6 at y6 q6
      refine ⟨x, wl, tp, ws, us, ends, dots, ss, ps, o, n, rfl, R5.N.to y6, ok, tok, .inl (Evl.sq_of (y6 _ _ R5.hw)), wn, wi, .inr (Evl.st_of q6), un, ui, .inr q6, T5.ext y6, fun H7 x7 T7 => ?_⟩
      rw [hc1, hc2]
      exact ⟨_, rfl, sok, _, rfl, _, rfl, sok, rfl, false, by rw [decide_eq_true rfl]; rfl, iteF ⟨rfl, (D5.ext y6).ntTo x7, T7, v5.trans ((fr_ex y6).trans (fr_nt x7))⟩⟩
    rintro _ H6 ⟨rfl, D6, T6, v6⟩
    -- saved, by names, of an equal net
    refine ⟨fun σ' H' => σ' = [some (.ref d), some (.ref m), some (.ref D), some (.ref x), some (.ref wl), some (.ref ml), some (numV c1), some (numV c2), some (.ref p), some (subV c1 c2)] ∧ DrawAt H' d g c ∧ Tabs T H' ∧ Evl.Ex (fr d g H2) (fr d g H'), ?_, ?_⟩
    · have R6 := (R2.to v6).to (exf H6)
      refine ⟨.ref ml, rfl, .ref wl, rfl, wl, _, rfl, .inl ⟨Evl.sq_of R6.hw, fun tp htp => ?_⟩⟩
      have y7 : Evl.Ex H6 (upd H6 tp (.tup (ws.map V.str))) := Evl.Ex.new htp
      have q7 : (upd H6 tp (.tup (ws.map V.str))) tp = some (.tup (ws.map V.str)) := upd_same
      generalize upd H6 tp (.tup (ws.map V.str)) = H7 at y7 q7
      have R7 := R6.to y7
      refine ⟨.ref m, rfl, m, tb, db, sb, pb, ends, dots, ss, ps, rows, o, n, rfl, R7.S.MA, R7.S.ra, fun xn H8 x8 hxn N8 => ?_⟩
      have R8 := R7.to x8
      refine ⟨xn, tp, ml, ws, us, ends, dots, ss, ps, o, n, rfl, N8.to (rest_ex H7 H8), ok, tok, .inr (Evl.st_of (x8 _ _ q7)), wn, wi, .inl (Evl.sq_of R8.hu), un, ui, .inl R8.hu, (T6.ext y7).ext x8, fun H9 x9 T9 => ?_⟩
      rw [hc1, hc2]
      exact ⟨_, rfl, sok, _, rfl, _, rfl, sok, rfl, false, by rw [decide_eq_true rfl]; rfl, iteF ⟨rfl, ((D6.ext y7).ext x8).ntTo x9, T9, v6.trans ((fr_ex y7).trans ((fr_ex x8).trans (fr_nt x9)))⟩⟩
    rintro _ H7 ⟨rfl, D7, T7, v7⟩
    -- both once more, by names
    have R7 := (R2.to v7).to (exf H7)
    refine ⟨.ref x, rfl, x, ends, dots, ss, ps, o, n, rfl, R7.N, ok, tok, T7, fun p2 H8 x8 T8 fp2 hp2 => ?_⟩
    have v8 := v7.trans (fr_nt (d := d) (g := g) x8)
    have D8 := D7.ntTo x8
    have R8 := (R2.to v8).to (exf H8)
    refine ⟨p2, _, rfl, hp2, nums, sh1, sh2, sh3, .ref D, rfl, D, _, rfl, R8.S.hD, nums, sh1, sh2, sh3, rfl, true, by rw [decide_eq_true rfl], iteT ?_⟩
    refine ⟨.ref ml, rfl, ml, _, rfl, .inl ⟨Evl.sq_of R8.hu, fun tp htp => ?_⟩⟩
    have y9 : Evl.Ex H8 (upd H8 tp (.tup (us.map V.str))) := Evl.Ex.new htp
    have q9 : (upd H8 tp (.tup (us.map V.str))) tp = some (.tup (us.map V.str)) := upd_same
    generalize upd H8 tp (.tup (us.map V.str)) = H9 at y9 q9
    refine ⟨.ref x, rfl, x, tp, us, ends, dots, ss, ps, o, n, rfl, R8.N.to y9, ok, tok, .inr (Evl.st_of q9), un, ui, T8.ext y9, fun H10 x10 T10 => ?_⟩
    rw [hc2]
    refine ⟨_, rfl, numOk_i ok2, _, rfl, _, rfl, numOk_i ok2, rfl, ?_⟩
    rw [decide_eq_true rfl]
    exact k H10 ((D8.ext y9).ntTo x10) (v1.trans (v2.trans (v8.trans ((fr_ex y9).trans (fr_nt x10))))) T10
end
end Rw
end T_LX

section T_LW
set_option Elab.async false
set_option linter.all false
set_option maxRecDepth 100000
set_option maxHeartbeats 32000000
namespace Rw
open PySem L2 PyProof.Rows LamX
theorem mkv_putP (tb db sb pb pb2 : Addr) : putK (mkv tb db sb pb) (.inr "posts") (.ref pb2) = mkv tb db sb pb2 := by kernel_rfl
section
variable {P : Program} {w : World} {K : PySem.W.Frag} {mg : Str → Option Value} {base : Heap}
def spLaw (K : PySem.W.Frag) (T : List (Addr × Str)) : Sp := fun vs H Q _ => ∃ (a : Addr) (ns : List Int), vs = [.ref a] ∧ SqL K H a (ns.map V.int) ∧ ns.length ≤ 63 ∧ Tabs T H ∧ ∀ H', Q (.bl true) H'
abbrev nLaw : List Str := ["script", "draw", "turn", "model", "near", "due", "beside"]
theorem sc_law : FnScope nLaw ["script"] (defScope s_law) := ⟨rfl, rfl, rfl, by decide +kernel, rfl, by decide +kernel, by decide +kernel⟩
theorem ok_law {f fO : Addr} {fd fdO : FuncData} {T : List (Addr × Str)} (F : Fun K "law" "law" s_law f fd)
    (CB : Cal P w K mg base 1 "_law_begin" ["script"] (spBegin K)) (CMx : Cal P w K mg base 3 "_law_mixed" ["draw", "some"] (spMixed K)) (CMd : Cal P w K mg base 6 "_law_model" ["draw", "ends", "most"] spModel)
    (CAl : Cal P w K mg base 4 "_law_all_costs" ["model"] spAll)
    (OR_ : FnG P w K mg base CX0 10 fO fdO ["draw", "model", "due"] (spRightC T)) (kO : PySem.W.keepIn K (.ref fO) = true) (bO : Binds K fdO ["draw", "model", "due"] []) (gO : mg "_law_right" = some (.ref fO))
    (mRange : mg "range" = none) (mMin : mg "min" = none) (mLen : mg "len" = none) (mDict : mg "dict" = none) : FnG P w K mg base CX0 11 f fd ["script"] (spLaw K T) := by
  obtain ⟨fB, fdB, BG, kB, bB, gB⟩ := CB.ex
  obtain ⟨fX, fdX, MX, kX, bX, gX⟩ := CMx.ex
  obtain ⟨fM, fdM, MD, kM, bM, gM⟩ := CMd.ex
  obtain ⟨fA, fdA, AL, kA, bA, gA⟩ := CAl.ex
  refine Rw.Fun.okG F sc_law (fun vs H Q E h => ?_) (fun cdv A outer s H vs Q E guard hr h => ?_)
  · obtain ⟨a, ns, rfl, _⟩ := h
    rfl
  · obtain ⟨a, ns, rfl, hS, hl, hT, k⟩ := h
    have nd := sc_law.nd
    have hu := hu_of hr
    have r1 : Room 1 _ := hr.mono (by decide)
    have r3 : Room 3 _ := hr.mono (by decide)
    have r4 : Room 4 _ := hr.mono (by decide)
    have r6 : Room 6 _ := hr.mono (by decide)
    refine ⟨_, PSs.nox (pss_cons (ps_set (i := 1) nd rfl (.inl rfl) (pe_call BG r1 rfl gB kB bB .nil pass0 (pa_cons (pv 0) pa_nil)))
      (pss_cons (ps_for PassesOwn.never rfl (pi_range1 (by rfl) mRange (pa_cons (pe_op op_add pe_int (pe_callB (call_min2 rfl) (by rfl) mMin (by decide +kernel) (pa_cons (pe_callB call_len (by rfl) mLen PySem.boot_len (pa_cons (pv 0) pa_nil)) (pa_cons pe_int pa_nil)))) pa_nil)) (pg_name (i := 2) nd rfl (.inl rfl))
        (C8.pss_cut (ps_set (i := 3) nd rfl (.inl rfl) (pe_call MD r6 rfl gM kM bM .nil pass0 (pa_cons (pv 1) (pa_cons pe_int (pa_cons (pe_ifExp (pt_cmpR op_eq (pv 2) pe_int (nomark _)) pe_int pe_int) pa_nil)))))
        (pss_cons (ps_set (i := 4) nd rfl (.inl rfl) (pe_callTy call_dictD (by rfl) mDict (by decide +kernel) (pa_cons (pv 3) pa_nil)))
        (C8.pss_cut (ps_dput hu (pv 4) pe_str (pe_slice sl_list (pe_call MX r3 rfl gX kX bX .nil pass0 (pa_cons (pv 1) (pa_cons (pe_dget hu (pv 3) pe_str (fun _ _ => rfl)) pa_nil))) po_none (po_some pe_int)) rfl)
        (pss_cons (ps_par (i := 5) (j := 6) (by rfl) nd rfl rfl (by decide) rfl rfl (pa_cons (pe_call AL r4 rfl gA kA bA .nil pass0 (pa_cons (pv 3) pa_nil)) (pa_cons (pe_call AL r4 rfl gA kA bA .nil pass0 (pa_cons (pv 4) pa_nil)) pa_nil)) (by rfl))
        (pss_one (ps_if (PW.pt (pw_or (pt_not (pt_val (pe_callG guard OR_ hr rfl gO kO bO .nil pass0 (pa_cons (pv 1) (pa_cons (pv 3) (pa_cons (pv 5) pa_nil))))))
          (pw_or (pt_not (pt_val (pe_callG guard OR_ hr rfl gO kO bO .nil pass0 (pa_cons (pv 1) (pa_cons (pv 4) (pa_cons (pv 6) pa_nil))))))
          (pw_or1 (pt_not (pt_val (pe_callG guard OR_ hr rfl gO kO bO .nil pass0 (pa_cons (pv 1) (pa_cons (pv 3) (pa_cons (pv 5) pa_nil)))))))))) (pss_one (ps_ret pe_bl)) pss_nil)))))))
      (pss_one (ps_ret pe_bl)))), ?_⟩
    refine ⟨.ref a, rfl, a, ns, rfl, hS, hl, fun d g c H1 D1 x1 => ?_⟩
    have T1 : Tabs T H1 := hT.ext (x1.trans (ex_off d g H1))
    have hS1 := Evl.ex_l (x1.trans (ex_off d g H1)) hS
    refine ⟨.ref a, rfl, .ref a, _, rfl, .inl ⟨_, hS1, rfl⟩, _, 5, rfl, 2, _, rfl, rfl, ?_⟩
    obtain ⟨many, hmany⟩ : ∃ many : Int, many = 2 + (if (5 : Int) < ((ns.map V.int).length : Int) then 5 else ((ns.map V.int).length : Int)) := ⟨_, rfl⟩
    have bound : (0 : Int) ≤ many ∧ many ≤ 100 := by
      rw [hmany, List.length_map]
      split <;> omega
    refine ⟨many, by rw [hmany], by omega, by omega, for_range (lo := 0) (n := many.toNat)
      (fun i σ H' => ∃ x2 x3 x4 x5 x6 : Option V, σ = [some (.ref a), some (.ref d), x2, x3, x4, x5, x6] ∧ DrawAt H' d g c ∧ Tabs T H')
      ⟨none, none, none, none, none, rfl, D1, T1⟩ ?_ ?_⟩
    · rintro i σ H2 hi ⟨u2, u3, u4, u5, u6, rfl, D2, T2⟩
      have exf := ex_fr d g
      -- model
      refine ⟨fun σ' H' => ∃ (m tb db sb pb : Addr) (ends dots ss ps : List Str) (rows : List (Str × V)) (o n : Str → List (Str × V)), σ' = [some (.ref a), some (.ref d), some (.int (0 + (i : Int))), some (.ref m), u4, u5, u6] ∧ DrawAt H' d g c ∧ Tabs T H' ∧ ModelAt (off d g H') m tb db sb pb ends dots ss ps rows ∧ RowsAt (off d g H') ends dots rows o n, ?_, ?_⟩
      · refine ⟨.ref d, rfl, .int (0 + (i : Int)), rfl, rfl, _, rfl, ?_⟩
        by_cases ci : V.int (0 + (i : Int)) = V.int 0
        · rw [decide_eq_true ci]
          refine iteT ⟨d, g, c, 2, 5, rfl, D2, by decide, by decide, by decide, by decide, fun m tb db sb pb ends dots ss ps rows H3 D3 y3 MA => ?_⟩
          obtain ⟨o, n, ro⟩ := RowsAt.of MA.ro MA.rk
          exact ⟨m, tb, db, sb, pb, ends, dots, ss, ps, rows, o, n, rfl, D3, Rw.Tabs.draw T2 D2 y3, MA, ro⟩
        · rw [decide_eq_false ci]
          refine iteF ⟨d, g, c, 2, 4, rfl, D2, by decide, by decide, by decide, by decide, fun m tb db sb pb ends dots ss ps rows H3 D3 y3 MA => ?_⟩
          obtain ⟨o, n, ro⟩ := RowsAt.of MA.ro MA.rk
          exact ⟨m, tb, db, sb, pb, ends, dots, ss, ps, rows, o, n, rfl, D3, Rw.Tabs.draw T2 D2 y3, MA, ro⟩
      rintro _ H3 ⟨m, tb, db, sb, pb, ends, dots, ss, ps, rows, o, n, rfl, D3, T3, MA, ro⟩
      have ok := MA.ok
      have d6 := ok.d6
      -- near
      refine ⟨.ref m, rfl, m, _, rfl, .inl (off_some MA.hm).2.2, fun Fo hFo => ?_⟩
      obtain ⟨D4, X4, f4, nF, y4⟩ := off_new (o := .dK (mkv tb db sb pb)) D3 (Evl.Ex.refl _) hFo
      have T4 := Rw.Tabs.draw T3 D3 X4
      generalize upd H3 Fo (.dK (mkv tb db sb pb)) = H4 at D4 X4 f4 y4 T4
      refine ⟨fun σ' H' => ∃ (pl : Addr) (qs : List Str), σ' = [some (.ref a), some (.ref d), some (.int (0 + (i : Int))), some (.ref m), some (.ref Fo), u5, u6] ∧ DrawAt H' d g c ∧ Tabs T H' ∧ Evl.Ex (off d g H3) (off d g H') ∧ ModelAt (off d g H') Fo tb db sb pl ends dots ss qs rows, ?_, ?_⟩
      · refine ⟨.ref d, rfl, .ref m, rfl, m, .ref db, rfl, dgR (.inl (off_some (X4 _ _ MA.hm)).2.2) (mkv_dots tb db sb pb), d, g, c, db, dots.map V.str, rfl, D4, .inl (Evl.sq_of (X4 _ _ MA.hd)), by rw [List.length_map]; omega, fun v hv => ?_, fun ml ys H5 mperm D5 x5 _ hml => ?_⟩
        · obtain ⟨z, hz, rfl⟩ := List.mem_map.mp hv
          exact strV_data (nm_ok (ok.dm z hz))
        obtain ⟨vs, rfl, hvs⟩ := perm_strs mperm
        have X5 := X4.trans x5
        have f5 := x5 _ _ f4
        have T5 := Rw.Tabs.draw T4 D4 x5
        refine ⟨1, rfl, ml, _, rfl, Evl.sq_of (off_some hml).2.2, fun pl hpl => ?_⟩
        rw [show cutV (vs.map V.str) none (some (1 : Int)) = (vs.map V.str).take 1 from cut_take _ 1, ← List.map_take]
        obtain ⟨D6, X6, s6, _, y6⟩ := off_new (o := .lst ((vs.take 1).map V.str)) D5 X5 hpl
        have T6 := Rw.Tabs.draw T5 D5 y6
        have f6 := y6 _ _ f5
        have npl : pl ≠ Fo := fun z => by rw [z] at hpl; rw [(off_some f5).2.2] at hpl; cases hpl
        generalize upd H5 pl (.lst ((vs.take 1).map V.str)) = H6 at D6 X6 s6 y6 T6 f6
        refine ⟨.ref Fo, rfl, Fo, _, rfl, DPut.k (k := Sum.inr "posts") (off_some f6).2.2 (by show 4 < sizeLine; decide), ?_⟩
        rw [mkv_putP]
        obtain ⟨D7, X7, f7⟩ := off_put (o := .dK (mkv tb db sb pl)) D6 X6 nF f6 (draw_c D6 f6 (fun xs q => by cases q))
        have T7 : Tabs T (upd H6 Fo (.dK (mkv tb db sb pl))) := tabs_mutK2 T6 (off_some f6).2.2
        have s7 := off_up (o := .dK (mkv tb db sb pl)) s6 npl
        have ro7 := ro.ex X7
        refine ⟨pl, vs.take 1, rfl, D7, T7, X7, ⟨f7, X7 _ _ MA.ht, X7 _ _ MA.hd, X7 _ _ MA.hs, s7, MA.rk, MA.ro.ex X7, ?_⟩⟩
        have vnd : vs.Nodup := hvs.nodup_iff.mpr ok.dn
        exact { ok with pn := vnd.sublist (List.take_sublist _ _), p2 := by rw [List.length_take]; omega, pd := fun z hz => hvs.subset (List.mem_of_mem_take hz) }
      rintro _ H5 ⟨pl, qs, rfl, D5, T5, X5, MB⟩
      have MA5 := MA.ex X5
      have ro5 := ro.ex X5
      -- due, beside
      refine ⟨.ref m, rfl, m, tb, db, sb, pb, ends, dots, ss, ps, rows, o, n, rfl, MA5.ex (ex_off d g H5), ro5.ex (ex_off d g H5), fun p H6 x6 p0 hp => ?_⟩
      have D6 := D5.ext x6
      refine ⟨.ref Fo, rfl, Fo, tb, db, sb, pl, ends, dots, ss, qs, rows, o, n, rfl, (MB.ex (ex_off d g H5)).ex x6, (ro5.ex (ex_off d g H5)).ex x6, fun q H7 x7 q0 hq => ⟨_, _, rfl, ?_⟩⟩
      have D7 := D6.ext x7
      have T7 := (T5.ext x6).ext x7
      have v57 : Evl.Ex (fr d g H5) (fr d g H7) := (fr_ex x6).trans (fr_ex x7)
      have S1 : TurnC (fr d g H7) m tb db sb pb p ends dots ss ps rows o n := ⟨((model_nt MA5 ro5).ex ntOff).ex v57, ((rows_nt ro5).ex ntOff).ex v57, fr_ex x7 _ _ (dT_fr D6 hp)⟩
      have S2 : TurnC (fr d g H7) Fo tb db sb pl q ends dots ss qs rows o n := ⟨((model_nt MB ro5).ex ntOff).ex v57, ((rows_nt ro5).ex ntOff).ex v57, dT_fr D7 hq⟩
      -- not right
      refine ⟨.ref d, rfl, .ref m, rfl, .ref p, rfl, d, g, c, m, tb, db, sb, pb, p, ends, dots, ss, ps, rows, o, n, rfl, D7, S1, T7, fun H8 D8 v8 T8 => ⟨true, rfl, iteF ?_⟩⟩
      refine ⟨.ref d, rfl, .ref Fo, rfl, .ref q, rfl, d, g, c, Fo, tb, db, sb, pl, q, ends, dots, ss, qs, rows, o, n, rfl, D8, S2.to v8, T8, fun H9 D9 v9 T9 => ⟨true, rfl, iteF ?_⟩⟩
      exact ⟨.ref d, rfl, .ref m, rfl, .ref p, rfl, d, g, c, m, tb, db, sb, pb, p, ends, dots, ss, ps, rows, o, n, rfl, D9, S1.to (v8.trans v9), T9, fun H10 D10 v10 T10 => ⟨true, rfl, iteF ⟨_, _, _, _, _, rfl, D10, T10⟩⟩⟩
    · rintro σ H2 ⟨u2, u3, u4, u5, u6, rfl, D2, T2⟩
      exact k H2
end
end Rw
end T_LW

section T_B2
set_option Elab.async false
set_option linter.all false
set_option maxRecDepth 100000
set_option maxHeartbeats 4000000
namespace Rw
open PySem L2 PyProof.Rows
section
variable {P : Program} {w : World} {K : PySem.W.Frag} {mg : Str → Option Value} {base : Heap}
theorem sc_mixed : FnScope ["draw", "some", "left", "found"] ["draw", "some"] (defScope s_mixed) := ⟨rfl, rfl, rfl, by decide +kernel, rfl, by decide +kernel, by decide +kernel⟩
theorem ok_mixed {f fT : Addr} {fd fdT : FuncData} (F : Fun K "_law_mixed" "_law_mixed" s_mixed f fd) (T : FnOk P w K mg base CX0 2 fT fdT ["draw", "size"] spTake) (kT : PySem.W.keepIn K (.ref fT) = true) (bT : Binds K fdT ["draw", "size"] []) (gT : mg "_law_take" = some (.ref fT)) (mLen : mg "len" = none) (mList : mg "list" = none) :
    FnOk P w K mg base CX0 3 f fd ["draw", "some"] (spMixed K) := by
  refine F.ok sc_mixed (fun vs H Q E h => ?_) (fun cdv A outer s H vs Q E hr h => ?_)
  · obtain ⟨d, g, c, a, xs, rfl, _⟩ := h
    rfl
  · obtain ⟨d, g, c, a, xs, rfl, D, hS, hl, hdat, k⟩ := h
    have nd := sc_mixed.nd
    refine ⟨_, pss_cons (ps_par (i := 2) (j := 3) (by rfl) nd rfl rfl (by decide) rfl rfl (pa_cons (pe_callTy call_list_of (by rfl) mList (by decide +kernel) (pa_cons (pv 1) pa_nil)) (pa_cons (pe_lst pa_nil) pa_nil)) (by rfl))
      (pss_cons (ps_while PassesOwn.never (pt_cmpR (op_neD hr.units) (pv 2) (pe_lst pa_nil) (nomark _))
        (pss_one (ps_expr (pe_bm PySem.F.plainAttrs_list PySem.F.slot_list_append PySem.F.type_list_append mt_append (pv 3)
          (pa_cons (pe_bm PySem.F.plainAttrs_list PySem.F.slot_list_pop PySem.F.type_list_pop mt_popAt (pv 2) (pa_cons (pe_call T hr rfl gT kT bT .nil pass0 (pa_cons (pv 0) (pa_cons (pe_callB call_len (by rfl) mLen PySem.boot_len (pa_cons (pv 2) pa_nil)) pa_nil))) pa_nil)) pa_nil)))))
      (pss_one (ps_ret (pv 3)))), ?_⟩
    -- left, found = (list(some), [])
    refine ⟨.ref a, rfl, a, xs, rfl, hS.elim (fun z => .inl (Evl.ex_l (ex_off d g H) z)) (fun z => .inr (Evl.ex_t (ex_off d g H) z)), fun l hl0 => ⟨Nat.zero_le _, fun f hf => ⟨_, _, rfl, ?_⟩⟩⟩
    have hlf : f ≠ l := fun z => by rw [z, upd_same] at hf; cases hf
    have hf0 : H f = none := by rw [upd_ne hlf] at hf; exact hf
    have nl := D.ned hl0
    have nf := D.ned hf0
    have perm_erase : ∀ (ls : List V) (i : Nat) (v : V), ls[i]? = some v → (v :: ls.eraseIdx i).Perm ls := fun ls => by
      induction ls with
      | nil => intro i v h; simp at h
      | cons x r ih =>
        intro i v h
        cases i with
        | zero => simp at h; subst h; exact List.Perm.refl _
        | succ n =>
          have h' : r[n]? = some v := by simpa using h
          exact (List.Perm.swap x v _).trans ((ih n v h').cons x)
    refine while_by (fun σ H' => σ = [some (.ref d), some (.ref a), some (.ref l), some (.ref f)] ∧ ∃ ls fs : List V, H' l = some (.lst ls) ∧ H' f = some (.lst fs) ∧ (fs ++ ls).Perm xs ∧ DrawAt H' d g c ∧ Evl.Ex (off d g H) (off d g H'))
      (fun _ H' => match H' l with | some (.lst ls) => ls.length | _ => 0) ⟨rfl, xs, [], by rw [upd_ne hlf.symm]; exact upd_same, upd_same, List.Perm.refl _, (D.new hl0).new hf, (off_ex (Evl.Ex.new hl0)).trans (off_ex (Evl.Ex.new hf))⟩ ?_ ?_
    · rintro σ H1 ⟨rfl, ls, fs, el, ef, hp, D1, x1⟩
      have hlen : fs.length + ls.length = xs.length := by rw [← List.length_append]; exact hp.length_eq
      have hdl : ∀ v ∈ ls, DataV K H1 v := fun v hv => (hdat v (hp.subset (List.mem_append_right _ hv))).ex (x1.trans (ex_off d g H1))
      refine ⟨.ref l, rfl, Nat.zero_le _, fun p hp0 => ?_⟩
      have x2 : Evl.Ex H1 (upd H1 p (.lst [])) := Evl.Ex.new hp0
      have el2 : (upd H1 p (.lst [])) l = some (.lst ls) := x2 _ _ el
      have ef2 : (upd H1 p (.lst [])) f = some (.lst fs) := x2 _ _ ef
      have D2 : DrawAt (upd H1 p (.lst [])) d g c := D1.ext x2
      have x3 : Evl.Ex (off d g H) (off d g (upd H1 p (.lst []))) := x1.trans (off_ex x2)
      obtain ⟨dd, g1, g2, g3⟩ := data_list (Evl.sq_of el2) fun v hv => (hdl v hv).ex x2
      refine ⟨dd, .list [], g1, .lst (Evl.sq_of upd_same) .nil, g2, by rfl, _, rfl, ?_⟩
      rw [g3]
      generalize upd H1 p (.lst []) = H2 at el2 ef2 D2 x3
      cases ls with
      | nil =>
        have hp' : fs.Perm xs := by rw [List.append_nil] at hp; exact hp
        exact ⟨.ref f, rfl, k f fs H2 hp' D2 x3 hf0 (off_of ef2 nf.1 nf.2.1)⟩
      | cons y r =>
        refine iteT ?_
        refine ⟨.ref f, rfl, .inl ⟨rfl, _, Evl.sq_of ef2⟩, .ref l, rfl, .inl ⟨rfl, _, Evl.sq_of el2⟩, .ref d, rfl, .ref l, rfl, .ref l, (y :: r).length, rfl, .inl ⟨_, Evl.sq_of el2, rfl⟩, ?_⟩
        refine ⟨d, g, c, ((y :: r).length : Int), rfl, by simp, by omega, D2, fun j H3 j0 j1 D3 x4 => ?_⟩
        have el3 : H3 l = some (.lst (y :: r)) := (ex_off d g H3) _ _ (x4 _ _ (off_of el2 nl.1 nl.2.1))
        have ef3 : H3 f = some (.lst fs) := (ex_off d g H3) _ _ (x4 _ _ (off_of ef2 nf.1 nf.2.1))
        have hj : j.toNat < (y :: r).length := by omega
        have ej : (y :: r)[j.toNat]? = some (y :: r)[j.toNat] := List.getElem?_eq_getElem hj
        refine ⟨l, y :: r, j, j.toNat, (y :: r)[j.toNat], rfl, rfl, el3, by omega, by omega, ?_, ej, ?_⟩
        · unfold seqIndex?
          rw [if_neg (by omega : ¬ j < 0)]
          have hb : (decide (0 ≤ j) && decide (j < ((y :: r).length : Nat))) = true := by
            rw [decide_eq_true j0, decide_eq_true (by omega)]
            rfl
          show (if (decide (0 ≤ j) && decide (j < ((y :: r).length : Nat))) = true then some j.toNat else none) = some j.toNat
          rw [if_pos hb]
        · have ef4 : (upd H3 l (.lst ((y :: r).eraseIdx j.toNat))) f = some (.lst fs) := by rw [upd_ne hlf]; exact ef3
          refine ⟨f, fs, (y :: r)[j.toNat], rfl, rfl, ef4, small1000 (by omega), ?_⟩
          refine ⟨⟨rfl, (y :: r).eraseIdx j.toNat, fs ++ [(y :: r)[j.toNat]], by rw [upd_ne hlf.symm]; exact upd_same, upd_same, ?_, ?_, ?_⟩, ?_⟩
          · rw [List.append_assoc]
            exact ((perm_erase (y :: r) j.toNat _ ej).append_left fs).trans hp
          · exact (D3.mut nl.1 nl.2.1 nl.2.2).mut nf.1 nf.2.1 nf.2.2
          · have x5 : Evl.Ex (off d g H) (off d g H3) := x3.trans x4
            exact off_mut (off_mut x5 (off_free hl0)) (off_free hf0)
          · show (match (upd (upd H3 l (.lst ((y :: r).eraseIdx j.toNat))) f (.lst (fs ++ [(y :: r)[j.toNat]]))) l with | some (.lst ls) => ls.length | _ => 0) < (match H1 l with | some (.lst ls) => ls.length | _ => 0)
            rw [upd_ne hlf.symm, upd_same, el]
            show ((y :: r).eraseIdx j.toNat).length < (y :: r).length
            rw [List.length_eraseIdx, if_pos hj]
            simp
    · intro σ H1 Q1 Q2 hq h
      obtain ⟨v, hv, hz, hk⟩ := h
      refine ⟨v, hv, hz, fun p hp => ?_⟩
      obtain ⟨d1, e1, a1, a2, a3, a4, k1, ek, q⟩ := hk p hp
      exact ⟨d1, e1, a1, a2, a3, a4, k1, ek, hq _ _ q⟩
end
end Rw
end T_B2

section T_B3
set_option Elab.async false
set_option linter.all false
set_option maxRecDepth 100000
set_option maxHeartbeats 4000000
namespace Rw
open PySem L2 PyProof.Rows
section
variable {P : Program} {w : World} {K : PySem.W.Frag} {mg : Str → Option Value} {base : Heap}
abbrev nWords : List Str := ["draw", "count", "letters", "found", "some", "k", "word", "span", "near", "j", "letter", "uno"]
theorem sc_words : FnScope nWords ["draw", "count"] (defScope s_words) := ⟨rfl, rfl, rfl, by decide +kernel, rfl, by decide +kernel, by decide +kernel⟩
theorem ok_words {f fT fP : Addr} {fd fdT fdP : FuncData} (F : Fun K "_law_words" "_law_words" s_words f fd)
    (T : FnOk P w K mg base CX0 2 fT fdT ["draw", "size"] spTake) (kT : PySem.W.keepIn K (.ref fT) = true) (bT : Binds K fdT ["draw", "size"] []) (gT : mg "_law_take" = some (.ref fT))
    (PL : FnOk P w K mg base CX0 3 fP fdP ["draw", "some"] (spPickL K)) (PS_ : FnOk P w K mg base CX0 3 fP fdP ["draw", "some"] spPickS) (kP : PySem.W.keepIn K (.ref fP) = true) (bP : Binds K fdP ["draw", "some"] []) (gP : mg "_law_pick" = some (.ref fP))
    (mRange : mg "range" = none) :
    FnOk P w K mg base CX0 4 f fd ["draw", "count"] (spWords K) := by
  refine F.ok sc_words (fun vs H Q E h => ?_) (fun cdv A outer s H vs Q E hr h => ?_)
  · obtain ⟨d, g, c, n, rfl, _⟩ := h
    rfl
  · obtain ⟨d, g, c, n, rfl, D, hn, k⟩ := h
    have nd := sc_words.nd
    have hr2 : Room 2 _ := hr.mono (by decide)
    refine ⟨_, pss_cons (ps_asg (pe_tup (pa_cons pe_str (pa_cons (pe_lst pa_nil) pa_nil))) (pg_tup rfl (pgs_cons (pg_name (i := 2) nd rfl (.inr rfl)) (pgs_cons (pg_name (i := 3) nd rfl (.inr rfl)) pgs_nil))))
      (pss_cons (ps_set (i := 4) nd rfl (.inl rfl) (pe_lst (pa_cons pe_str (pa_cons pe_str (pa_cons pe_str (pa_cons pe_str (pa_cons pe_str (pa_cons pe_str (pa_cons pe_str (pa_cons pe_str (pa_cons pe_str (pa_cons pe_str pa_nil))))))))))))
      (pss_cons (ps_for PassesOwn.never rfl (pi_range1 (by rfl) mRange (pa_cons (pv 1) pa_nil)) (pg_name (i := 5) nd rfl (.inl rfl))
        (pss_cons (ps_set (i := 6) nd rfl (.inr rfl) (pe_call PL hr rfl gP kP bP .nil pass0 (pa_cons (pv 0) (pa_cons (pv 4) pa_nil))))
        (C8.pss_cut (ps_if (pt_cmpR op_gt (pe_call T hr2 rfl gT kT bT .nil pass0 (pa_cons (pv 0) (pa_cons pe_int pa_nil))) pe_int (nomark _))
          (pss_cons (ps_set (i := 7) nd rfl (.inl rfl) (pe_op op_add pe_int (pe_call T hr2 rfl gT kT bT .nil pass0 (pa_cons (pv 0) (pa_cons (pe_call PL hr rfl gP kP bP .nil pass0 (pa_cons (pv 0) (pa_cons (pe_lst (pa_cons pe_int (pa_cons pe_int (pa_cons pe_int pa_nil)))) pa_nil))) pa_nil)))))
          (pss_one (ps_set (i := 6) nd rfl (.inr rfl) (pe_join pe_str
            (pe_lc (own := [("j", 9)]) (g := gName 9) (tt := tYes) rfl nd (pi_range1 (by rfl) mRange (pa_cons (pv 7) pa_nil)) (blkOk_by (own := [("j", 9)]) (N := nWords) (sc := defScope s_words) (by decide +kernel))
              (fun _ _ _ _ _ => pg_name (i := 9) nd rfl (Or.inl rfl)) (fun _ _ _ _ _ => pts_nil) (fun _ _ _ _ _ => pe_call PS_ hr rfl gP kP bP .nil pass0 (pa_cons (pv 0) (pa_cons (pv 2) pa_nil)))))))) pss_nil)
        (pss_cons (ps_set (i := 8) nd rfl (.inl rfl) (pe_op op_cat (pe_lst (pa_cons (pv 6) pa_nil))
            (pe_lc (own := [("letter", 10)]) (g := gName 10) (tt := tYes) rfl nd (pi_str (pv 2)) (blkOk_by (own := [("letter", 10)]) (N := nWords) (sc := defScope s_words) (by decide +kernel))
              (fun _ _ _ _ _ => pg_name (i := 10) nd rfl (Or.inl rfl)) (fun _ _ _ _ _ => pts_nil) (fun _ _ _ _ _ => pe_op op_add_str (pe_slice sl_str (pv 6) po_none (po_some pe_int)) (pv 10)))))
        (pss_one (ps_expr (pe_bm PySem.F.plainAttrs_list PySem.F.slot_list_append PySem.F.type_list_append mt_append (pv 3)
          (pa_cons (pe_ix ix_list (pe_lc (own := [("uno", 11)]) (g := gName 11) (tt := tTest (tOp (rIn K true) (tVar 11) (tVar 3))) rfl nd (pi_list (pv 8)) (blkOk_by (own := [("uno", 11)]) (N := nWords) (sc := defScope s_words) (by decide +kernel))
              (fun _ _ _ _ _ => pg_name (i := 11) nd rfl (Or.inl rfl)) (fun _ _ _ _ _ => pts_one (pt_cmpR op_notIn_seq (pv 11) (pv 3) rfl)) (fun _ _ _ _ _ => pv 11)) pe_int (fun _ _ => rfl)) pa_nil))))))))
      (pss_one (ps_ret (pv 3))))), ?_⟩
    have hz26 : (Str.ofString "abcdefghijklmnopqrstuvwxyz") = z26 := rfl
    -- letters, found = ('..', [])
    refine ⟨Nat.zero_le _, fun f hf => ⟨by show 2 ≤ sizeLine; decide, fun t ht => ⟨t, _, rfl, Evl.st_of upd_same, rfl, _, _, rfl, _, [], rfl, rfl, ?_⟩⟩⟩
    -- some = [..]
    refine ⟨by show 10 ≤ sizeLine; decide, fun sm hsm => ?_⟩
    have nf := D.ned hf
    have D1 : DrawAt (upd (upd (upd H f (.lst [])) t (.tup [.str z26, .ref f])) sm (.lst (words10.map V.str))) d g c := ((D.new hf).new ht).new hsm
    have nsm := ((D.new hf).new ht).ned hsm
    have S0 : StW H (upd (upd (upd H f (.lst [])) t (.tup [.str z26, .ref f])) sm (.lst (words10.map V.str))) d g c f sm [] :=
      ⟨Evl.Ex.new hsm _ _ (Evl.Ex.new ht _ _ upd_same), off_of upd_same nsm.1 nsm.2.1, D1, ((off_ex (Evl.Ex.new hf)).trans (off_ex (Evl.Ex.new ht))).trans (off_ex (Evl.Ex.new hsm)), nf.1, nf.2.1, ne_of_none (Evl.Ex.new ht _ _ upd_same) hsm⟩
    -- for k in range(count)
    refine ⟨.int (n : Int), rfl, (n : Int), rfl, by omega, by omega, for_range (lo := 0) (n := (n : Int).toNat)
      (fun i σ H' => ∃ (x5 x6 x7 x8 : Option V) (zs : List Str), σ = [some (.ref d), some (.int (n : Int)), some (.str z26), some (.ref f), some (.ref sm), x5, x6, x7, x8, none, none, none] ∧ zs.length = i ∧ zs.Nodup ∧ (∀ z ∈ zs, Nm z) ∧ StW H H' d g c f sm zs)
      ⟨none, none, none, none, [], rfl, rfl, List.nodup_nil, (fun z hz => by cases hz), S0⟩ ?_ ?_⟩
    · rintro i σ H1 hi ⟨x5, x6, x7, x8, zs, rfl, hlen, hnd, hnm, S1⟩
      rw [Int.toNat_natCast] at hi
      -- word = _law_pick(draw, some)
      refine ⟨.ref d, rfl, .ref sm, rfl, d, g, c, sm, words10.map V.str, rfl, S1.dr, Evl.sq_of S1.hs, by decide, by decide, fun i1 v H2 hv D2 e2 => ?_⟩
      have S2 := S1.call D2 e2
      obtain ⟨w0, rfl, hw0⟩ : ∃ w0 : Str, v = V.str w0 ∧ Nm w0 := by
        obtain ⟨z, hz, e⟩ := List.mem_map.mp (List.mem_of_getElem? hv)
        exact ⟨z, e.symm, words10_nm z hz⟩
      -- if _law_take(draw, 3) > 0
      refine ⟨fun σ' H' => ∃ (x7 : Option V) (w1 : Str), Nm w1 ∧ σ' = [some (.ref d), some (.int (n : Int)), some (.str z26), some (.ref f), some (.ref sm), some (.int (0 + (i : Int))), some (.str w1), x7, x8, none, none, none] ∧ StW H H' d g c f sm zs, ?_, ?_⟩
      · refine ⟨.ref d, rfl, d, g, c, 3, rfl, by decide, by decide, D2, fun q H3 q0 q1 D3 e3 => ?_⟩
        have S3 := S2.call D3 e3
        refine ⟨q, 0, rfl, rfl, _, rfl, ite2 (fun _ => ?_) (fun _ => ⟨x7, w0, hw0, rfl, S3⟩)⟩
        -- span = 1 + ..
        refine ⟨.ref d, rfl, .ref d, rfl, by show 3 ≤ sizeLine; decide, fun l6 hl6 => ?_⟩
        have S4 := S3.new (o := .lst [.int 1, .int 2, .int 6]) hl6
        have n6 := S3.dr.ned hl6
        refine ⟨d, g, c, l6, [.int 1, .int 2, .int 6], rfl, S4.dr, Evl.sq_of (off_of upd_same n6.1 n6.2.1), by decide, by decide, fun i2 v2 H5 hv2 D5 e5 => ?_⟩
        have S5 := S4.call D5 e5
        obtain ⟨m, rfl, hm0, hm1⟩ : ∃ m : Int, v2 = .int m ∧ 0 < m ∧ m ≤ 6 := by
          match i2, hv2 with
          | 0, hv2 => exact ⟨_, (Option.some.inj hv2).symm, by decide, by decide⟩
          | 1, hv2 => exact ⟨_, (Option.some.inj hv2).symm, by decide, by decide⟩
          | 2, hv2 => exact ⟨_, (Option.some.inj hv2).symm, by decide, by decide⟩
          | n + 3, hv2 => exact absurd hv2 (by simp)
        refine ⟨d, g, c, m, rfl, hm0, by omega, D5, fun r H6 r0 r1 D6 e6 => ?_⟩
        have S6 := S5.call D6 e6
        refine ⟨1, r, rfl, rfl, ?_⟩
        -- word = ''.join([..])
        refine ⟨⟨_, rfl⟩, .int (1 + r), rfl, 1 + r, rfl, by omega, by omega, fun D hD => lc_range (lo := 0) (n := (1 + r).toNat)
          (fun j H' => ∃ cs : List Nat, cs.length = j ∧ (∀ x ∈ cs, 97 ≤ x ∧ x ≤ 122) ∧ H' D = some (.lst (cs.map fun x => V.str (SX.S [x]))) ∧ StW H H' d g c f sm zs) ⟨[], rfl, (fun x hx => by cases hx), upd_same, S6.new hD⟩ ?_ ?_⟩
        · rintro j H7 hj ⟨cs, hcl, hcs, hD7, S7⟩
          refine ⟨rfl, ?_⟩
          refine yes_if ?_
          refine ⟨.ref d, rfl, .str z26, rfl, d, g, c, z26, rfl, S7.dr, by decide +kernel, by decide +kernel, fun i3 ch H8 hch D8 e8 => ?_⟩
          have S8 := S7.call D8 e8
          have fD := S6.free hD
          have hD8 : H8 D = some (.lst (cs.map fun x => V.str (SX.S [x]))) := ex_off d g H8 _ _ (e8 _ _ (off_of hD7 fD.2.2.2.1 fD.2.2.2.2.1))
          refine ⟨_, hD8, by rw [List.length_map]; exact small1000 (by omega), cs ++ [ch], by simp [hcl], fun x hx => ?_, ?_, S8.mut fD.1 fD.2.1 fD.2.2.1 fD.2.2.2.1 fD.2.2.2.2.1 fD.2.2.2.2.2⟩
          · rcases List.mem_append.mp hx with hx | hx
            · exact hcs x hx
            · rw [List.mem_singleton.mp hx]
              have z := List.mem_of_getElem? hch
              rw [z26_eq] at z
              obtain ⟨y, hy, rfl⟩ := List.mem_map.mp z
              have := List.mem_range.mp hy
              omega
          · rw [upd_same, List.map_append]
            rfl
        · rintro H7 ⟨cs, hcl, hcs, hD7, S7⟩
          have el : (cs.map fun x => V.str (SX.S [x])) = (cs.map fun x => SX.S [x]).map V.str := by rw [List.map_map]; rfl
          rw [el] at hD7
          have hsum : ((cs.map fun x => SX.S [x]).map (·.length)).sum = cs.length := by
            clear hD7 el hcs hcl S7
            induction cs with
            | nil => rfl
            | cons x r ih =>
              show (SX.S [x]).length + ((r.map fun x => SX.S [x]).map (·.length)).sum = r.length + 1
              rw [ih, SX.S_len]
              show 1 + r.length = r.length + 1
              omega
          refine ⟨_, D, cs.map fun x => SX.S [x], rfl, rfl, .inl (Evl.sq_of hD7), ?_, ?_⟩
          · rw [hsum, List.length_map]
            show cs.length + cs.length * 0 ≤ 16777216
            omega
          · rw [show Txt.join (Str.ofString "") (cs.map fun x => SX.S [x]) = SX.S cs from join_signs cs]
            exact ⟨_, SX.S cs, ⟨cs, rfl, by omega, by omega, hcs⟩, rfl, S7⟩
      · rintro σ' H3 ⟨x7', w1, ⟨lw, rfl, hw1, hw2, hw3⟩, rfl, S3⟩
        have lenw : (SX.S lw).length ≤ 6 := by rw [SX.S_len]; exact hw2
        -- near = [word] + [..]
        refine ⟨.str (SX.S lw), rfl, by show 1 ≤ sizeLine; decide, fun q hq => ?_⟩
        have S4 := S3.new (o := .lst [.str (SX.S lw)]) hq
        have hq4 : (upd H3 q (.lst [.str (SX.S lw)])) q = some (.lst [.str (SX.S lw)]) := upd_same
        generalize upd H3 q (.lst [.str (SX.S lw)]) = H4 at S4 hq4
        refine ⟨.str z26, rfl, z26, rfl, fun D hD => lc_it walk_str (fun j H' => H' = upd H4 D (.lst ((((List.range 26).take j).map fun k => SX.S (lw.take 5 ++ [97 + k])).map V.str))) rfl (fun _ _ _ _ => trivial) ?_ ?_⟩
        · rintro j x H5 H5' hj rfl ⟨rfl, ch, hch, rfl⟩
          refine ⟨rfl, ?_⟩
          refine yes_if ?_
          have hj' : j < 26 := hj
          have ech : ch = 97 + j := by
            have z : z26.cps.toList[j]? = some ch := by rw [Array.getElem?_toList]; exact hch
            rw [z26_eq, List.getElem?_map, List.getElem?_range hj'] at z
            exact (Option.some.inj z).symm
          subst ech
          refine ⟨.str (SX.S lw), rfl, 5, rfl, SX.S lw, rfl, Nat.le_of_lt (small1000 (by omega)), .str (SX.S [97 + j]), rfl, cutS (SX.S lw) none (some 5), SX.S [97 + j], rfl, rfl, ?_, ?_⟩
          · rw [cut5, SX.S_len, SX.S_len, List.length_take]
            show min 5 lw.length + 1 ≤ sizeLine
            exact Nat.le_of_lt (small1000 (by omega))
          · rw [cut5, SX.S_cat]
            refine ⟨_, upd_same, ?_, ?_⟩
            · rw [List.length_map, List.length_map, List.length_take, List.length_range]
              exact small1000 (by omega)
            · show upd (upd H4 D _) D _ = _
              rw [upd_upd, List.take_add_one (i := j) (l := List.range 26), List.getElem?_range hj', List.map_append, List.map_append]
              rfl
        · rintro H5 rfl
          have hDq : q ≠ D := ne_of_none hq4 hD
          have S5 := S4.new (o := .lst ((((List.range 26).take z26.cps.size).map fun k => SX.S (lw.take 5 ++ [97 + k])).map V.str)) hD
          refine ⟨q, D, _, _, rfl, rfl, by rw [upd_ne hDq]; exact hq4, upd_same, ?_, fun p hp => ?_⟩
          · rw [List.length_map, List.length_map, List.length_take, List.length_range]
            show 1 + min z26.cps.size 26 ≤ sizeLine
            exact Nat.le_of_lt (small1000 (by omega))
          · have en : ([V.str (SX.S lw)] ++ (((List.range 26).take z26.cps.size).map fun k => SX.S (lw.take 5 ++ [97 + k])).map V.str) = (near lw).map V.str := by
              rw [show z26.cps.size = 26 by decide +kernel, show (List.range 26).take 26 = List.range 26 by decide]
              rfl
            rw [en]
            have S6 := S5.new (o := .lst ((near lw).map V.str)) hp
            have hp6 : (upd (upd H4 D (.lst ((((List.range 26).take z26.cps.size).map fun k => SX.S (lw.take 5 ++ [97 + k])).map V.str))) p (.lst ((near lw).map V.str))) p = some (.lst ((near lw).map V.str)) := upd_same
            generalize upd (upd H4 D (.lst ((((List.range 26).take z26.cps.size).map fun k => SX.S (lw.take 5 ++ [97 + k])).map V.str))) p (.lst ((near lw).map V.str)) = H6 at S6 hp6
            -- found.append([..][0])
            refine ⟨.ref f, rfl, .inl ⟨rfl, _, Evl.sq_of S6.hf⟩, .ref p, rfl, p, rfl, ⟨_, Evl.sq_of hp6⟩, fun D2 hD2 => lc_list (K := K) (a := p) (xs := (near lw).map V.str)
              (fun j H' => H' = upd H6 D2 (.lst ((((near lw).take j).filter fun z => decide (z ∉ zs)).map V.str))) rfl (fun j H' _ h => by rw [h]; exact Evl.ex_l (Evl.Ex.new hD2) (Evl.sq_of hp6)) ?_ ?_⟩
            · rintro j x H7 hj rfl
              obtain ⟨z, hz, rfl⟩ : ∃ z, (near lw)[j]? = some z ∧ x = V.str z := by
                rw [List.getElem?_map] at hj
                cases e : (near lw)[j]? with
                | none => rw [e] at hj; cases hj
                | some z => rw [e] at hj; exact ⟨z, rfl, (Option.some.inj hj).symm⟩
              have hjl : j < (near lw).length := (List.getElem?_eq_some_iff.mp hz).1
              have hnl : (near lw).length = 27 := by simp [near]
              refine ⟨rfl, _, rfl, .ref f, rfl, f, _, rfl, .inl (Evl.ex_l (Evl.Ex.new hD2) (Evl.sq_of S6.hf)), rfl, flat_strs zs, _, rfl, ?_⟩
              rw [inV_str]
              have etake : (near lw).take (j + 1) = (near lw).take j ++ [z] := by rw [List.take_add_one, hz]; rfl
              by_cases hin : z ∈ zs
              · rw [decide_eq_true hin]
                show upd H6 D2 _ = _
                rw [etake, List.filter_append, List.filter_cons_of_neg (by simp [hin]), List.filter_nil, List.append_nil]
              · rw [decide_eq_false hin]
                refine ⟨_, rfl, _, upd_same, ?_, ?_⟩
                · rw [List.length_map]
                  refine small1000 (Nat.le_trans (List.length_filter_le _ _) ?_)
                  rw [List.length_take]
                  omega
                · show upd (upd H6 D2 _) D2 _ = _
                  rw [upd_upd, etake, List.filter_append, List.filter_cons_of_pos (by simp [hin]), List.filter_nil, List.map_append]
                  rfl
            · rintro H7 rfl
              rw [List.length_map, List.take_length]
              obtain ⟨z, rest, ez⟩ := near_some lw zs (by omega)
              rw [ez]
              have hzm : z ∈ (near lw).filter fun z => decide (z ∉ zs) := by rw [ez]; exact List.mem_cons_self
              have hz1 := List.mem_filter.mp hzm
              have S7 := S6.new (o := .lst ((z :: rest).map V.str)) hD2
              refine ⟨D2, _, 0, .str z, rfl, rfl, Evl.sq_of upd_same, atI_nat (j := 0) rfl, f, _, .str z, rfl, rfl, S7.hf, ?_, ?_⟩
              · rw [List.length_map]
                exact small1000 (by omega)
              · have nf2 := nf
                have nfs : f ≠ sm := S7.n3
                refine ⟨_, _, _, _, zs ++ [z], rfl, by simp [hlen], ?_, fun y hy => ?_, ?_⟩
                · exact List.nodup_append.mpr ⟨hnd, (by simp), fun a ha b hb e => of_decide_eq_true hz1.2 (List.mem_singleton.mp hb ▸ e ▸ ha)⟩
                · rcases List.mem_append.mp hy with hy | hy
                  · exact hnm y hy
                  · rw [List.mem_singleton.mp hy]
                    exact near_nm hw1 hw2 hw3 z hz1.1
                · have hs7 := off_some S7.hs
                  refine ⟨by rw [upd_same, List.map_append]; rfl, off_of (by rw [upd_ne nfs.symm]; exact hs7.2.2) hs7.1 hs7.2.1, S7.dr.mut nf2.1 nf2.2.1 nf2.2.2, off_mut S7.ex (off_free hf), S7.n1, S7.n2, S7.n3⟩
    · rintro σ H1 ⟨x5, x6, x7, x8, zs, rfl, hlen, hnd, hnm, S1⟩
      rw [Int.toNat_natCast] at hlen
      exact ⟨.ref f, rfl, k f zs H1 hlen hnd hnm S1.dr S1.ex hf (off_of S1.hf S1.n1 S1.n2)⟩
end
end Rw
end T_B3

section T_B4
set_option Elab.async false
set_option linter.all false
set_option maxRecDepth 100000
set_option maxHeartbeats 4000000
namespace Rw
open PySem L2 PyProof.Rows
section
variable {P : Program} {w : World} {K : PySem.W.Frag} {mg : Str → Option Value} {base : Heap}
theorem sc_tree : FnScope ["draw", "some", "end", "found", "ahead", "dot"] ["draw", "some", "end"] (defScope s_tree) := ⟨rfl, rfl, rfl, by decide +kernel, rfl, by decide +kernel, by decide +kernel⟩
theorem ok_tree {f fM fP : Addr} {fd fdM fdP : FuncData} (F : Fun K "_law_tree" "_law_tree" s_tree f fd)
    (M : FnOk P w K mg base CX0 3 fM fdM ["draw", "some"] (spMixed K)) (kM : PySem.W.keepIn K (.ref fM) = true) (bM : Binds K fdM ["draw", "some"] []) (gM : mg "_law_mixed" = some (.ref fM))
    (PL : FnOk P w K mg base CX0 3 fP fdP ["draw", "some"] (spPickL K)) (kP : PySem.W.keepIn K (.ref fP) = true) (bP : Binds K fdP ["draw", "some"] []) (gP : mg "_law_pick" = some (.ref fP)) :
    FnOk P w K mg base CX0 4 f fd ["draw", "some", "end"] (spTab K) := by
  refine F.ok sc_tree (fun vs H Q E h => ?_) (fun cdv A outer s H vs Q E hr h => ?_)
  · obtain ⟨d, g, c, a, zs, e, rfl, _⟩ := h
    rfl
  · obtain ⟨d, g, c, a, zs, e, rfl, D, hS, hnd, hnm, he, hez, hzl, k⟩ := h
    have nd := sc_tree.nd
    have hu := hu_of hr
    refine ⟨_, pss_cons (ps_par (i := 3) (j := 4) (by rfl) nd rfl rfl (by decide) rfl rfl (pa_cons pe_dnewK (pa_cons (pe_lst (pa_cons (pv 2) pa_nil)) pa_nil)) (by rfl))
      (pss_cons (ps_for PassesOwn.never rfl (pi_list (pe_call M hr rfl gM kM bM .nil pass0 (pa_cons (pv 0) (pa_cons (pv 1) pa_nil)))) (pg_name (i := 5) nd rfl (.inl rfl))
        (pss_cons (ps_dput hu (pv 3) (pv 5) (pe_call PL hr rfl gP kP bP .nil pass0 (pa_cons (pv 0) (pa_cons (pv 4) pa_nil))) rfl)
        (pss_one (ps_expr (pe_bm PySem.F.plainAttrs_list PySem.F.slot_list_append PySem.F.type_list_append mt_append (pv 4) (pa_cons (pv 5) pa_nil))))))
      (pss_one (ps_ret (pv 3)))), ?_⟩
    -- found, ahead = ({}, [end])
    refine fun fd0 hfd => ⟨.str e, rfl, by show 1 ≤ sizeLine; decide, fun ah hah => ⟨_, _, rfl, ?_⟩⟩
    have nfd := D.ned hfd
    have nah := (D.new hfd).ned hah
    have hah0 : H ah = none := by
      by_cases z : ah = fd0
      · rw [z, upd_same] at hah; cases hah
      · rw [upd_ne z] at hah; exact hah
    have nfa : fd0 ≠ ah := ne_of_none upd_same hah
    have D1 : DrawAt (upd (upd H fd0 (.dK [])) ah (.lst [.str e])) d g c := (D.new hfd).new hah
    have x1 : Evl.Ex (off d g H) (off d g (upd (upd H fd0 (.dK [])) ah (.lst [.str e]))) := (off_ex (Evl.Ex.new hfd)).trans (off_ex (Evl.Ex.new hah))
    have e1 : (upd (upd H fd0 (.dK [])) ah (.lst [.str e])) fd0 = some (.dK (tkv [])) := by rw [upd_ne nfa, upd_same]; rfl
    have e2 : (upd (upd H fd0 (.dK [])) ah (.lst [.str e])) ah = some (.lst ([e].map V.str)) := upd_same
    have free1 : ∀ p, (upd (upd H fd0 (.dK [])) ah (.lst [.str e])) p = none → p ≠ fd0 ∧ p ≠ ah := fun p hp => ⟨(ne_of_none e1 hp).symm, (ne_of_none e2 hp).symm⟩
    generalize upd (upd H fd0 (.dK [])) ah (.lst [.str e]) = H1 at D1 x1 e1 e2 free1
    -- for dot in _law_mixed(draw, some)
    refine ⟨.ref d, rfl, .ref a, rfl, d, g, c, a, zs.map V.str, rfl, D1, .inl (Evl.ex_l x1 hS), by rw [List.length_map]; omega, fun v hv => ?_, fun ml ys H2 hperm D2 x2 hml0 hml => ?_⟩
    · obtain ⟨z, hz, rfl⟩ := List.mem_map.mp hv
      exact nm_data (hnm z hz)
    obtain ⟨ws, rfl, hws⟩ : ∃ ws : List Str, ys = ws.map V.str ∧ ws.Perm zs := by
      have h1 : ∀ y ∈ ys, ∃ z : Str, y = V.str z := fun y hy => by
        obtain ⟨z, _, e⟩ := List.mem_map.mp (hperm.subset hy)
        exact ⟨z, e.symm⟩
      have h2 : ∀ l : List V, (∀ y ∈ l, ∃ z : Str, y = V.str z) → ∃ ws : List Str, l = ws.map V.str := fun l => by
        induction l with
        | nil => intro _; exact ⟨[], rfl⟩
        | cons y r ih =>
          intro h
          obtain ⟨z, rfl⟩ := h y List.mem_cons_self
          obtain ⟨ws, rfl⟩ := ih fun u hu => h u (List.mem_cons_of_mem _ hu)
          exact ⟨z :: ws, rfl⟩
      obtain ⟨ws, rfl⟩ := h2 ys h1
      refine ⟨ws, rfl, ?_⟩
      have := hperm.map fun v : V => match v with | .str z => z | _ => Str.empty
      rw [List.map_map, List.map_map] at this
      have i1 : ((fun v : V => match v with | .str z => z | _ => Str.empty) ∘ V.str) = id := rfl
      rw [i1, List.map_id, List.map_id] at this
      exact this
    have e3 : H2 fd0 = some (.dK (tkv [])) := ex_off d g H2 _ _ (x2 _ _ (off_of e1 nfd.1 nfd.2.1))
    have e4 : H2 ah = some (.lst ([e].map V.str)) := ex_off d g H2 _ _ (x2 _ _ (off_of e2 nah.1 nah.2.1))
    have nml := free1 ml hml0
    have hml' := off_some hml
    refine ⟨ml, rfl, ⟨_, Evl.sq_of hml'.2.2⟩, for_list (K := K) (a := ml) (xs := ws.map V.str)
      (fun i σ H' => ∃ (x5 : Option V) (tb : List (Str × V)), σ = [some (.ref d), some (.ref a), some (.str e), some (.ref fd0), some (.ref ah), x5] ∧ tb.map (·.1) = ws.take i ∧ (∀ q ∈ tb, PlaceOk zs e q.1 q.2) ∧
        H' fd0 = some (.dK (tkv tb)) ∧ H' ah = some (.lst ((e :: ws.take i).map V.str)) ∧ H' ml = some (.lst (ws.map V.str)) ∧ DrawAt H' d g c ∧ Evl.Ex (off d g H) (off d g H'))
      ⟨none, [], rfl, rfl, (fun q hq => by cases hq), e3, e4, hml'.2.2, D2, x1.trans x2⟩ (fun i σ H' _ ⟨_, _, _, _, _, _, _, h, _⟩ => Evl.sq_of h) ?_ ?_⟩
    · rintro i y σ H3 hi ⟨x5, tb, rfl, hk, hps, f1, f2, f3, D3, x3⟩
      obtain ⟨z, hz, rfl⟩ : ∃ z, ws[i]? = some z ∧ y = V.str z := by
        rw [List.getElem?_map] at hi
        cases e : ws[i]? with
        | none => rw [e] at hi; cases hi
        | some z => rw [e] at hi; exact ⟨z, rfl, (Option.some.inj hi).symm⟩
      have wnd : ws.Nodup := hws.nodup_iff.mpr hnd
      have hil : i < ws.length := (List.getElem?_eq_some_iff.mp hz).1
      have wl : ws.length ≤ 10 := by rw [hws.length_eq]; exact hzl
      have etake : ws.take (i + 1) = ws.take i ++ [z] := by rw [List.take_add_one, hz]; rfl
      have hzn : z ∉ ws.take i := fun hm => by
        have h1 : (ws.take (i + 1)).Nodup := wnd.sublist (List.take_sublist _ _)
        rw [etake] at h1
        exact (List.nodup_append.mp h1).2.2 z hm z (List.mem_singleton.mpr rfl) rfl
      have hzz : z ∈ zs := hws.subset (List.mem_of_getElem? hz)
      -- found[dot] = _law_pick(draw, ahead)
      refine ⟨.ref d, rfl, .ref ah, rfl, d, g, c, ah, (e :: ws.take i).map V.str, rfl, D3, Evl.sq_of (off_of f2 nah.1 nah.2.1), by simp, ?_, fun j v H4 hv D4 x4 => ?_⟩
      · rw [List.length_map, List.length_cons, List.length_take]
        omega
      have hpl : PlaceOk zs e z v := by
        obtain ⟨u, hu1, rfl⟩ := List.mem_map.mp (List.mem_of_getElem? hv)
        rcases List.mem_cons.mp hu1 with rfl | hu1
        · exact .inr (.inl rfl)
        · exact .inr (.inr ⟨u, hws.subset (List.mem_of_mem_take hu1), fun q => hzn (q ▸ hu1), rfl⟩)
      have g1 : H4 fd0 = some (.dK (tkv tb)) := ex_off d g H4 _ _ (x4 _ _ (off_of f1 nfd.1 nfd.2.1))
      have g2 : H4 ah = some (.lst ((e :: ws.take i).map V.str)) := ex_off d g H4 _ _ (x4 _ _ (off_of f2 nah.1 nah.2.1))
      have g3 : H4 ml = some (.lst (ws.map V.str)) := ex_off d g H4 _ _ (x4 _ _ (off_of f3 hml'.1 hml'.2.1))
      have tlen : tb.length ≤ 10 := by
        have := congrArg List.length hk
        rw [List.length_map, List.length_take] at this
        omega
      refine ⟨.ref fd0, rfl, .str z, rfl, fd0, _, rfl, DPut.k (k := Sum.inr z) g1 (by rw [tkv_len]; exact small1000 (by omega)), ?_⟩
      rw [tkv_new (by rw [hk]; exact hzn)]
      -- ahead.append(dot)
      have g2' : (upd H4 fd0 (.dK (tkv (tb ++ [(z, v)])))) ah = some (.lst ((e :: ws.take i).map V.str)) := by rw [upd_ne nfa.symm]; exact g2
      refine ⟨.ref ah, rfl, .inl ⟨rfl, _, Evl.sq_of g2'⟩, .str z, rfl, ah, _, .str z, rfl, rfl, g2', ?_, ?_⟩
      · rw [List.length_map, List.length_cons, List.length_take]
        exact small1000 (by omega)
      · refine ⟨_, tb ++ [(z, v)], rfl, ?_, ?_, ?_, ?_, ?_, (D4.mut nfd.1 nfd.2.1 nfd.2.2).mut nah.1 nah.2.1 nah.2.2, off_mut (off_mut (x3.trans x4) (off_free hfd)) (off_free hah0)⟩
        · rw [List.map_append, hk, etake]
          rfl
        · intro q hq
          rcases List.mem_append.mp hq with hq | hq
          · exact hps q hq
          · rw [List.mem_singleton.mp hq]
            exact hpl
        · rw [upd_ne nfa, upd_same]
        · rw [upd_same, etake]
          show some (HO.lst ((e :: ws.take i).map V.str ++ [V.str z])) = some (HO.lst ((e :: (ws.take i ++ [z])).map V.str))
          rw [← List.cons_append, List.map_append]
          rfl
        · rw [upd_ne nml.2, upd_ne nml.1]
          exact g3
    · rintro σ H3 ⟨x5, tb, rfl, hk, hps, f1, f2, f3, D3, x3⟩
      rw [List.length_map, List.take_length] at hk
      exact ⟨.ref fd0, rfl, k fd0 tb H3 ⟨by rw [hk]; exact hws, hps⟩ D3 x3 hfd (off_of f1 nfd.1 nfd.2.1)⟩
end
end Rw
end T_B4

section T_B5
set_option Elab.async false
set_option linter.all false
set_option maxRecDepth 100000
set_option maxHeartbeats 4000000
namespace Rw
open PySem L2 PyProof.Rows
section
variable {P : Program} {w : World} {K : PySem.W.Frag} {mg : Str → Option Value} {base : Heap}
abbrev nPath : List Str := ["draw", "some", "end", "row", "k", "dot"]
theorem sc_path : FnScope nPath ["draw", "some", "end"] (defScope s_path) := ⟨rfl, rfl, rfl, by decide +kernel, rfl, by decide +kernel, by decide +kernel⟩
theorem ok_path {f fM : Addr} {fd fdM : FuncData} (F : Fun K "_law_path" "_law_path" s_path f fd)
    (M : FnOk P w K mg base CX0 3 fM fdM ["draw", "some"] (spMixed K)) (kM : PySem.W.keepIn K (.ref fM) = true) (bM : Binds K fdM ["draw", "some"] []) (gM : mg "_law_mixed" = some (.ref fM))
    (mEnum : mg "enumerate" = none) (mDict : mg "dict" = none) :
    FnOk P w K mg base CX0 4 f fd ["draw", "some", "end"] (spTab K) := by
  refine F.ok sc_path (fun vs H Q E h => ?_) (fun cdv A outer s H vs Q E hr h => ?_)
  · obtain ⟨d, g, c, a, zs, e, rfl, _⟩ := h
    rfl
  · obtain ⟨d, g, c, a, zs, e, rfl, D, hS, hnd, hnm, he, hez, hzl, k⟩ := h
    have nd := sc_path.nd
    have hu := hu_of hr
    refine ⟨_, pss_cons (ps_set (i := 3) nd rfl (.inr rfl) (pe_op op_cat (pe_call M hr rfl gM kM bM .nil pass0 (pa_cons (pv 0) (pa_cons (pv 1) pa_nil))) (pe_lst (pa_cons (pv 2) pa_nil))))
      (pss_one (ps_ret (pe_callTy (call_dictP rfl) (by rfl) mDict (by decide +kernel) (pa_cons
        (pe_lc (own := [("k", 4), ("dot", 5)]) (g := gTup K 2 (gCons (gName 4) (gCons (gName 5) gNil))) (tt := tYes) (te := tTup (tCons (tVar 5) (tCons (tOp (rIxL K) (tVar 3) (tOp (rI0 fun i j => .int (i + j)) (tVar 4) (tC (.int 1)))) tNil))) rfl nd
          (pi_enum (by rfl) mEnum (pa_cons (pe_slice sl_list (pv 3) po_none (po_some (pe_un un_neg pe_int))) pa_nil)) (blkOk_by (own := [("k", 4), ("dot", 5)]) (N := nPath) (sc := defScope s_path) (by decide +kernel))
          (fun _ _ _ _ _ => pg_tup rfl (pgs_cons (pg_name (i := 4) nd rfl (Or.inl rfl)) (pgs_cons (pg_name (i := 5) nd rfl (Or.inl rfl)) pgs_nil))) (fun _ _ _ _ _ => pts_nil)
          (fun _ _ _ _ _ => pe_tup (pa_cons (pv 5) (pa_cons (pe_ix ix_list (pv 3) (pe_op op_add (pv 4) pe_int) (fun _ _ => rfl)) pa_nil)))) pa_nil)))), ?_⟩
    -- row = _law_mixed(draw, some) + [end]
    refine ⟨.ref d, rfl, .ref a, rfl, d, g, c, a, zs.map V.str, rfl, D, .inl hS, by rw [List.length_map]; omega, fun v hv => ?_, fun ml ys H2 hperm D2 x2 hml0 hml => ?_⟩
    · obtain ⟨z, hz, rfl⟩ := List.mem_map.mp hv
      exact nm_data (hnm z hz)
    obtain ⟨ws, rfl, hws⟩ := perm_strs hperm
    have wl : ws.length ≤ 10 := by rw [hws.length_eq]; exact hzl
    have hml' := off_some hml
    refine ⟨.str e, rfl, by show 1 ≤ sizeLine; decide, fun q hq => ?_⟩
    have nqm : ml ≠ q := ne_of_none hml'.2.2 hq
    refine ⟨ml, q, ws.map V.str, [.str e], rfl, rfl, by rw [upd_ne nqm]; exact hml'.2.2, upd_same, ?_, fun r hr0 => ?_⟩
    · rw [List.length_map]
      exact Nat.le_of_lt (small1000 (by show ws.length + 1 ≤ 1000; omega))
    have D3 : DrawAt (upd (upd H2 q (.lst [.str e])) r (.lst (ws.map V.str ++ [.str e]))) d g c := (D2.new hq).new hr0
    have x3 : Evl.Ex (off d g H) (off d g (upd (upd H2 q (.lst [.str e])) r (.lst (ws.map V.str ++ [.str e])))) := (x2.trans (off_ex (Evl.Ex.new hq))).trans (off_ex (Evl.Ex.new hr0))
    have e3 : (upd (upd H2 q (.lst [.str e])) r (.lst (ws.map V.str ++ [.str e]))) r = some (.lst ((ws ++ [e]).map V.str)) := by rw [upd_same, List.map_append]; rfl
    generalize upd (upd H2 q (.lst [.str e])) r (.lst (ws.map V.str ++ [.str e])) = H3 at D3 x3 e3
    -- dict([(dot, row[k + 1]) ..])
    refine ⟨.ref r, rfl, 1, rfl, _, rfl, r, _, rfl, Evl.sq_of e3, fun cu hcu => ?_⟩
    have ecut : cutV ((ws ++ [e]).map V.str) none (some (-1)) = ws.map V.str := by
      rw [cut_last, List.map_append]
      exact List.dropLast_concat
    rw [ecut]
    have D4 : DrawAt (upd H3 cu (.lst (ws.map V.str))) d g c := D3.new hcu
    have x4 : Evl.Ex (off d g H) (off d g (upd H3 cu (.lst (ws.map V.str)))) := x3.trans (off_ex (Evl.Ex.new hcu))
    have e4 : (upd H3 cu (.lst (ws.map V.str))) r = some (.lst ((ws ++ [e]).map V.str)) := Evl.Ex.new hcu _ _ e3
    have ec : (upd H3 cu (.lst (ws.map V.str))) cu = some (.lst (ws.map V.str)) := upd_same
    generalize upd H3 cu (.lst (ws.map V.str)) = H4 at D4 x4 e4 ec
    have wnd : ws.Nodup := hws.nodup_iff.mpr hnd
    refine ⟨cu, _, rfl, Evl.sq_of ec, fun Dl hDl => lc_it walk_enum (fun j H' => Evl.Ex H4 H' ∧ ∃ ps : List Addr, ps.length = j ∧ H' Dl = some (.lst (ps.map V.ref)) ∧ Paired (fun p kv => H' p = some (.tup [kV kv.1, kv.2])) ps (tkv ((pathTab ws e).take j)))
      ⟨Evl.Ex.new hDl, [], rfl, upd_same, .nil⟩ (fun j H' _ h => Evl.sq_of (h.1 _ _ ec)) ?_ ?_⟩
    · rintro j x H5 H5' hj ⟨x5, ps, hpl, hD5, hp5⟩ ⟨T, y1, y2, rfl, hT, rfl, hy1, hy2⟩
      cases hy1
      obtain ⟨z, hz, rfl⟩ := str_at hy2
      have hjl : j < ws.length := (List.getElem?_eq_some_iff.mp hz).1
      obtain ⟨y, hy, hget⟩ := pathTab_get (e := e) hz
      refine ⟨T, _, rfl, Evl.st_of upd_same, rfl, _, _, rfl, _, [], rfl, rfl, rfl, ?_⟩
      refine yes_if ?_
      have x6 : Evl.Ex H5 (upd H5 T (.tup [.int (j : Int), .str z])) := Evl.Ex.new hT
      refine ⟨.str z, rfl, .ref r, rfl, .int (j : Int), rfl, (j : Int), 1, rfl, rfl, r, _, (j : Int) + 1, .str y, rfl, rfl, Evl.sq_of (x6 _ _ (x5 _ _ e4)), ?_, by show 2 ≤ sizeLine; decide, fun t ht => ?_⟩
      · have h1 : ((ws ++ [e]).map V.str)[j + 1]? = some (.str y) := by rw [List.getElem?_map, hy]; rfl
        have h2 := atI_nat h1
        rw [show ((j + 1 : Nat) : Int) = (j : Int) + 1 by omega] at h2
        exact h2
      · have x7 : Evl.Ex H5 (upd (upd H5 T (.tup [.int (j : Int), .str z])) t (.tup [.str z, .str y])) := x6.trans (Evl.Ex.new ht)
        have htD : t ≠ Dl := (ne_of_none (x6 _ _ hD5) ht).symm
        refine ⟨_, x7 _ _ hD5, by rw [List.length_map]; exact small1000 (by omega), (x5.trans x7).mut hDl, ps ++ [t], by simp [hpl], by rw [upd_same, List.map_append]; rfl, ?_⟩
        have etake : (pathTab ws e).take (j + 1) = (pathTab ws e).take j ++ [(z, .str y)] := by rw [List.take_add_one, hget]; rfl
        rw [etake]
        unfold tkv
        rw [List.map_append]
        have keep : ∀ (p : Addr) (kv : Key × V), H5 p = some (.tup [kV kv.1, kv.2]) → (upd (upd (upd H5 T (.tup [.int (j : Int), .str z])) t (.tup [.str z, .str y])) Dl (.lst (ps.map V.ref ++ [V.ref t]))) p = some (.tup [kV kv.1, kv.2]) := fun p kv hp => by
          rw [upd_ne (ne_of hp hD5 (by intro z; cases z))]
          exact x7 _ _ hp
        have last : (upd (upd (upd H5 T (.tup [.int (j : Int), .str z])) t (.tup [.str z, .str y])) Dl (.lst (ps.map V.ref ++ [V.ref t]))) t = some (.tup [.str z, .str y]) := by rw [upd_ne htD, upd_same]
        exact Paired.snoc (Paired.mapP hp5 keep) last
    · rintro H5 ⟨x5, ps, hpl, hD5, hp5⟩
      rw [List.length_map] at hp5
      rw [List.take_of_length_le (by rw [← List.length_map (f := (·.1)) , pathTab_keys]; exact Nat.le_refl _)] at hp5
      refine ⟨Dl, ps, tkv (pathTab ws e), rfl, Evl.sq_of hD5, Paired.mapP hp5 (fun p kv hp => Evl.st_of hp), fun p hp => ?_⟩
      rw [merge_tkv (by rw [pathTab_keys]; exact wnd)]
      have D6 : DrawAt (upd H5 p (.dK (tkv (pathTab ws e)))) d g c := (D4.ext x5).new hp
      have np := (D4.ext x5).ned hp
      have x6 : Evl.Ex (off d g H) (off d g (upd H5 p (.dK (tkv (pathTab ws e))))) := (x4.trans (off_ex x5)).trans (off_ex (Evl.Ex.new hp))
      refine k p (pathTab ws e) _ (pathTab_ok hws hnd) D6 x6 ?_ (off_of upd_same np.1 np.2.1)
      cases q : H p with
      | none => rfl
      | some o =>
        have := ex_off d g H5 _ _ ((x4.trans (off_ex x5)) _ _ (off_of q np.1 np.2.1))
        rw [hp] at this
        cases this
end
end Rw
end T_B5

section T_B6
set_option Elab.async false
set_option linter.all false
set_option maxRecDepth 100000
set_option maxHeartbeats 4000000
namespace Rw
open PySem L2 PyProof.Rows
section
variable {P : Program} {w : World} {K : PySem.W.Frag} {mg : Str → Option Value} {base : Heap}
abbrev nWild : List Str := ["draw", "some", "end", "found", "dot", "spots", "spot"]
theorem sc_wild : FnScope nWild ["draw", "some", "end"] (defScope s_wild) := ⟨rfl, rfl, rfl, by decide +kernel, rfl, by decide +kernel, by decide +kernel⟩
theorem ok_wild {f fP : Addr} {fd fdP : FuncData} (F : Fun K "_law_wild" "_law_wild" s_wild f fd)
    (PL : FnOk P w K mg base CX0 3 fP fdP ["draw", "some"] (spPickL K)) (kP : PySem.W.keepIn K (.ref fP) = true) (bP : Binds K fdP ["draw", "some"] []) (gP : mg "_law_pick" = some (.ref fP)) :
    FnOk P w K mg base CX0 4 f fd ["draw", "some", "end"] (spTab K) := by
  refine F.ok sc_wild (fun vs H Q E h => ?_) (fun cdv A outer s H vs Q E hr h => ?_)
  · obtain ⟨d, g, c, a, zs, e, rfl, _⟩ := h
    rfl
  · obtain ⟨d, g, c, a, zs, e, rfl, D, hS, hnd, hnm, he, hez, hzl, k⟩ := h
    have nd := sc_wild.nd
    have hu := hu_of hr
    refine ⟨_, pss_cons (ps_set (i := 3) nd rfl (.inl rfl) pe_dnewK)
      (pss_cons (ps_for PassesOwn.never rfl (pi_list (pv 1)) (pg_name (i := 4) nd rfl (.inr rfl))
        (pss_cons (ps_setLc (i := 5) (own := [("spot", 6)]) (g := gName 6) (tt := tTest (tOp rNe (tVar 6) (tVar 4))) (te := tVar 6) (by rfl) nd rfl rfl (sw_true rfl rfl rfl (by decide +kernel)) (pi_list (pv 1)) (blkOk_by (own := [("spot", 6)]) (N := nWild) (sc := defScope s_wild) (by decide +kernel))
            (fun _ _ _ _ _ => pg_name (i := 6) nd rfl (Or.inl rfl)) (fun _ _ _ _ _ => pts_one (pt_cmpR op_ne (pv 6) (pv 4) (nomark _))) (fun _ _ _ _ _ => pv 6))
        (pss_one (ps_dput hu (pv 3) (pv 4) (pe_call PL hr rfl gP kP bP .nil pass0 (pa_cons (pv 0) (pa_cons (pe_op op_cat (pe_op op_cat (pv 5) (pv 5)) (pe_lst (pa_cons (pv 2) (pa_cons (pv 2) (pa_cons pe_non pa_nil))))) pa_nil))) rfl))))
      (pss_one (ps_ret (pv 3)))), ?_⟩
    -- found = {}
    intro fd0 hfd
    have nfd := D.ned hfd
    have D1 : DrawAt (upd H fd0 (.dK [])) d g c := D.new hfd
    have x1 : Evl.Ex (off d g H) (off d g (upd H fd0 (.dK []))) := off_ex (Evl.Ex.new hfd)
    have e1 : (upd H fd0 (.dK [])) fd0 = some (.dK (tkv [])) := upd_same
    generalize upd H fd0 (.dK []) = H1 at D1 x1 e1
    -- for dot in some
    refine ⟨.ref a, rfl, a, rfl, ⟨_, Evl.ex_l (x1.trans (ex_off d g H1)) hS⟩, for_list (K := K) (a := a) (xs := zs.map V.str)
      (fun i σ H' => ∃ (x4 x5 : Option V) (tb : List (Str × V)), σ = [some (.ref d), some (.ref a), some (.str e), some (.ref fd0), x4, x5, none] ∧ tb.map (·.1) = zs.take i ∧ (∀ q ∈ tb, PlaceOk zs e q.1 q.2) ∧
        H' fd0 = some (.dK (tkv tb)) ∧ DrawAt H' d g c ∧ Evl.Ex (off d g H) (off d g H'))
      ⟨none, none, [], rfl, rfl, (fun q hq => by cases hq), e1, D1, x1⟩ (fun i σ H' _ ⟨_, _, _, _, _, _, _, _, h⟩ => Evl.ex_l (h.trans (ex_off d g H')) hS) ?_ ?_⟩
    · rintro i y σ H3 hi ⟨x4, x5, tb, rfl, hk, hps, f1, D3, x3⟩
      obtain ⟨z, hz, rfl⟩ := str_at hi
      have hil : i < zs.length := (List.getElem?_eq_some_iff.mp hz).1
      have etake : zs.take (i + 1) = zs.take i ++ [z] := by rw [List.take_add_one, hz]; rfl
      have hzn : z ∉ zs.take i := fun hm => by
        have h1 : (zs.take (i + 1)).Nodup := hnd.sublist (List.take_sublist _ _)
        rw [etake] at h1
        exact (List.nodup_append.mp h1).2.2 z hm z (List.mem_singleton.mpr rfl) rfl
      -- spots = [..]
      refine ⟨.ref a, rfl, a, rfl, ⟨_, Evl.ex_l (x3.trans (ex_off d g H3)) hS⟩, fun sp hsp => lc_list (K := K) (a := a) (xs := zs.map V.str)
        (fun j H' => H' = upd H3 sp (.lst (((zs.take j).filter fun y => decide (y ≠ z)).map V.str))) rfl (fun j H' _ h => by rw [h]; exact Evl.ex_l ((x3.trans (ex_off d g H3)).trans (Evl.Ex.new hsp)) hS) ?_ ?_⟩
      · rintro j x H4 hj rfl
        obtain ⟨y, hy, rfl⟩ := str_at hj
        have hjl : j < zs.length := (List.getElem?_eq_some_iff.mp hy).1
        have et : zs.take (j + 1) = zs.take j ++ [y] := by rw [List.take_add_one, hy]; rfl
        refine ⟨rfl, .str y, rfl, .str z, rfl, rfl, _, rfl, ?_⟩
        by_cases q : y = z
        · subst q
          refine iteNS rfl ?_
          show upd H3 sp _ = _
          rw [et, List.filter_append, List.filter_cons_of_neg (by simp), List.filter_nil, List.append_nil]
        · have hq : decide (V.str y = V.str z) = false := decide_eq_false fun w => q (V.str.inj w)
          rw [hq]
          refine iteT ?_
          refine ⟨.str y, rfl, _, upd_same, ?_, ?_⟩
          · rw [List.length_map]
            refine small1000 (Nat.le_trans (List.length_filter_le _ _) ?_)
            rw [List.length_take]
            omega
          · show upd (upd H3 sp _) sp _ = _
            rw [upd_upd, et, List.filter_append, List.filter_cons_of_pos (by simp [q]), List.filter_nil, List.map_append]
            rfl
      · rintro H4 rfl
        rw [List.length_map, List.take_length]
        have hfl : (zs.filter fun y => decide (y ≠ z)).length ≤ 10 := Nat.le_trans (List.length_filter_le _ _) hzl
        have esp : (upd H3 sp (.lst ((zs.filter fun y => decide (y ≠ z)).map V.str))) sp = some (.lst ((zs.filter fun y => decide (y ≠ z)).map V.str)) := upd_same
        have x4' : Evl.Ex H3 (upd H3 sp (.lst ((zs.filter fun y => decide (y ≠ z)).map V.str))) := Evl.Ex.new hsp
        generalize upd H3 sp (.lst ((zs.filter fun y => decide (y ≠ z)).map V.str)) = H4 at esp x4'
        -- found[dot] = _law_pick(draw, spots + spots + [end, end, None])
        refine ⟨.ref d, rfl, .ref sp, rfl, .ref sp, rfl, sp, sp, _, _, rfl, rfl, esp, esp, by rw [List.length_map]; exact Nat.le_of_lt (small1000 (by omega)), fun p hp => ?_⟩
        refine ⟨.str e, rfl, .str e, rfl, by show 3 ≤ sizeLine; decide, fun q hq => ?_⟩
        have npq : p ≠ q := ne_of_none upd_same hq
        refine ⟨p, q, _, _, rfl, rfl, by rw [upd_ne npq]; exact upd_same, upd_same, ?_, fun r hr0 => ?_⟩
        · rw [List.length_append, List.length_map]
          exact Nat.le_of_lt (small1000 (by show _ + _ + 3 ≤ 1000; omega))
        have x5' := ((x4'.trans (Evl.Ex.new hp)).trans (Evl.Ex.new hq)).trans (Evl.Ex.new (o := .lst ((zs.filter fun y => decide (y ≠ z)).map V.str ++ (zs.filter fun y => decide (y ≠ z)).map V.str ++ [.str e, .str e, .non])) hr0)
        have D5 := D3.ext x5'
        have nr := (((D3.ext x4').new hp).new hq).ned hr0
        refine ⟨d, g, c, r, _, rfl, D5, Evl.sq_of (off_of upd_same nr.1 nr.2.1), ?_, ?_, fun j v H6 hv D6 x6 => ?_⟩
        · rw [List.length_append]
          exact Nat.lt_of_lt_of_le (by decide : 0 < 3) (Nat.le_add_left _ _)
        · rw [List.length_append, List.length_append, List.length_map]
          show _ + _ + 3 < _
          omega
        have hpl : PlaceOk zs e z v := by
          have hm := List.mem_of_getElem? hv
          have hf : ∀ u, u ∈ (zs.filter fun y => decide (y ≠ z)).map V.str → PlaceOk zs e z u := fun u hu => by
            obtain ⟨y, hy, rfl⟩ := List.mem_map.mp hu
            have := List.mem_filter.mp hy
            exact .inr (.inr ⟨y, this.1, of_decide_eq_true this.2, rfl⟩)
          rcases List.mem_append.mp hm with hm | hm
          · rcases List.mem_append.mp hm with hm | hm
            · exact hf v hm
            · exact hf v hm
          · rcases List.mem_cons.mp hm with rfl | hm
            · exact .inr (.inl rfl)
            · rcases List.mem_cons.mp hm with rfl | hm
              · exact .inr (.inl rfl)
              · rw [List.mem_singleton.mp hm]
                exact .inl rfl
        have x7 := (off_ex (d := d) (g := g) x5').trans x6
        have g1 : H6 fd0 = some (.dK (tkv tb)) := ex_off d g H6 _ _ (x7 _ _ (off_of f1 nfd.1 nfd.2.1))
        have tlen : tb.length ≤ 10 := by
          have := congrArg List.length hk
          rw [List.length_map, List.length_take] at this
          omega
        refine ⟨.ref fd0, rfl, .str z, rfl, fd0, _, rfl, DPut.k (k := Sum.inr z) g1 (by rw [tkv_len]; exact small1000 (by omega)), ?_⟩
        rw [tkv_new (by rw [hk]; exact hzn)]
        refine ⟨_, _, tb ++ [(z, v)], rfl, ?_, ?_, upd_same, D6.mut nfd.1 nfd.2.1 nfd.2.2, off_mut (x3.trans x7) (off_free hfd)⟩
        · rw [List.map_append, hk, etake]
          rfl
        · intro q hq
          rcases List.mem_append.mp hq with hq | hq
          · exact hps q hq
          · rw [List.mem_singleton.mp hq]
            exact hpl
    · rintro σ H3 ⟨x4, x5, tb, rfl, hk, hps, f1, D3, x3⟩
      rw [List.length_map, List.take_length] at hk
      exact ⟨.ref fd0, rfl, k fd0 tb H3 ⟨by rw [hk], hps⟩ D3 x3 hfd (off_of f1 nfd.1 nfd.2.1)⟩
end
end Rw
end T_B6

section T_B7
set_option Elab.async false
set_option linter.all false
set_option maxRecDepth 100000
set_option maxHeartbeats 4000000
namespace Rw
open PySem L2 PyProof.Rows
section
variable {P : Program} {w : World} {K : PySem.W.Frag} {mg : Str → Option Value} {base : Heap}
abbrev nNear : List Str := ["draw", "table", "end", "found", "some", "turn", "dot", "spot"]
theorem sc_near : FnScope nNear ["draw", "table", "end"] (defScope s_near) := ⟨rfl, rfl, rfl, by decide +kernel, rfl, by decide +kernel, by decide +kernel⟩
theorem ok_near {f fT fP : Addr} {fd fdT fdP : FuncData} (F : Fun K "_law_near" "_law_near" s_near f fd)
    (T : FnOk P w K mg base CX0 2 fT fdT ["draw", "size"] spTake) (kT : PySem.W.keepIn K (.ref fT) = true) (bT : Binds K fdT ["draw", "size"] []) (gT : mg "_law_take" = some (.ref fT))
    (PL : FnOk P w K mg base CX0 3 fP fdP ["draw", "some"] (spPickL K)) (kP : PySem.W.keepIn K (.ref fP) = true) (bP : Binds K fdP ["draw", "some"] []) (gP : mg "_law_pick" = some (.ref fP))
    (mDict : mg "dict" = none) (mSorted : mg "sorted" = none) (mRange : mg "range" = none) :
    FnOk P w K mg base CX0 4 f fd ["draw", "table", "end"] (spNear K) := by
  refine F.ok sc_near (fun vs H Q E h => ?_) (fun cdv A outer s H vs Q E hr h => ?_)
  · obtain ⟨d, g, c, t, zs, e, tb, rfl, _⟩ := h
    rfl
  · obtain ⟨d, g, c, t, zs, e, tb, rfl, D, ht, hT, hnd, h0, hzl, k⟩ := h
    have nd := sc_near.nd
    have hu := hu_of hr
    have hr2 : Room 2 _ := hr.mono (by decide)
    refine ⟨_, pss_cons (ps_par (i := 3) (j := 4) (by rfl) nd rfl rfl (by decide) rfl rfl (pa_cons (pe_callTy call_dictD (by rfl) mDict (by decide +kernel) (pa_cons (pv 1) pa_nil)) (pa_cons (pe_callB (call_sortedD rfl) (by rfl) mSorted (by decide +kernel) (pa_cons (pv 1) pa_nil)) pa_nil)) (by rfl))
      (pss_cons (ps_for PassesOwn.never rfl (pi_range1 (by rfl) mRange (pa_cons (pe_op op_add pe_int (pe_call T hr2 rfl gT kT bT .nil pass0 (pa_cons (pv 0) (pa_cons pe_int pa_nil)))) pa_nil)) (pg_name (i := 5) nd rfl (.inl rfl))
        (pss_cons (ps_set (i := 6) nd rfl (.inr rfl) (pe_call PL hr rfl gP kP bP .nil pass0 (pa_cons (pv 0) (pa_cons (pv 4) pa_nil))))
        (pss_one (ps_dput hu (pv 3) (pv 6) (pe_call PL hr rfl gP kP bP .nil pass0 (pa_cons (pv 0) (pa_cons (pe_op op_cat
            (pe_lc (own := [("spot", 7)]) (g := gName 7) (tt := tTest (tOp rNe (tVar 7) (tVar 6))) (te := tVar 7) rfl nd (pi_list (pv 4)) (blkOk_by (own := [("spot", 7)]) (N := nNear) (sc := defScope s_near) (by decide +kernel))
              (fun _ _ _ _ _ => pg_name (i := 7) nd rfl (Or.inl rfl)) (fun _ _ _ _ _ => pts_one (pt_cmpR op_ne (pv 7) (pv 6) (nomark _))) (fun _ _ _ _ _ => pv 7))
            (pe_lst (pa_cons (pv 2) pa_nil))) pa_nil))) rfl))))
      (pss_one (ps_ret (pv 3)))), ?_⟩
    have ht' := off_some ht
    -- found, some = (dict(table), sorted(table))
    refine ⟨.ref t, rfl, t, _, rfl, .inl ht'.2.2, fun fd0 hfd => ⟨.ref t, rfl, t, tkv tb, tb.map (·.1), rfl, .inl (Evl.Ex.new hfd _ _ ht'.2.2), ?_, ?_, fun ws so hws _ hso => ⟨_, _, rfl, ?_⟩⟩⟩
    · unfold tkv
      rw [List.map_map, List.map_map]
      rfl
    · rw [hT.ks.length_eq]
      omega
    have hwz : ws.Perm zs := hws.trans hT.ks
    have wl : ws.length = zs.length := hwz.length_eq
    have nfd := D.ned hfd
    have nso := (D.new hfd).ned hso
    have D1 : DrawAt (upd (upd H fd0 (.dK (tkv tb))) so (.lst (ws.map V.str))) d g c := (D.new hfd).new hso
    have x1 : Evl.Ex (off d g H) (off d g (upd (upd H fd0 (.dK (tkv tb))) so (.lst (ws.map V.str)))) := (off_ex (Evl.Ex.new hfd)).trans (off_ex (Evl.Ex.new hso))
    have e1 : (upd (upd H fd0 (.dK (tkv tb))) so (.lst (ws.map V.str))) fd0 = some (.dK (tkv tb)) := Evl.Ex.new hso _ _ upd_same
    have e2 : off d g (upd (upd H fd0 (.dK (tkv tb))) so (.lst (ws.map V.str))) so = some (.lst (ws.map V.str)) := off_of upd_same nso.1 nso.2.1
    have nfs : fd0 ≠ so := ne_of_none upd_same hso
    generalize upd (upd H fd0 (.dK (tkv tb))) so (.lst (ws.map V.str)) = H1 at D1 x1 e1 e2
    -- for turn in range(1 + ..)
    refine ⟨.ref d, rfl, d, g, c, 2, rfl, by decide, by decide, D1, fun n H2 n0 n1 D2 x2 => ⟨1, n, rfl, rfl, 1 + n, rfl, by omega, by omega, for_range (lo := 0) (n := (1 + n).toNat)
      (fun i σ H' => ∃ (x5 x6 : Option V) (tb' : List (Str × V)), σ = [some (.ref d), some (.ref t), some (.str e), some (.ref fd0), some (.ref so), x5, x6, none] ∧ TabOk zs e tb' ∧
        H' fd0 = some (.dK (tkv tb')) ∧ off d g H' so = some (.lst (ws.map V.str)) ∧ DrawAt H' d g c ∧ Evl.Ex (off d g H) (off d g H'))
      ⟨none, none, tb, rfl, hT, ex_off d g H2 _ _ (x2 _ _ (off_of e1 nfd.1 nfd.2.1)), x2 _ _ e2, D2, x1.trans x2⟩ ?_ ?_⟩⟩
    · rintro i σ H3 hi ⟨x5, x6, tb', rfl, hT', f1, f2, D3, x3⟩
      -- dot = _law_pick(draw, some)
      refine ⟨.ref d, rfl, .ref so, rfl, d, g, c, so, ws.map V.str, rfl, D3, Evl.sq_of f2, by rw [List.length_map]; omega, by rw [List.length_map]; omega, fun j v H4 hv D4 x4 => ?_⟩
      obtain ⟨z, hz, rfl⟩ := str_at hv
      have g1 : H4 fd0 = some (.dK (tkv tb')) := ex_off d g H4 _ _ (x4 _ _ (off_of f1 nfd.1 nfd.2.1))
      have g2 := x4 _ _ f2
      have g2' := off_some g2
      -- the places
      refine ⟨.ref d, rfl, .ref so, rfl, so, rfl, ⟨_, Evl.sq_of g2'.2.2⟩, fun sp hsp => lc_list (K := K) (a := so) (xs := ws.map V.str)
        (fun j H' => H' = upd H4 sp (.lst (((ws.take j).filter fun y => decide (y ≠ z)).map V.str))) rfl (fun j H' _ h => by rw [h]; exact Evl.ex_l (Evl.Ex.new hsp) (Evl.sq_of g2'.2.2)) ?_ ?_⟩
      · rintro j x H5 hj rfl
        obtain ⟨y, hy, rfl⟩ := str_at hj
        have hjl : j < ws.length := (List.getElem?_eq_some_iff.mp hy).1
        have et : ws.take (j + 1) = ws.take j ++ [y] := by rw [List.take_add_one, hy]; rfl
        refine ⟨rfl, .str y, rfl, .str z, rfl, rfl, _, rfl, ?_⟩
        by_cases q : y = z
        · subst q
          refine iteNS rfl ?_
          show upd H4 sp _ = _
          rw [et, List.filter_append, List.filter_cons_of_neg (by simp), List.filter_nil, List.append_nil]
        · have hq : decide (V.str y = V.str z) = false := decide_eq_false fun w => q (V.str.inj w)
          rw [hq]
          refine iteT ?_
          refine ⟨.str y, rfl, _, upd_same, ?_, ?_⟩
          · rw [List.length_map]
            refine small1000 (Nat.le_trans (List.length_filter_le _ _) ?_)
            rw [List.length_take]
            omega
          · show upd (upd H4 sp _) sp _ = _
            rw [upd_upd, et, List.filter_append, List.filter_cons_of_pos (by simp [q]), List.filter_nil, List.map_append]
            rfl
      · rintro H5 rfl
        rw [List.length_map, List.take_length]
        have hfl : (ws.filter fun y => decide (y ≠ z)).length ≤ 10 := Nat.le_trans (List.length_filter_le _ _) (by omega)
        have esp : (upd H4 sp (.lst ((ws.filter fun y => decide (y ≠ z)).map V.str))) sp = some (.lst ((ws.filter fun y => decide (y ≠ z)).map V.str)) := upd_same
        have x5' : Evl.Ex H4 (upd H4 sp (.lst ((ws.filter fun y => decide (y ≠ z)).map V.str))) := Evl.Ex.new hsp
        generalize upd H4 sp (.lst ((ws.filter fun y => decide (y ≠ z)).map V.str)) = H5 at esp x5'
        refine ⟨.str e, rfl, by show 1 ≤ sizeLine; decide, fun q hq => ?_⟩
        have npq : sp ≠ q := ne_of_none esp hq
        refine ⟨sp, q, _, _, rfl, rfl, by rw [upd_ne npq]; exact esp, upd_same, ?_, fun r hr0 => ?_⟩
        · rw [List.length_map]
          exact Nat.le_of_lt (small1000 (by show _ + 1 ≤ 1000; omega))
        have x6' := (x5'.trans (Evl.Ex.new (o := .lst [.str e]) hq)).trans (Evl.Ex.new (o := .lst ((ws.filter fun y => decide (y ≠ z)).map V.str ++ [.str e])) hr0)
        have D6 := D4.ext x6'
        have nr := ((D4.ext x5').new hq).ned hr0
        refine ⟨d, g, c, r, _, rfl, D6, Evl.sq_of (off_of upd_same nr.1 nr.2.1), ?_, ?_, fun j v H7 hv D7 x7 => ?_⟩
        · rw [List.length_append]
          exact Nat.lt_of_lt_of_le (by decide : 0 < 1) (Nat.le_add_left _ _)
        · rw [List.length_append, List.length_map]
          show _ + 1 < _
          omega
        have hpl : PlaceOk zs e z v := by
          rcases List.mem_append.mp (List.mem_of_getElem? hv) with hm | hm
          · obtain ⟨y, hy, rfl⟩ := List.mem_map.mp hm
            have := List.mem_filter.mp hy
            exact .inr (.inr ⟨y, hwz.subset this.1, of_decide_eq_true this.2, rfl⟩)
          · rw [List.mem_singleton.mp hm]
            exact .inr (.inl rfl)
        have x8 := (off_ex (d := d) (g := g) x6').trans x7
        have k1 : H7 fd0 = some (.dK (tkv tb')) := ex_off d g H7 _ _ (x8 _ _ (off_of g1 nfd.1 nfd.2.1))
        have k2 := off_some (x8 _ _ g2)
        have tl : tb'.length = zs.length := by rw [← hT'.ks.length_eq, List.length_map]
        refine ⟨.ref fd0, rfl, .str z, rfl, fd0, _, rfl, DPut.k (k := Sum.inr z) k1 (by rw [tkv_len]; exact small1000 (by omega)), ?_⟩
        rw [tkv_old (hT'.ks.mem_iff.mpr (hwz.subset (List.mem_of_getElem? hz)))]
        exact ⟨_, _, _, rfl, hT'.put hpl, upd_same, off_of (by rw [upd_ne nfs.symm]; exact k2.2.2) k2.1 k2.2.1, D7.mut nfd.1 nfd.2.1 nfd.2.2, off_mut ((x3.trans x4).trans x8) (off_free hfd)⟩
    · rintro σ H3 ⟨x5, x6, tb', rfl, hT', f1, f2, D3, x3⟩
      exact ⟨.ref fd0, rfl, k fd0 tb' H3 hT' D3 x3 hfd (off_of f1 nfd.1 nfd.2.1)⟩
end
end Rw
end T_B7

section T_B8
set_option Elab.async false
set_option linter.all false
set_option maxRecDepth 100000
set_option maxHeartbeats 4000000
namespace Rw
open PySem L2 PyProof.Rows
section
variable {P : Program} {w : World} {K : PySem.W.Frag} {mg : Str → Option Value} {base : Heap}
abbrev nPair : List Str := ["draw", "some", "end", "sort", "old"]
theorem sc_pair : FnScope nPair ["draw", "some", "end"] (defScope s_pair) := ⟨rfl, rfl, rfl, by decide +kernel, rfl, by decide +kernel, by decide +kernel⟩
theorem ok_pair {f fT f1 f2 f3 f4 : Addr} {fd fdT fd1 fd2 fd3 fd4 : FuncData} (F : Fun K "_law_pair" "_law_pair" s_pair f fd)
    (T : FnOk P w K mg base CX0 2 fT fdT ["draw", "size"] spTake) (kT : PySem.W.keepIn K (.ref fT) = true) (bT : Binds K fdT ["draw", "size"] []) (gT : mg "_law_take" = some (.ref fT))
    (T1 : FnOk P w K mg base CX0 4 f1 fd1 ["draw", "some", "end"] (spTab K)) (k1 : PySem.W.keepIn K (.ref f1) = true) (b1 : Binds K fd1 ["draw", "some", "end"] []) (g1 : mg "_law_tree" = some (.ref f1))
    (T2 : FnOk P w K mg base CX0 4 f2 fd2 ["draw", "some", "end"] (spTab K)) (k2 : PySem.W.keepIn K (.ref f2) = true) (b2 : Binds K fd2 ["draw", "some", "end"] []) (g2 : mg "_law_path" = some (.ref f2))
    (T3 : FnOk P w K mg base CX0 4 f3 fd3 ["draw", "some", "end"] (spTab K)) (k3 : PySem.W.keepIn K (.ref f3) = true) (b3 : Binds K fd3 ["draw", "some", "end"] []) (g3 : mg "_law_wild" = some (.ref f3))
    (T4 : FnOk P w K mg base CX0 4 f4 fd4 ["draw", "table", "end"] (spNear K)) (k4 : PySem.W.keepIn K (.ref f4) = true) (b4 : Binds K fd4 ["draw", "table", "end"] []) (g4 : mg "_law_near" = some (.ref f4)) :
    FnOk P w K mg base CX0 5 f fd ["draw", "some", "end"] (spPair K) := by
  refine F.ok sc_pair (fun vs H Q E h => ?_) (fun cdv A outer s H vs Q E hr h => ?_)
  · obtain ⟨d, g, c, a, zs, e, rfl, _⟩ := h
    rfl
  · obtain ⟨d, g, c, a, zs, e, rfl, D, hS, hnd, hnm, he, hez, h0, hzl, k⟩ := h
    have nd := sc_pair.nd
    have hu := hu_of hr
    have hr2 : Room 2 _ := hr.mono (by decide)
    have a3 : ∀ {X : Cx}, True := trivial
    refine ⟨_, pss_cons (ps_set (i := 3) nd rfl (.inl rfl) (pe_call T hr2 rfl gT kT bT .nil pass0 (pa_cons (pv 0) (pa_cons pe_int pa_nil))))
      (pss_cons (ps_if (pt_cmpR op_lt (pv 3) pe_int (nomark _)) (pss_one (ps_ret (pe_tup (pa_cons (pe_call T1 hr rfl g1 k1 b1 .nil pass0 (pa_cons (pv 0) (pa_cons (pv 1) (pa_cons (pv 2) pa_nil)))) (pa_cons (pe_call T1 hr rfl g1 k1 b1 .nil pass0 (pa_cons (pv 0) (pa_cons (pv 1) (pa_cons (pv 2) pa_nil)))) pa_nil))))) pss_nil)
      (pss_cons (ps_if (pt_cmpR op_eq (pv 3) pe_int (nomark _)) (pss_one (ps_ret (pe_tup (pa_cons (pe_call T2 hr rfl g2 k2 b2 .nil pass0 (pa_cons (pv 0) (pa_cons (pv 1) (pa_cons (pv 2) pa_nil)))) (pa_cons (pe_call T2 hr rfl g2 k2 b2 .nil pass0 (pa_cons (pv 0) (pa_cons (pv 1) (pa_cons (pv 2) pa_nil)))) pa_nil))))) pss_nil)
      (pss_cons (ps_set (i := 4) nd rfl (.inl rfl) (pe_ifExp (pt_cmpR op_eq (pv 3) pe_int (nomark _)) (pe_call T1 hr rfl g1 k1 b1 .nil pass0 (pa_cons (pv 0) (pa_cons (pv 1) (pa_cons (pv 2) pa_nil)))) (pe_call T3 hr rfl g3 k3 b3 .nil pass0 (pa_cons (pv 0) (pa_cons (pv 1) (pa_cons (pv 2) pa_nil))))))
      (pss_one (ps_ret (pe_tup (pa_cons (pv 4) (pa_cons (pe_ifExp (pt_cmpR op_eq (pv 3) pe_int (nomark _)) (pe_call T4 hr rfl g4 k4 b4 .nil pass0 (pa_cons (pv 0) (pa_cons (pv 4) (pa_cons (pv 2) pa_nil)))) (pe_call T3 hr rfl g3 k3 b3 .nil pass0 (pa_cons (pv 0) (pa_cons (pv 1) (pa_cons (pv 2) pa_nil))))) pa_nil)))))))), ?_⟩
    -- a pair of two new tables
    have fin : ∀ {H1 H2 H3 : Hp} {p1 p2 : Addr} {t1 t2 : List (Str × V)}, Evl.Ex (off d g H) (off d g H2) → Evl.Ex (off d g H2) (off d g H3) → off d g H2 p1 = some (.dK (tkv t1)) → off d g H3 p2 = some (.dK (tkv t2)) → TabOk zs e t1 → TabOk zs e t2 → DrawAt H3 d g c → H p1 = none → H p2 = none →
        ∀ p, H3 p = none → Q (.ref p) (upd H3 p (.tup [.ref p1, .ref p2])) := fun {H1 H2 H3 p1 p2 t1 t2} x1 x2 q1 q2 o1 o2 D3 f1 f2 p hp => by
      have np := D3.ned hp
      have x3 := off_ex (d := d) (g := g) (Evl.Ex.new (o := .tup [.ref p1, .ref p2]) hp)
      exact k p p1 p2 t1 t2 _ (D3.new hp) ((x1.trans x2).trans x3) ⟨off_of upd_same np.1 np.2.1, x3 _ _ (x2 _ _ q1), x3 _ _ q2, o1, o2⟩ (ex_free (x1.trans x2) np.1 np.2.1 hp) f1 f2
    refine ⟨.ref d, rfl, d, g, c, 6, rfl, by decide, by decide, D, fun n H1 n0 n1 D1 x1 => ?_⟩
    refine ⟨_, rfl, n, 3, rfl, rfl, _, rfl, ite2 (fun _ => ?_) (fun _ => ?_)⟩
    · refine ⟨.ref d, rfl, .ref a, rfl, .str e, rfl, d, g, c, a, zs, e, rfl, D1, Evl.ex_l x1 hS, hnd, hnm, he, hez, hzl, fun p1 t1 H2 o1 D2 x2 w1 q1 => ?_⟩
      refine ⟨.ref d, rfl, .ref a, rfl, .str e, rfl, d, g, c, a, zs, e, rfl, D2, Evl.ex_l (x1.trans x2) hS, hnd, hnm, he, hez, hzl, fun p2 t2 H3 o2 D3 x3 w2 q2 => ⟨by show 2 ≤ sizeLine; decide, fin (H1 := H1) (x1.trans x2) x3 q1 q2 o1 o2 D3 (ex_free x1 (off_some q1).1 (off_some q1).2.1 w1) (ex_free (x1.trans x2) (off_some q2).1 (off_some q2).2.1 w2)⟩⟩
    · refine ⟨_, rfl, rfl, _, rfl, ite2 (fun _ => ?_) (fun _ => ?_)⟩
      · refine ⟨.ref d, rfl, .ref a, rfl, .str e, rfl, d, g, c, a, zs, e, rfl, D1, Evl.ex_l x1 hS, hnd, hnm, he, hez, hzl, fun p1 t1 H2 o1 D2 x2 w1 q1 => ?_⟩
        refine ⟨.ref d, rfl, .ref a, rfl, .str e, rfl, d, g, c, a, zs, e, rfl, D2, Evl.ex_l (x1.trans x2) hS, hnd, hnm, he, hez, hzl, fun p2 t2 H3 o2 D3 x3 w2 q2 => ⟨by show 2 ≤ sizeLine; decide, fin (H1 := H1) (x1.trans x2) x3 q1 q2 o1 o2 D3 (ex_free x1 (off_some q1).1 (off_some q1).2.1 w1) (ex_free (x1.trans x2) (off_some q2).1 (off_some q2).2.1 w2)⟩⟩
      · refine ⟨_, rfl, rfl, _, rfl, ite2 (fun h4 => ?_) (fun h4 => ?_)⟩
        · refine ⟨.ref d, rfl, .ref a, rfl, .str e, rfl, d, g, c, a, zs, e, rfl, D1, Evl.ex_l x1 hS, hnd, hnm, he, hez, hzl, fun p1 t1 H2 o1 D2 x2 w1 q1 => ?_⟩
          refine ⟨_, rfl, _, rfl, rfl, _, rfl, ite2 (fun _ => ?_) (fun h5 => absurd h4 h5)⟩
          refine ⟨.ref d, rfl, .ref p1, rfl, .str e, rfl, d, g, c, p1, zs, e, t1, rfl, D2, q1, o1, hnd, h0, hzl, fun p2 t2 H3 o2 D3 x3 w2 q2 => ⟨by show 2 ≤ sizeLine; decide, fin (H1 := H1) (x1.trans x2) x3 q1 q2 o1 o2 D3 (ex_free x1 (off_some q1).1 (off_some q1).2.1 w1) (ex_free (x1.trans x2) (off_some q2).1 (off_some q2).2.1 w2)⟩⟩
        · refine ⟨.ref d, rfl, .ref a, rfl, .str e, rfl, d, g, c, a, zs, e, rfl, D1, Evl.ex_l x1 hS, hnd, hnm, he, hez, hzl, fun p1 t1 H2 o1 D2 x2 w1 q1 => ?_⟩
          refine ⟨_, rfl, _, rfl, rfl, _, rfl, ite2 (fun h5 => absurd h5 h4) (fun _ => ?_)⟩
          refine ⟨.ref d, rfl, .ref a, rfl, .str e, rfl, d, g, c, a, zs, e, rfl, D2, Evl.ex_l (x1.trans x2) hS, hnd, hnm, he, hez, hzl, fun p2 t2 H3 o2 D3 x3 w2 q2 => ⟨by show 2 ≤ sizeLine; decide, fin (H1 := H1) (x1.trans x2) x3 q1 q2 o1 o2 D3 (ex_free x1 (off_some q1).1 (off_some q1).2.1 w1) (ex_free (x1.trans x2) (off_some q2).1 (off_some q2).2.1 w2)⟩⟩
end
end Rw
end T_B8

section T_Z0
set_option Elab.async false
set_option linter.all false
set_option maxRecDepth 100000
set_option maxHeartbeats 8000000
namespace Rw
open PySem L2 PyProof.Rows
theorem all_mk {P : Program} {w : World} {K : PySem.W.Frag} {h : Heap} {mg : Str → Option Value} {fa : Addr} (X : K.In h) (G : h.Ns mainGlobals mg) (hfa : mg "law" = some (.ref fa))
    {cc Pt Wa : Addr} {odW : Option Addr} {slW : Array (Option Value)} {nW : Nat} {tw1 tw2 tw3 tw4 : Tok}
    {C fI TI q1 q2 : Addr} {odI anI odT : Option Addr} {slI slT : Array (Option Value)} {ocI kVI dcI pmI cdI ctI ocT : Value} {nT : Nat}
    {f_s_begin : Addr} {od_s_begin an_s_begin : Option Addr} {sl_s_begin : Array (Option Value)} {oc_s_begin kV_s_begin dc_s_begin pm_s_begin cd_s_begin ct_s_begin : Value}
    {f_s_blend : Addr} {od_s_blend an_s_blend : Option Addr} {sl_s_blend : Array (Option Value)} {oc_s_blend kV_s_blend dc_s_blend pm_s_blend cd_s_blend ct_s_blend : Value}
    {f_s_take : Addr} {od_s_take an_s_take : Option Addr} {sl_s_take : Array (Option Value)} {oc_s_take kV_s_take dc_s_take pm_s_take cd_s_take ct_s_take : Value}
    {f_s_pick : Addr} {od_s_pick an_s_pick : Option Addr} {sl_s_pick : Array (Option Value)} {oc_s_pick kV_s_pick dc_s_pick pm_s_pick cd_s_pick ct_s_pick : Value}
    {f_s_mixed : Addr} {od_s_mixed an_s_mixed : Option Addr} {sl_s_mixed : Array (Option Value)} {oc_s_mixed kV_s_mixed dc_s_mixed pm_s_mixed cd_s_mixed ct_s_mixed : Value}
    {f_s_words : Addr} {od_s_words an_s_words : Option Addr} {sl_s_words : Array (Option Value)} {oc_s_words kV_s_words dc_s_words pm_s_words cd_s_words ct_s_words : Value}
    {f_s_tree : Addr} {od_s_tree an_s_tree : Option Addr} {sl_s_tree : Array (Option Value)} {oc_s_tree kV_s_tree dc_s_tree pm_s_tree cd_s_tree ct_s_tree : Value}
    {f_s_path : Addr} {od_s_path an_s_path : Option Addr} {sl_s_path : Array (Option Value)} {oc_s_path kV_s_path dc_s_path pm_s_path cd_s_path ct_s_path : Value}
    {f_s_wild : Addr} {od_s_wild an_s_wild : Option Addr} {sl_s_wild : Array (Option Value)} {oc_s_wild kV_s_wild dc_s_wild pm_s_wild cd_s_wild ct_s_wild : Value}
    {f_s_near : Addr} {od_s_near an_s_near : Option Addr} {sl_s_near : Array (Option Value)} {oc_s_near kV_s_near dc_s_near pm_s_near cd_s_near ct_s_near : Value}
    {f_s_pair : Addr} {od_s_pair an_s_pair : Option Addr} {sl_s_pair : Array (Option Value)} {oc_s_pair kV_s_pair dc_s_pair pm_s_pair cd_s_pair ct_s_pair : Value}
    {f_s_model : Addr} {od_s_model an_s_model : Option Addr} {sl_s_model : Array (Option Value)} {oc_s_model kV_s_model dc_s_model pm_s_model cd_s_model ct_s_model : Value}
    {f_s_net : Addr} {od_s_net an_s_net : Option Addr} {sl_s_net : Array (Option Value)} {oc_s_net kV_s_net dc_s_net pm_s_net cd_s_net ct_s_net : Value}
    {f_s_moving_dots : Addr} {od_s_moving_dots an_s_moving_dots : Option Addr} {sl_s_moving_dots : Array (Option Value)} {oc_s_moving_dots kV_s_moving_dots dc_s_moving_dots pm_s_moving_dots cd_s_moving_dots ct_s_moving_dots : Value}
    {f_s_now : Addr} {od_s_now an_s_now : Option Addr} {sl_s_now : Array (Option Value)} {oc_s_now kV_s_now dc_s_now pm_s_now cd_s_now ct_s_now : Value}
    {f_s_walk : Addr} {od_s_walk an_s_walk : Option Addr} {sl_s_walk : Array (Option Value)} {oc_s_walk kV_s_walk dc_s_walk pm_s_walk cd_s_walk ct_s_walk : Value}
    {f_s_lots : Addr} {od_s_lots an_s_lots : Option Addr} {sl_s_lots : Array (Option Value)} {oc_s_lots kV_s_lots dc_s_lots pm_s_lots cd_s_lots ct_s_lots : Value}
    {f_s_misses : Addr} {od_s_misses an_s_misses : Option Addr} {sl_s_misses : Array (Option Value)} {oc_s_misses kV_s_misses dc_s_misses pm_s_misses cd_s_misses ct_s_misses : Value}
    {f_s_breaks : Addr} {od_s_breaks an_s_breaks : Option Addr} {sl_s_breaks : Array (Option Value)} {oc_s_breaks kV_s_breaks dc_s_breaks pm_s_breaks cd_s_breaks ct_s_breaks : Value}
    {f_s_sorts : Addr} {od_s_sorts an_s_sorts : Option Addr} {sl_s_sorts : Array (Option Value)} {oc_s_sorts kV_s_sorts dc_s_sorts pm_s_sorts cd_s_sorts ct_s_sorts : Value}
    {f_s_join : Addr} {od_s_join an_s_join : Option Addr} {sl_s_join : Array (Option Value)} {oc_s_join kV_s_join dc_s_join pm_s_join cd_s_join ct_s_join : Value}
    {f_s_bad : Addr} {od_s_bad an_s_bad : Option Addr} {sl_s_bad : Array (Option Value)} {oc_s_bad kV_s_bad dc_s_bad pm_s_bad cd_s_bad ct_s_bad : Value}
    {f_s_stands : Addr} {od_s_stands an_s_stands : Option Addr} {sl_s_stands : Array (Option Value)} {oc_s_stands kV_s_stands dc_s_stands pm_s_stands cd_s_stands ct_s_stands : Value}
    {f_s_fewest : Addr} {od_s_fewest an_s_fewest : Option Addr} {sl_s_fewest : Array (Option Value)} {oc_s_fewest kV_s_fewest dc_s_fewest pm_s_fewest cd_s_fewest ct_s_fewest : Value}
    {f_s_wants : Addr} {od_s_wants an_s_wants : Option Addr} {sl_s_wants : Array (Option Value)} {oc_s_wants kV_s_wants dc_s_wants pm_s_wants cd_s_wants ct_s_wants : Value}
    {f_s_all_costs : Addr} {od_s_all_costs an_s_all_costs : Option Addr} {sl_s_all_costs : Array (Option Value)} {oc_s_all_costs kV_s_all_costs dc_s_all_costs pm_s_all_costs cd_s_all_costs ct_s_all_costs : Value}
    {f_s_right : Addr} {od_s_right an_s_right : Option Addr} {sl_s_right : Array (Option Value)} {oc_s_right kV_s_right dc_s_right pm_s_right cd_s_right ct_s_right : Value}
    {f_p_is_list : Addr} {od_p_is_list an_p_is_list : Option Addr} {sl_p_is_list : Array (Option Value)} {oc_p_is_list kV_p_is_list dc_p_is_list pm_p_is_list cd_p_is_list ct_p_is_list : Value}
    {f_p_is_name : Addr} {od_p_is_name an_p_is_name : Option Addr} {sl_p_is_name : Array (Option Value)} {oc_p_is_name kV_p_is_name dc_p_is_name pm_p_is_name cd_p_is_name ct_p_is_name : Value}
    {f_p_is_place : Addr} {od_p_is_place an_p_is_place : Option Addr} {sl_p_is_place : Array (Option Value)} {oc_p_is_place kV_p_is_place dc_p_is_place pm_p_is_place cd_p_is_place ct_p_is_place : Value}
    {f_p_is_table : Addr} {od_p_is_table an_p_is_table : Option Addr} {sl_p_is_table : Array (Option Value)} {oc_p_is_table kV_p_is_table dc_p_is_table pm_p_is_table cd_p_is_table ct_p_is_table : Value}
    {f_p_are_different : Addr} {od_p_are_different an_p_are_different : Option Addr} {sl_p_are_different : Array (Option Value)} {oc_p_are_different kV_p_are_different dc_p_are_different pm_p_are_different cd_p_are_different ct_p_are_different : Value}
    {f_p_are_nodes : Addr} {od_p_are_nodes an_p_are_nodes : Option Addr} {sl_p_are_nodes : Array (Option Value)} {oc_p_are_nodes kV_p_are_nodes dc_p_are_nodes pm_p_are_nodes cd_p_are_nodes ct_p_are_nodes : Value}
    {f_p_is_pair_of_dicts : Addr} {od_p_is_pair_of_dicts an_p_is_pair_of_dicts : Option Addr} {sl_p_is_pair_of_dicts : Array (Option Value)} {oc_p_is_pair_of_dicts kV_p_is_pair_of_dicts dc_p_is_pair_of_dicts pm_p_is_pair_of_dicts cd_p_is_pair_of_dicts ct_p_is_pair_of_dicts : Value}
    {f_p_are_tables : Addr} {od_p_are_tables an_p_are_tables : Option Addr} {sl_p_are_tables : Array (Option Value)} {oc_p_are_tables kV_p_are_tables dc_p_are_tables pm_p_are_tables cd_p_are_tables ct_p_are_tables : Value}
    {f_p_check_net : Addr} {od_p_check_net an_p_check_net : Option Addr} {sl_p_check_net : Array (Option Value)} {oc_p_check_net kV_p_check_net dc_p_check_net pm_p_check_net cd_p_check_net ct_p_check_net : Value}
    {f_p_check_goal : Addr} {od_p_check_goal an_p_check_goal : Option Addr} {sl_p_check_goal : Array (Option Value)} {oc_p_check_goal kV_p_check_goal dc_p_check_goal pm_p_check_goal cd_p_check_goal ct_p_check_goal : Value}
    {f_g_goals : Addr} {od_g_goals an_g_goals : Option Addr} {sl_g_goals : Array (Option Value)} {oc_g_goals kV_g_goals dc_g_goals pm_g_goals cd_g_goals ct_g_goals : Value}
    {p_g_goals : Addr} {r_g_goals : List Value}
    {f_g_nodes : Addr} {od_g_nodes an_g_nodes : Option Addr} {sl_g_nodes : Array (Option Value)} {oc_g_nodes kV_g_nodes dc_g_nodes pm_g_nodes cd_g_nodes ct_g_nodes : Value}
    {p_g_nodes : Addr} {r_g_nodes : List Value}
    {f_g_changing : Addr} {od_g_changing an_g_changing : Option Addr} {sl_g_changing : Array (Option Value)} {oc_g_changing kV_g_changing dc_g_changing pm_g_changing cd_g_changing ct_g_changing : Value}
    {p_g_changing : Addr} {r_g_changing : List Value}
    {f_p_check_node : Addr} {od_p_check_node an_p_check_node : Option Addr} {sl_p_check_node : Array (Option Value)} {oc_p_check_node kV_p_check_node dc_p_check_node pm_p_check_node cd_p_check_node ct_p_check_node : Value}
    {f_p_followed : Addr} {od_p_followed an_p_followed : Option Addr} {sl_p_followed : Array (Option Value)} {oc_p_followed kV_p_followed dc_p_followed pm_p_followed cd_p_followed ct_p_followed : Value}
    {f_p_ways_at : Addr} {od_p_ways_at an_p_ways_at : Option Addr} {sl_p_ways_at : Array (Option Value)} {oc_p_ways_at kV_p_ways_at dc_p_ways_at pm_p_ways_at cd_p_ways_at ct_p_ways_at : Value}
    {f_p_joined : Addr} {od_p_joined an_p_joined : Option Addr} {sl_p_joined : Array (Option Value)} {oc_p_joined kV_p_joined dc_p_joined pm_p_joined cd_p_joined ct_p_joined : Value}
    {f_p_parts_of : Addr} {od_p_parts_of an_p_parts_of : Option Addr} {sl_p_parts_of : Array (Option Value)} {oc_p_parts_of kV_p_parts_of dc_p_parts_of pm_p_parts_of ct_p_parts_of : Value}
    {f_p_starts : Addr} {od_p_starts an_p_starts : Option Addr} {sl_p_starts : Array (Option Value)} {oc_p_starts kV_p_starts dc_p_starts pm_p_starts cd_p_starts ct_p_starts : Value}
    {f_p_breaks : Addr} {od_p_breaks an_p_breaks : Option Addr} {sl_p_breaks : Array (Option Value)} {oc_p_breaks kV_p_breaks dc_p_breaks pm_p_breaks cd_p_breaks ct_p_breaks : Value}
    {f_p_posts_passed : Addr} {od_p_posts_passed an_p_posts_passed : Option Addr} {sl_p_posts_passed : Array (Option Value)} {oc_p_posts_passed kV_p_posts_passed dc_p_posts_passed pm_p_posts_passed cd_p_posts_passed ct_p_posts_passed : Value}
    {f_p_passed_with : Addr} {od_p_passed_with an_p_passed_with : Option Addr} {sl_p_passed_with : Array (Option Value)} {oc_p_passed_with kV_p_passed_with dc_p_passed_with pm_p_passed_with cd_p_passed_with ct_p_passed_with : Value}
    {f_p_fault_at : Addr} {od_p_fault_at an_p_fault_at : Option Addr} {sl_p_fault_at : Array (Option Value)} {oc_p_fault_at kV_p_fault_at dc_p_fault_at pm_p_fault_at cd_p_fault_at ct_p_fault_at : Value}
    {f_p_check_wishes : Addr} {od_p_check_wishes an_p_check_wishes : Option Addr} {sl_p_check_wishes : Array (Option Value)} {oc_p_check_wishes kV_p_check_wishes dc_p_check_wishes pm_p_check_wishes cd_p_check_wishes ct_p_check_wishes : Value}
    {f_p_broken_moments : Addr} {od_p_broken_moments an_p_broken_moments : Option Addr} {sl_p_broken_moments : Array (Option Value)} {oc_p_broken_moments kV_p_broken_moments dc_p_broken_moments pm_p_broken_moments cd_p_broken_moments ct_p_broken_moments : Value}
    {f_p_moments_to_avoid : Addr} {od_p_moments_to_avoid an_p_moments_to_avoid : Option Addr} {sl_p_moments_to_avoid : Array (Option Value)} {oc_p_moments_to_avoid kV_p_moments_to_avoid dc_p_moments_to_avoid pm_p_moments_to_avoid cd_p_moments_to_avoid ct_p_moments_to_avoid : Value}
    {f_p_safe_rounds : Addr} {od_p_safe_rounds an_p_safe_rounds : Option Addr} {sl_p_safe_rounds : Array (Option Value)} {oc_p_safe_rounds kV_p_safe_rounds dc_p_safe_rounds pm_p_safe_rounds cd_p_safe_rounds ct_p_safe_rounds : Value}
    {f_p_round_numbers : Addr} {od_p_round_numbers an_p_round_numbers : Option Addr} {sl_p_round_numbers : Array (Option Value)} {oc_p_round_numbers kV_p_round_numbers dc_p_round_numbers pm_p_round_numbers cd_p_round_numbers ct_p_round_numbers : Value}
    {f_p_rounds_needed : Addr} {od_p_rounds_needed an_p_rounds_needed : Option Addr} {sl_p_rounds_needed : Array (Option Value)} {oc_p_rounds_needed kV_p_rounds_needed dc_p_rounds_needed pm_p_rounds_needed cd_p_rounds_needed ct_p_rounds_needed : Value}
    {f_p_needed : Addr} {od_p_needed an_p_needed : Option Addr} {sl_p_needed : Array (Option Value)} {oc_p_needed kV_p_needed dc_p_needed pm_p_needed cd_p_needed ct_p_needed : Value}
    {f_p_cost : Addr} {od_p_cost an_p_cost : Option Addr} {sl_p_cost : Array (Option Value)} {oc_p_cost kV_p_cost dc_p_cost pm_p_cost cd_p_cost ct_p_cost : Value}
    {f_p_costs : Addr} {od_p_costs an_p_costs : Option Addr} {sl_p_costs : Array (Option Value)} {oc_p_costs kV_p_costs dc_p_costs pm_p_costs cd_p_costs ct_p_costs : Value}
    {f_p_saved : Addr} {od_p_saved an_p_saved : Option Addr} {sl_p_saved : Array (Option Value)} {oc_p_saved kV_p_saved dc_p_saved pm_p_saved cd_p_saved ct_p_saved : Value}
    {f_g_tables : Addr} {od_g_tables an_g_tables : Option Addr} {sl_g_tables : Array (Option Value)} {oc_g_tables kV_g_tables dc_g_tables pm_g_tables cd_g_tables ct_g_tables : Value}
    {p_g_tables : Addr} {r_g_tables : List Value}
    {f_g_sources : Addr} {od_g_sources an_g_sources : Option Addr} {sl_g_sources : Array (Option Value)} {oc_g_sources kV_g_sources dc_g_sources pm_g_sources cd_g_sources ct_g_sources : Value}
    {p_g_sources : Addr} {r_g_sources : List Value}
    {f_g_posts : Addr} {od_g_posts an_g_posts : Option Addr} {sl_g_posts : Array (Option Value)} {oc_g_posts kV_g_posts dc_g_posts pm_g_posts cd_g_posts ct_g_posts : Value}
    {p_g_posts : Addr} {r_g_posts : List Value}
    {f_law : Addr} {od_law an_law : Option Addr} {sl_law : Array (Option Value)} {oc_law kV_law dc_law pm_law cd_law ct_law : Value}
    {t_MOST_POSTS : Tok}
    {t_MOST_NODES : Tok}
    {t_MOST_GOALS : Tok}
    {t_MOST_LETTERS : Tok}
    (aC : PySem.W.nsIn K mainGlobals "Net" = some (some (.ref C)))
    (a_s_begin : PySem.W.nsIn K mainGlobals "_law_begin" = some (some (.ref f_s_begin)))
    (l_s_begin : K.lookup f_s_begin = some ⟨oc_s_begin, od_s_begin, .func (PySem.W.fnOf "_law_begin" "_law_begin" (defArgs s_begin) (defBody s_begin) (defScope s_begin) .none kV_s_begin dc_s_begin pm_s_begin an_s_begin cd_s_begin ct_s_begin), sl_s_begin⟩)
    (c_s_begin : PySem.W.codeIn K cd_s_begin "_law_begin" = true)
    (k_s_begin : PySem.W.keepIn K (.ref f_s_begin) = true)
    (a_s_blend : PySem.W.nsIn K mainGlobals "_law_blend" = some (some (.ref f_s_blend)))
    (l_s_blend : K.lookup f_s_blend = some ⟨oc_s_blend, od_s_blend, .func (PySem.W.fnOf "_law_blend" "_law_blend" (defArgs s_blend) (defBody s_blend) (defScope s_blend) .none kV_s_blend dc_s_blend pm_s_blend an_s_blend cd_s_blend ct_s_blend), sl_s_blend⟩)
    (c_s_blend : PySem.W.codeIn K cd_s_blend "_law_blend" = true)
    (k_s_blend : PySem.W.keepIn K (.ref f_s_blend) = true)
    (a_s_take : PySem.W.nsIn K mainGlobals "_law_take" = some (some (.ref f_s_take)))
    (l_s_take : K.lookup f_s_take = some ⟨oc_s_take, od_s_take, .func (PySem.W.fnOf "_law_take" "_law_take" (defArgs s_take) (defBody s_take) (defScope s_take) .none kV_s_take dc_s_take pm_s_take an_s_take cd_s_take ct_s_take), sl_s_take⟩)
    (c_s_take : PySem.W.codeIn K cd_s_take "_law_take" = true)
    (k_s_take : PySem.W.keepIn K (.ref f_s_take) = true)
    (a_s_pick : PySem.W.nsIn K mainGlobals "_law_pick" = some (some (.ref f_s_pick)))
    (l_s_pick : K.lookup f_s_pick = some ⟨oc_s_pick, od_s_pick, .func (PySem.W.fnOf "_law_pick" "_law_pick" (defArgs s_pick) (defBody s_pick) (defScope s_pick) .none kV_s_pick dc_s_pick pm_s_pick an_s_pick cd_s_pick ct_s_pick), sl_s_pick⟩)
    (c_s_pick : PySem.W.codeIn K cd_s_pick "_law_pick" = true)
    (k_s_pick : PySem.W.keepIn K (.ref f_s_pick) = true)
    (a_s_mixed : PySem.W.nsIn K mainGlobals "_law_mixed" = some (some (.ref f_s_mixed)))
    (l_s_mixed : K.lookup f_s_mixed = some ⟨oc_s_mixed, od_s_mixed, .func (PySem.W.fnOf "_law_mixed" "_law_mixed" (defArgs s_mixed) (defBody s_mixed) (defScope s_mixed) .none kV_s_mixed dc_s_mixed pm_s_mixed an_s_mixed cd_s_mixed ct_s_mixed), sl_s_mixed⟩)
    (c_s_mixed : PySem.W.codeIn K cd_s_mixed "_law_mixed" = true)
    (k_s_mixed : PySem.W.keepIn K (.ref f_s_mixed) = true)
    (a_s_words : PySem.W.nsIn K mainGlobals "_law_words" = some (some (.ref f_s_words)))
    (l_s_words : K.lookup f_s_words = some ⟨oc_s_words, od_s_words, .func (PySem.W.fnOf "_law_words" "_law_words" (defArgs s_words) (defBody s_words) (defScope s_words) .none kV_s_words dc_s_words pm_s_words an_s_words cd_s_words ct_s_words), sl_s_words⟩)
    (c_s_words : PySem.W.codeIn K cd_s_words "_law_words" = true)
    (k_s_words : PySem.W.keepIn K (.ref f_s_words) = true)
    (a_s_tree : PySem.W.nsIn K mainGlobals "_law_tree" = some (some (.ref f_s_tree)))
    (l_s_tree : K.lookup f_s_tree = some ⟨oc_s_tree, od_s_tree, .func (PySem.W.fnOf "_law_tree" "_law_tree" (defArgs s_tree) (defBody s_tree) (defScope s_tree) .none kV_s_tree dc_s_tree pm_s_tree an_s_tree cd_s_tree ct_s_tree), sl_s_tree⟩)
    (c_s_tree : PySem.W.codeIn K cd_s_tree "_law_tree" = true)
    (k_s_tree : PySem.W.keepIn K (.ref f_s_tree) = true)
    (a_s_path : PySem.W.nsIn K mainGlobals "_law_path" = some (some (.ref f_s_path)))
    (l_s_path : K.lookup f_s_path = some ⟨oc_s_path, od_s_path, .func (PySem.W.fnOf "_law_path" "_law_path" (defArgs s_path) (defBody s_path) (defScope s_path) .none kV_s_path dc_s_path pm_s_path an_s_path cd_s_path ct_s_path), sl_s_path⟩)
    (c_s_path : PySem.W.codeIn K cd_s_path "_law_path" = true)
    (k_s_path : PySem.W.keepIn K (.ref f_s_path) = true)
    (a_s_wild : PySem.W.nsIn K mainGlobals "_law_wild" = some (some (.ref f_s_wild)))
    (l_s_wild : K.lookup f_s_wild = some ⟨oc_s_wild, od_s_wild, .func (PySem.W.fnOf "_law_wild" "_law_wild" (defArgs s_wild) (defBody s_wild) (defScope s_wild) .none kV_s_wild dc_s_wild pm_s_wild an_s_wild cd_s_wild ct_s_wild), sl_s_wild⟩)
    (c_s_wild : PySem.W.codeIn K cd_s_wild "_law_wild" = true)
    (k_s_wild : PySem.W.keepIn K (.ref f_s_wild) = true)
    (a_s_near : PySem.W.nsIn K mainGlobals "_law_near" = some (some (.ref f_s_near)))
    (l_s_near : K.lookup f_s_near = some ⟨oc_s_near, od_s_near, .func (PySem.W.fnOf "_law_near" "_law_near" (defArgs s_near) (defBody s_near) (defScope s_near) .none kV_s_near dc_s_near pm_s_near an_s_near cd_s_near ct_s_near), sl_s_near⟩)
    (c_s_near : PySem.W.codeIn K cd_s_near "_law_near" = true)
    (k_s_near : PySem.W.keepIn K (.ref f_s_near) = true)
    (a_s_pair : PySem.W.nsIn K mainGlobals "_law_pair" = some (some (.ref f_s_pair)))
    (l_s_pair : K.lookup f_s_pair = some ⟨oc_s_pair, od_s_pair, .func (PySem.W.fnOf "_law_pair" "_law_pair" (defArgs s_pair) (defBody s_pair) (defScope s_pair) .none kV_s_pair dc_s_pair pm_s_pair an_s_pair cd_s_pair ct_s_pair), sl_s_pair⟩)
    (c_s_pair : PySem.W.codeIn K cd_s_pair "_law_pair" = true)
    (k_s_pair : PySem.W.keepIn K (.ref f_s_pair) = true)
    (a_s_model : PySem.W.nsIn K mainGlobals "_law_model" = some (some (.ref f_s_model)))
    (l_s_model : K.lookup f_s_model = some ⟨oc_s_model, od_s_model, .func (PySem.W.fnOf "_law_model" "_law_model" (defArgs s_model) (defBody s_model) (defScope s_model) .none kV_s_model dc_s_model pm_s_model an_s_model cd_s_model ct_s_model), sl_s_model⟩)
    (c_s_model : PySem.W.codeIn K cd_s_model "_law_model" = true)
    (k_s_model : PySem.W.keepIn K (.ref f_s_model) = true)
    (a_s_net : PySem.W.nsIn K mainGlobals "_law_net" = some (some (.ref f_s_net)))
    (l_s_net : K.lookup f_s_net = some ⟨oc_s_net, od_s_net, .func (PySem.W.fnOf "_law_net" "_law_net" (defArgs s_net) (defBody s_net) (defScope s_net) .none kV_s_net dc_s_net pm_s_net an_s_net cd_s_net ct_s_net), sl_s_net⟩)
    (c_s_net : PySem.W.codeIn K cd_s_net "_law_net" = true)
    (k_s_net : PySem.W.keepIn K (.ref f_s_net) = true)
    (a_s_moving_dots : PySem.W.nsIn K mainGlobals "_law_moving_dots" = some (some (.ref f_s_moving_dots)))
    (l_s_moving_dots : K.lookup f_s_moving_dots = some ⟨oc_s_moving_dots, od_s_moving_dots, .func (PySem.W.fnOf "_law_moving_dots" "_law_moving_dots" (defArgs s_moving_dots) (defBody s_moving_dots) (defScope s_moving_dots) .none kV_s_moving_dots dc_s_moving_dots pm_s_moving_dots an_s_moving_dots cd_s_moving_dots ct_s_moving_dots), sl_s_moving_dots⟩)
    (c_s_moving_dots : PySem.W.codeIn K cd_s_moving_dots "_law_moving_dots" = true)
    (k_s_moving_dots : PySem.W.keepIn K (.ref f_s_moving_dots) = true)
    (a_s_now : PySem.W.nsIn K mainGlobals "_law_now" = some (some (.ref f_s_now)))
    (l_s_now : K.lookup f_s_now = some ⟨oc_s_now, od_s_now, .func (PySem.W.fnOf "_law_now" "_law_now" (defArgs s_now) (defBody s_now) (defScope s_now) .none kV_s_now dc_s_now pm_s_now an_s_now cd_s_now ct_s_now), sl_s_now⟩)
    (c_s_now : PySem.W.codeIn K cd_s_now "_law_now" = true)
    (k_s_now : PySem.W.keepIn K (.ref f_s_now) = true)
    (a_s_walk : PySem.W.nsIn K mainGlobals "_law_walk" = some (some (.ref f_s_walk)))
    (l_s_walk : K.lookup f_s_walk = some ⟨oc_s_walk, od_s_walk, .func (PySem.W.fnOf "_law_walk" "_law_walk" (defArgs s_walk) (defBody s_walk) (defScope s_walk) .none kV_s_walk dc_s_walk pm_s_walk an_s_walk cd_s_walk ct_s_walk), sl_s_walk⟩)
    (c_s_walk : PySem.W.codeIn K cd_s_walk "_law_walk" = true)
    (k_s_walk : PySem.W.keepIn K (.ref f_s_walk) = true)
    (a_s_lots : PySem.W.nsIn K mainGlobals "_law_lots" = some (some (.ref f_s_lots)))
    (l_s_lots : K.lookup f_s_lots = some ⟨oc_s_lots, od_s_lots, .func (PySem.W.fnOf "_law_lots" "_law_lots" (defArgs s_lots) (defBody s_lots) (defScope s_lots) .none kV_s_lots dc_s_lots pm_s_lots an_s_lots cd_s_lots ct_s_lots), sl_s_lots⟩)
    (c_s_lots : PySem.W.codeIn K cd_s_lots "_law_lots" = true)
    (k_s_lots : PySem.W.keepIn K (.ref f_s_lots) = true)
    (a_s_misses : PySem.W.nsIn K mainGlobals "_law_misses" = some (some (.ref f_s_misses)))
    (l_s_misses : K.lookup f_s_misses = some ⟨oc_s_misses, od_s_misses, .func (PySem.W.fnOf "_law_misses" "_law_misses" (defArgs s_misses) (defBody s_misses) (defScope s_misses) .none kV_s_misses dc_s_misses pm_s_misses an_s_misses cd_s_misses ct_s_misses), sl_s_misses⟩)
    (c_s_misses : PySem.W.codeIn K cd_s_misses "_law_misses" = true)
    (k_s_misses : PySem.W.keepIn K (.ref f_s_misses) = true)
    (a_s_breaks : PySem.W.nsIn K mainGlobals "_law_breaks" = some (some (.ref f_s_breaks)))
    (l_s_breaks : K.lookup f_s_breaks = some ⟨oc_s_breaks, od_s_breaks, .func (PySem.W.fnOf "_law_breaks" "_law_breaks" (defArgs s_breaks) (defBody s_breaks) (defScope s_breaks) .none kV_s_breaks dc_s_breaks pm_s_breaks an_s_breaks cd_s_breaks ct_s_breaks), sl_s_breaks⟩)
    (c_s_breaks : PySem.W.codeIn K cd_s_breaks "_law_breaks" = true)
    (k_s_breaks : PySem.W.keepIn K (.ref f_s_breaks) = true)
    (a_s_sorts : PySem.W.nsIn K mainGlobals "_law_sorts" = some (some (.ref f_s_sorts)))
    (l_s_sorts : K.lookup f_s_sorts = some ⟨oc_s_sorts, od_s_sorts, .func (PySem.W.fnOf "_law_sorts" "_law_sorts" (defArgs s_sorts) (defBody s_sorts) (defScope s_sorts) .none kV_s_sorts dc_s_sorts pm_s_sorts an_s_sorts cd_s_sorts ct_s_sorts), sl_s_sorts⟩)
    (c_s_sorts : PySem.W.codeIn K cd_s_sorts "_law_sorts" = true)
    (k_s_sorts : PySem.W.keepIn K (.ref f_s_sorts) = true)
    (a_s_join : PySem.W.nsIn K mainGlobals "_law_join" = some (some (.ref f_s_join)))
    (l_s_join : K.lookup f_s_join = some ⟨oc_s_join, od_s_join, .func (PySem.W.fnOf "_law_join" "_law_join" (defArgs s_join) (defBody s_join) (defScope s_join) .none kV_s_join dc_s_join pm_s_join an_s_join cd_s_join ct_s_join), sl_s_join⟩)
    (c_s_join : PySem.W.codeIn K cd_s_join "_law_join" = true)
    (k_s_join : PySem.W.keepIn K (.ref f_s_join) = true)
    (a_s_bad : PySem.W.nsIn K mainGlobals "_law_bad" = some (some (.ref f_s_bad)))
    (l_s_bad : K.lookup f_s_bad = some ⟨oc_s_bad, od_s_bad, .func (PySem.W.fnOf "_law_bad" "_law_bad" (defArgs s_bad) (defBody s_bad) (defScope s_bad) .none kV_s_bad dc_s_bad pm_s_bad an_s_bad cd_s_bad ct_s_bad), sl_s_bad⟩)
    (c_s_bad : PySem.W.codeIn K cd_s_bad "_law_bad" = true)
    (k_s_bad : PySem.W.keepIn K (.ref f_s_bad) = true)
    (a_s_stands : PySem.W.nsIn K mainGlobals "_law_stands" = some (some (.ref f_s_stands)))
    (l_s_stands : K.lookup f_s_stands = some ⟨oc_s_stands, od_s_stands, .func (PySem.W.fnOf "_law_stands" "_law_stands" (defArgs s_stands) (defBody s_stands) (defScope s_stands) .none kV_s_stands dc_s_stands pm_s_stands an_s_stands cd_s_stands ct_s_stands), sl_s_stands⟩)
    (c_s_stands : PySem.W.codeIn K cd_s_stands "_law_stands" = true)
    (k_s_stands : PySem.W.keepIn K (.ref f_s_stands) = true)
    (a_s_fewest : PySem.W.nsIn K mainGlobals "_law_fewest" = some (some (.ref f_s_fewest)))
    (l_s_fewest : K.lookup f_s_fewest = some ⟨oc_s_fewest, od_s_fewest, .func (PySem.W.fnOf "_law_fewest" "_law_fewest" (defArgs s_fewest) (defBody s_fewest) (defScope s_fewest) .none kV_s_fewest dc_s_fewest pm_s_fewest an_s_fewest cd_s_fewest ct_s_fewest), sl_s_fewest⟩)
    (c_s_fewest : PySem.W.codeIn K cd_s_fewest "_law_fewest" = true)
    (k_s_fewest : PySem.W.keepIn K (.ref f_s_fewest) = true)
    (a_s_wants : PySem.W.nsIn K mainGlobals "_law_wants" = some (some (.ref f_s_wants)))
    (l_s_wants : K.lookup f_s_wants = some ⟨oc_s_wants, od_s_wants, .func (PySem.W.fnOf "_law_wants" "_law_wants" (defArgs s_wants) (defBody s_wants) (defScope s_wants) .none kV_s_wants dc_s_wants pm_s_wants an_s_wants cd_s_wants ct_s_wants), sl_s_wants⟩)
    (c_s_wants : PySem.W.codeIn K cd_s_wants "_law_wants" = true)
    (k_s_wants : PySem.W.keepIn K (.ref f_s_wants) = true)
    (a_s_all_costs : PySem.W.nsIn K mainGlobals "_law_all_costs" = some (some (.ref f_s_all_costs)))
    (l_s_all_costs : K.lookup f_s_all_costs = some ⟨oc_s_all_costs, od_s_all_costs, .func (PySem.W.fnOf "_law_all_costs" "_law_all_costs" (defArgs s_all_costs) (defBody s_all_costs) (defScope s_all_costs) .none kV_s_all_costs dc_s_all_costs pm_s_all_costs an_s_all_costs cd_s_all_costs ct_s_all_costs), sl_s_all_costs⟩)
    (c_s_all_costs : PySem.W.codeIn K cd_s_all_costs "_law_all_costs" = true)
    (k_s_all_costs : PySem.W.keepIn K (.ref f_s_all_costs) = true)
    (a_s_right : PySem.W.nsIn K mainGlobals "_law_right" = some (some (.ref f_s_right)))
    (l_s_right : K.lookup f_s_right = some ⟨oc_s_right, od_s_right, .func (PySem.W.fnOf "_law_right" "_law_right" (defArgs s_right) (defBody s_right) (defScope s_right) .none kV_s_right dc_s_right pm_s_right an_s_right cd_s_right ct_s_right), sl_s_right⟩)
    (c_s_right : PySem.W.codeIn K cd_s_right "_law_right" = true)
    (k_s_right : PySem.W.keepIn K (.ref f_s_right) = true)
    (a_p_is_list : PySem.W.nsIn K mainGlobals "is_list" = some (some (.ref f_p_is_list)))
    (l_p_is_list : K.lookup f_p_is_list = some ⟨oc_p_is_list, od_p_is_list, .func (PySem.W.fnOf "is_list" "is_list" (defArgs p_is_list) (defBody p_is_list) (defScope p_is_list) .none kV_p_is_list dc_p_is_list pm_p_is_list an_p_is_list cd_p_is_list ct_p_is_list), sl_p_is_list⟩)
    (c_p_is_list : PySem.W.codeIn K cd_p_is_list "is_list" = true)
    (k_p_is_list : PySem.W.keepIn K (.ref f_p_is_list) = true)
    (a_p_is_name : PySem.W.nsIn K mainGlobals "is_name" = some (some (.ref f_p_is_name)))
    (l_p_is_name : K.lookup f_p_is_name = some ⟨oc_p_is_name, od_p_is_name, .func (PySem.W.fnOf "is_name" "is_name" (defArgs p_is_name) (defBody p_is_name) (defScope p_is_name) .none kV_p_is_name dc_p_is_name pm_p_is_name an_p_is_name cd_p_is_name ct_p_is_name), sl_p_is_name⟩)
    (c_p_is_name : PySem.W.codeIn K cd_p_is_name "is_name" = true)
    (k_p_is_name : PySem.W.keepIn K (.ref f_p_is_name) = true)
    (a_p_is_place : PySem.W.nsIn K mainGlobals "is_place" = some (some (.ref f_p_is_place)))
    (l_p_is_place : K.lookup f_p_is_place = some ⟨oc_p_is_place, od_p_is_place, .func (PySem.W.fnOf "is_place" "is_place" (defArgs p_is_place) (defBody p_is_place) (defScope p_is_place) .none kV_p_is_place dc_p_is_place pm_p_is_place an_p_is_place cd_p_is_place ct_p_is_place), sl_p_is_place⟩)
    (c_p_is_place : PySem.W.codeIn K cd_p_is_place "is_place" = true)
    (k_p_is_place : PySem.W.keepIn K (.ref f_p_is_place) = true)
    (a_p_is_table : PySem.W.nsIn K mainGlobals "is_table" = some (some (.ref f_p_is_table)))
    (l_p_is_table : K.lookup f_p_is_table = some ⟨oc_p_is_table, od_p_is_table, .func (PySem.W.fnOf "is_table" "is_table" (defArgs p_is_table) (defBody p_is_table) (defScope p_is_table) .none kV_p_is_table dc_p_is_table pm_p_is_table an_p_is_table cd_p_is_table ct_p_is_table), sl_p_is_table⟩)
    (c_p_is_table : PySem.W.codeIn K cd_p_is_table "is_table" = true)
    (k_p_is_table : PySem.W.keepIn K (.ref f_p_is_table) = true)
    (a_p_are_different : PySem.W.nsIn K mainGlobals "are_different" = some (some (.ref f_p_are_different)))
    (l_p_are_different : K.lookup f_p_are_different = some ⟨oc_p_are_different, od_p_are_different, .func (PySem.W.fnOf "are_different" "are_different" (defArgs p_are_different) (defBody p_are_different) (defScope p_are_different) .none kV_p_are_different dc_p_are_different pm_p_are_different an_p_are_different cd_p_are_different ct_p_are_different), sl_p_are_different⟩)
    (c_p_are_different : PySem.W.codeIn K cd_p_are_different "are_different" = true)
    (k_p_are_different : PySem.W.keepIn K (.ref f_p_are_different) = true)
    (a_p_are_nodes : PySem.W.nsIn K mainGlobals "are_nodes" = some (some (.ref f_p_are_nodes)))
    (l_p_are_nodes : K.lookup f_p_are_nodes = some ⟨oc_p_are_nodes, od_p_are_nodes, .func (PySem.W.fnOf "are_nodes" "are_nodes" (defArgs p_are_nodes) (defBody p_are_nodes) (defScope p_are_nodes) .none kV_p_are_nodes dc_p_are_nodes pm_p_are_nodes an_p_are_nodes cd_p_are_nodes ct_p_are_nodes), sl_p_are_nodes⟩)
    (c_p_are_nodes : PySem.W.codeIn K cd_p_are_nodes "are_nodes" = true)
    (k_p_are_nodes : PySem.W.keepIn K (.ref f_p_are_nodes) = true)
    (a_p_is_pair_of_dicts : PySem.W.nsIn K mainGlobals "is_pair_of_dicts" = some (some (.ref f_p_is_pair_of_dicts)))
    (l_p_is_pair_of_dicts : K.lookup f_p_is_pair_of_dicts = some ⟨oc_p_is_pair_of_dicts, od_p_is_pair_of_dicts, .func (PySem.W.fnOf "is_pair_of_dicts" "is_pair_of_dicts" (defArgs p_is_pair_of_dicts) (defBody p_is_pair_of_dicts) (defScope p_is_pair_of_dicts) .none kV_p_is_pair_of_dicts dc_p_is_pair_of_dicts pm_p_is_pair_of_dicts an_p_is_pair_of_dicts cd_p_is_pair_of_dicts ct_p_is_pair_of_dicts), sl_p_is_pair_of_dicts⟩)
    (c_p_is_pair_of_dicts : PySem.W.codeIn K cd_p_is_pair_of_dicts "is_pair_of_dicts" = true)
    (k_p_is_pair_of_dicts : PySem.W.keepIn K (.ref f_p_is_pair_of_dicts) = true)
    (a_p_are_tables : PySem.W.nsIn K mainGlobals "are_tables" = some (some (.ref f_p_are_tables)))
    (l_p_are_tables : K.lookup f_p_are_tables = some ⟨oc_p_are_tables, od_p_are_tables, .func (PySem.W.fnOf "are_tables" "are_tables" (defArgs p_are_tables) (defBody p_are_tables) (defScope p_are_tables) .none kV_p_are_tables dc_p_are_tables pm_p_are_tables an_p_are_tables cd_p_are_tables ct_p_are_tables), sl_p_are_tables⟩)
    (c_p_are_tables : PySem.W.codeIn K cd_p_are_tables "are_tables" = true)
    (k_p_are_tables : PySem.W.keepIn K (.ref f_p_are_tables) = true)
    (a_p_check_net : PySem.W.nsIn K mainGlobals "check_net" = some (some (.ref f_p_check_net)))
    (l_p_check_net : K.lookup f_p_check_net = some ⟨oc_p_check_net, od_p_check_net, .func (PySem.W.fnOf "check_net" "check_net" (defArgs p_check_net) (defBody p_check_net) (defScope p_check_net) .none kV_p_check_net dc_p_check_net pm_p_check_net an_p_check_net cd_p_check_net ct_p_check_net), sl_p_check_net⟩)
    (c_p_check_net : PySem.W.codeIn K cd_p_check_net "check_net" = true)
    (k_p_check_net : PySem.W.keepIn K (.ref f_p_check_net) = true)
    (a_p_check_goal : PySem.W.nsIn K mainGlobals "check_goal" = some (some (.ref f_p_check_goal)))
    (l_p_check_goal : K.lookup f_p_check_goal = some ⟨oc_p_check_goal, od_p_check_goal, .func (PySem.W.fnOf "check_goal" "check_goal" (defArgs p_check_goal) (defBody p_check_goal) (defScope p_check_goal) .none kV_p_check_goal dc_p_check_goal pm_p_check_goal an_p_check_goal cd_p_check_goal ct_p_check_goal), sl_p_check_goal⟩)
    (c_p_check_goal : PySem.W.codeIn K cd_p_check_goal "check_goal" = true)
    (k_p_check_goal : PySem.W.keepIn K (.ref f_p_check_goal) = true)
    (a_g_goals : PySem.W.findIn K (.ref C) "goals" = some (some (.ref p_g_goals)))
    (ge_g_goals : PySem.W.specialIn K (.ref p_g_goals) "__get__" = some (some (.builtin "property.__get__")))
    (ta_g_goals : PySem.W.takesIn K (.ref p_g_goals) = some true)
    (re_g_goals : PySem.W.recIn K p_g_goals "property" = some (.ref f_g_goals :: r_g_goals))
    (l_g_goals : K.lookup f_g_goals = some ⟨oc_g_goals, od_g_goals, .func (PySem.W.fnOf "goals" "Net.goals" (defArgs c_Net_goals) (defBody c_Net_goals) (defScope c_Net_goals) .none kV_g_goals dc_g_goals pm_g_goals an_g_goals cd_g_goals ct_g_goals), sl_g_goals⟩)
    (c_g_goals : PySem.W.codeIn K cd_g_goals "Net.goals" = true)
    (k_g_goals : PySem.W.keepIn K (.ref f_g_goals) = true)
    (a_g_nodes : PySem.W.findIn K (.ref C) "nodes" = some (some (.ref p_g_nodes)))
    (ge_g_nodes : PySem.W.specialIn K (.ref p_g_nodes) "__get__" = some (some (.builtin "property.__get__")))
    (ta_g_nodes : PySem.W.takesIn K (.ref p_g_nodes) = some true)
    (re_g_nodes : PySem.W.recIn K p_g_nodes "property" = some (.ref f_g_nodes :: r_g_nodes))
    (l_g_nodes : K.lookup f_g_nodes = some ⟨oc_g_nodes, od_g_nodes, .func (PySem.W.fnOf "nodes" "Net.nodes" (defArgs c_Net_nodes) (defBody c_Net_nodes) (defScope c_Net_nodes) .none kV_g_nodes dc_g_nodes pm_g_nodes an_g_nodes cd_g_nodes ct_g_nodes), sl_g_nodes⟩)
    (c_g_nodes : PySem.W.codeIn K cd_g_nodes "Net.nodes" = true)
    (k_g_nodes : PySem.W.keepIn K (.ref f_g_nodes) = true)
    (a_g_changing : PySem.W.findIn K (.ref C) "changing" = some (some (.ref p_g_changing)))
    (ge_g_changing : PySem.W.specialIn K (.ref p_g_changing) "__get__" = some (some (.builtin "property.__get__")))
    (ta_g_changing : PySem.W.takesIn K (.ref p_g_changing) = some true)
    (re_g_changing : PySem.W.recIn K p_g_changing "property" = some (.ref f_g_changing :: r_g_changing))
    (l_g_changing : K.lookup f_g_changing = some ⟨oc_g_changing, od_g_changing, .func (PySem.W.fnOf "changing" "Net.changing" (defArgs c_Net_changing) (defBody c_Net_changing) (defScope c_Net_changing) .none kV_g_changing dc_g_changing pm_g_changing an_g_changing cd_g_changing ct_g_changing), sl_g_changing⟩)
    (c_g_changing : PySem.W.codeIn K cd_g_changing "Net.changing" = true)
    (k_g_changing : PySem.W.keepIn K (.ref f_g_changing) = true)
    (a_p_check_node : PySem.W.nsIn K mainGlobals "check_node" = some (some (.ref f_p_check_node)))
    (l_p_check_node : K.lookup f_p_check_node = some ⟨oc_p_check_node, od_p_check_node, .func (PySem.W.fnOf "check_node" "check_node" (defArgs p_check_node) (defBody p_check_node) (defScope p_check_node) .none kV_p_check_node dc_p_check_node pm_p_check_node an_p_check_node cd_p_check_node ct_p_check_node), sl_p_check_node⟩)
    (c_p_check_node : PySem.W.codeIn K cd_p_check_node "check_node" = true)
    (k_p_check_node : PySem.W.keepIn K (.ref f_p_check_node) = true)
    (a_p_followed : PySem.W.nsIn K mainGlobals "followed" = some (some (.ref f_p_followed)))
    (l_p_followed : K.lookup f_p_followed = some ⟨oc_p_followed, od_p_followed, .func (PySem.W.fnOf "followed" "followed" (defArgs p_followed) (defBody p_followed) (defScope p_followed) .none kV_p_followed dc_p_followed pm_p_followed an_p_followed cd_p_followed ct_p_followed), sl_p_followed⟩)
    (c_p_followed : PySem.W.codeIn K cd_p_followed "followed" = true)
    (k_p_followed : PySem.W.keepIn K (.ref f_p_followed) = true)
    (a_p_ways_at : PySem.W.nsIn K mainGlobals "ways_at" = some (some (.ref f_p_ways_at)))
    (l_p_ways_at : K.lookup f_p_ways_at = some ⟨oc_p_ways_at, od_p_ways_at, .func (PySem.W.fnOf "ways_at" "ways_at" (defArgs p_ways_at) (defBody p_ways_at) (defScope p_ways_at) .none kV_p_ways_at dc_p_ways_at pm_p_ways_at an_p_ways_at cd_p_ways_at ct_p_ways_at), sl_p_ways_at⟩)
    (c_p_ways_at : PySem.W.codeIn K cd_p_ways_at "ways_at" = true)
    (k_p_ways_at : PySem.W.keepIn K (.ref f_p_ways_at) = true)
    (a_p_joined : PySem.W.nsIn K mainGlobals "joined" = some (some (.ref f_p_joined)))
    (l_p_joined : K.lookup f_p_joined = some ⟨oc_p_joined, od_p_joined, .func (PySem.W.fnOf "joined" "joined" (defArgs p_joined) (defBody p_joined) (defScope p_joined) .none kV_p_joined dc_p_joined pm_p_joined an_p_joined cd_p_joined ct_p_joined), sl_p_joined⟩)
    (c_p_joined : PySem.W.codeIn K cd_p_joined "joined" = true)
    (k_p_joined : PySem.W.keepIn K (.ref f_p_joined) = true)
    (a_p_parts_of : PySem.W.nsIn K mainGlobals "parts_of" = some (some (.ref f_p_parts_of)))
    (l_p_parts_of : K.lookup f_p_parts_of = some ⟨oc_p_parts_of, od_p_parts_of, .func (PySem.W.fnOf "parts_of" "parts_of" (defArgs p_parts_of) (defBody p_parts_of) (defScope p_parts_of) .none kV_p_parts_of dc_p_parts_of pm_p_parts_of an_p_parts_of (.ref cc) ct_p_parts_of), sl_p_parts_of⟩)
    (c_p_parts_of : PySem.W.codeIn K (.ref cc) "parts_of" = true)
    (k_p_parts_of : PySem.W.keepIn K (.ref f_p_parts_of) = true)
    (a_p_starts : PySem.W.nsIn K mainGlobals "starts" = some (some (.ref f_p_starts)))
    (l_p_starts : K.lookup f_p_starts = some ⟨oc_p_starts, od_p_starts, .func (PySem.W.fnOf "starts" "starts" (defArgs p_starts) (defBody p_starts) (defScope p_starts) .none kV_p_starts dc_p_starts pm_p_starts an_p_starts cd_p_starts ct_p_starts), sl_p_starts⟩)
    (c_p_starts : PySem.W.codeIn K cd_p_starts "starts" = true)
    (k_p_starts : PySem.W.keepIn K (.ref f_p_starts) = true)
    (a_p_breaks : PySem.W.nsIn K mainGlobals "breaks" = some (some (.ref f_p_breaks)))
    (l_p_breaks : K.lookup f_p_breaks = some ⟨oc_p_breaks, od_p_breaks, .func (PySem.W.fnOf "breaks" "breaks" (defArgs p_breaks) (defBody p_breaks) (defScope p_breaks) .none kV_p_breaks dc_p_breaks pm_p_breaks an_p_breaks cd_p_breaks ct_p_breaks), sl_p_breaks⟩)
    (c_p_breaks : PySem.W.codeIn K cd_p_breaks "breaks" = true)
    (k_p_breaks : PySem.W.keepIn K (.ref f_p_breaks) = true)
    (a_p_posts_passed : PySem.W.nsIn K mainGlobals "posts_passed" = some (some (.ref f_p_posts_passed)))
    (l_p_posts_passed : K.lookup f_p_posts_passed = some ⟨oc_p_posts_passed, od_p_posts_passed, .func (PySem.W.fnOf "posts_passed" "posts_passed" (defArgs p_posts_passed) (defBody p_posts_passed) (defScope p_posts_passed) .none kV_p_posts_passed dc_p_posts_passed pm_p_posts_passed an_p_posts_passed cd_p_posts_passed ct_p_posts_passed), sl_p_posts_passed⟩)
    (c_p_posts_passed : PySem.W.codeIn K cd_p_posts_passed "posts_passed" = true)
    (k_p_posts_passed : PySem.W.keepIn K (.ref f_p_posts_passed) = true)
    (a_p_passed_with : PySem.W.nsIn K mainGlobals "passed_with" = some (some (.ref f_p_passed_with)))
    (l_p_passed_with : K.lookup f_p_passed_with = some ⟨oc_p_passed_with, od_p_passed_with, .func (PySem.W.fnOf "passed_with" "passed_with" (defArgs p_passed_with) (defBody p_passed_with) (defScope p_passed_with) .none kV_p_passed_with dc_p_passed_with pm_p_passed_with an_p_passed_with cd_p_passed_with ct_p_passed_with), sl_p_passed_with⟩)
    (c_p_passed_with : PySem.W.codeIn K cd_p_passed_with "passed_with" = true)
    (k_p_passed_with : PySem.W.keepIn K (.ref f_p_passed_with) = true)
    (a_p_fault_at : PySem.W.nsIn K mainGlobals "fault_at" = some (some (.ref f_p_fault_at)))
    (l_p_fault_at : K.lookup f_p_fault_at = some ⟨oc_p_fault_at, od_p_fault_at, .func (PySem.W.fnOf "fault_at" "fault_at" (defArgs p_fault_at) (defBody p_fault_at) (defScope p_fault_at) .none kV_p_fault_at dc_p_fault_at pm_p_fault_at an_p_fault_at cd_p_fault_at ct_p_fault_at), sl_p_fault_at⟩)
    (c_p_fault_at : PySem.W.codeIn K cd_p_fault_at "fault_at" = true)
    (k_p_fault_at : PySem.W.keepIn K (.ref f_p_fault_at) = true)
    (a_p_check_wishes : PySem.W.nsIn K mainGlobals "check_wishes" = some (some (.ref f_p_check_wishes)))
    (l_p_check_wishes : K.lookup f_p_check_wishes = some ⟨oc_p_check_wishes, od_p_check_wishes, .func (PySem.W.fnOf "check_wishes" "check_wishes" (defArgs p_check_wishes) (defBody p_check_wishes) (defScope p_check_wishes) .none kV_p_check_wishes dc_p_check_wishes pm_p_check_wishes an_p_check_wishes cd_p_check_wishes ct_p_check_wishes), sl_p_check_wishes⟩)
    (c_p_check_wishes : PySem.W.codeIn K cd_p_check_wishes "check_wishes" = true)
    (k_p_check_wishes : PySem.W.keepIn K (.ref f_p_check_wishes) = true)
    (a_p_broken_moments : PySem.W.nsIn K mainGlobals "broken_moments" = some (some (.ref f_p_broken_moments)))
    (l_p_broken_moments : K.lookup f_p_broken_moments = some ⟨oc_p_broken_moments, od_p_broken_moments, .func (PySem.W.fnOf "broken_moments" "broken_moments" (defArgs p_broken_moments) (defBody p_broken_moments) (defScope p_broken_moments) .none kV_p_broken_moments dc_p_broken_moments pm_p_broken_moments an_p_broken_moments cd_p_broken_moments ct_p_broken_moments), sl_p_broken_moments⟩)
    (c_p_broken_moments : PySem.W.codeIn K cd_p_broken_moments "broken_moments" = true)
    (k_p_broken_moments : PySem.W.keepIn K (.ref f_p_broken_moments) = true)
    (a_p_moments_to_avoid : PySem.W.nsIn K mainGlobals "moments_to_avoid" = some (some (.ref f_p_moments_to_avoid)))
    (l_p_moments_to_avoid : K.lookup f_p_moments_to_avoid = some ⟨oc_p_moments_to_avoid, od_p_moments_to_avoid, .func (PySem.W.fnOf "moments_to_avoid" "moments_to_avoid" (defArgs p_moments_to_avoid) (defBody p_moments_to_avoid) (defScope p_moments_to_avoid) .none kV_p_moments_to_avoid dc_p_moments_to_avoid pm_p_moments_to_avoid an_p_moments_to_avoid cd_p_moments_to_avoid ct_p_moments_to_avoid), sl_p_moments_to_avoid⟩)
    (c_p_moments_to_avoid : PySem.W.codeIn K cd_p_moments_to_avoid "moments_to_avoid" = true)
    (k_p_moments_to_avoid : PySem.W.keepIn K (.ref f_p_moments_to_avoid) = true)
    (a_p_safe_rounds : PySem.W.nsIn K mainGlobals "safe_rounds" = some (some (.ref f_p_safe_rounds)))
    (l_p_safe_rounds : K.lookup f_p_safe_rounds = some ⟨oc_p_safe_rounds, od_p_safe_rounds, .func (PySem.W.fnOf "safe_rounds" "safe_rounds" (defArgs p_safe_rounds) (defBody p_safe_rounds) (defScope p_safe_rounds) .none kV_p_safe_rounds dc_p_safe_rounds pm_p_safe_rounds an_p_safe_rounds cd_p_safe_rounds ct_p_safe_rounds), sl_p_safe_rounds⟩)
    (c_p_safe_rounds : PySem.W.codeIn K cd_p_safe_rounds "safe_rounds" = true)
    (k_p_safe_rounds : PySem.W.keepIn K (.ref f_p_safe_rounds) = true)
    (a_p_round_numbers : PySem.W.nsIn K mainGlobals "round_numbers" = some (some (.ref f_p_round_numbers)))
    (l_p_round_numbers : K.lookup f_p_round_numbers = some ⟨oc_p_round_numbers, od_p_round_numbers, .func (PySem.W.fnOf "round_numbers" "round_numbers" (defArgs p_round_numbers) (defBody p_round_numbers) (defScope p_round_numbers) .none kV_p_round_numbers dc_p_round_numbers pm_p_round_numbers an_p_round_numbers cd_p_round_numbers ct_p_round_numbers), sl_p_round_numbers⟩)
    (c_p_round_numbers : PySem.W.codeIn K cd_p_round_numbers "round_numbers" = true)
    (k_p_round_numbers : PySem.W.keepIn K (.ref f_p_round_numbers) = true)
    (a_p_rounds_needed : PySem.W.nsIn K mainGlobals "rounds_needed" = some (some (.ref f_p_rounds_needed)))
    (l_p_rounds_needed : K.lookup f_p_rounds_needed = some ⟨oc_p_rounds_needed, od_p_rounds_needed, .func (PySem.W.fnOf "rounds_needed" "rounds_needed" (defArgs p_rounds_needed) (defBody p_rounds_needed) (defScope p_rounds_needed) .none kV_p_rounds_needed dc_p_rounds_needed pm_p_rounds_needed an_p_rounds_needed cd_p_rounds_needed ct_p_rounds_needed), sl_p_rounds_needed⟩)
    (c_p_rounds_needed : PySem.W.codeIn K cd_p_rounds_needed "rounds_needed" = true)
    (k_p_rounds_needed : PySem.W.keepIn K (.ref f_p_rounds_needed) = true)
    (a_p_needed : PySem.W.nsIn K mainGlobals "needed" = some (some (.ref f_p_needed)))
    (l_p_needed : K.lookup f_p_needed = some ⟨oc_p_needed, od_p_needed, .func (PySem.W.fnOf "needed" "needed" (defArgs p_needed) (defBody p_needed) (defScope p_needed) .none kV_p_needed dc_p_needed pm_p_needed an_p_needed cd_p_needed ct_p_needed), sl_p_needed⟩)
    (c_p_needed : PySem.W.codeIn K cd_p_needed "needed" = true)
    (k_p_needed : PySem.W.keepIn K (.ref f_p_needed) = true)
    (a_p_cost : PySem.W.nsIn K mainGlobals "cost" = some (some (.ref f_p_cost)))
    (l_p_cost : K.lookup f_p_cost = some ⟨oc_p_cost, od_p_cost, .func (PySem.W.fnOf "cost" "cost" (defArgs p_cost) (defBody p_cost) (defScope p_cost) .none kV_p_cost dc_p_cost pm_p_cost an_p_cost cd_p_cost ct_p_cost), sl_p_cost⟩)
    (c_p_cost : PySem.W.codeIn K cd_p_cost "cost" = true)
    (k_p_cost : PySem.W.keepIn K (.ref f_p_cost) = true)
    (a_p_costs : PySem.W.nsIn K mainGlobals "costs" = some (some (.ref f_p_costs)))
    (l_p_costs : K.lookup f_p_costs = some ⟨oc_p_costs, od_p_costs, .func (PySem.W.fnOf "costs" "costs" (defArgs p_costs) (defBody p_costs) (defScope p_costs) .none kV_p_costs dc_p_costs pm_p_costs an_p_costs cd_p_costs ct_p_costs), sl_p_costs⟩)
    (c_p_costs : PySem.W.codeIn K cd_p_costs "costs" = true)
    (k_p_costs : PySem.W.keepIn K (.ref f_p_costs) = true)
    (a_p_saved : PySem.W.nsIn K mainGlobals "saved" = some (some (.ref f_p_saved)))
    (l_p_saved : K.lookup f_p_saved = some ⟨oc_p_saved, od_p_saved, .func (PySem.W.fnOf "saved" "saved" (defArgs p_saved) (defBody p_saved) (defScope p_saved) .none kV_p_saved dc_p_saved pm_p_saved an_p_saved cd_p_saved ct_p_saved), sl_p_saved⟩)
    (c_p_saved : PySem.W.codeIn K cd_p_saved "saved" = true)
    (k_p_saved : PySem.W.keepIn K (.ref f_p_saved) = true)
    (a_g_tables : PySem.W.findIn K (.ref C) "tables" = some (some (.ref p_g_tables)))
    (ge_g_tables : PySem.W.specialIn K (.ref p_g_tables) "__get__" = some (some (.builtin "property.__get__")))
    (ta_g_tables : PySem.W.takesIn K (.ref p_g_tables) = some true)
    (re_g_tables : PySem.W.recIn K p_g_tables "property" = some (.ref f_g_tables :: r_g_tables))
    (l_g_tables : K.lookup f_g_tables = some ⟨oc_g_tables, od_g_tables, .func (PySem.W.fnOf "tables" "Net.tables" (defArgs c_Net_tables) (defBody c_Net_tables) (defScope c_Net_tables) .none kV_g_tables dc_g_tables pm_g_tables an_g_tables cd_g_tables ct_g_tables), sl_g_tables⟩)
    (c_g_tables : PySem.W.codeIn K cd_g_tables "Net.tables" = true)
    (k_g_tables : PySem.W.keepIn K (.ref f_g_tables) = true)
    (a_g_sources : PySem.W.findIn K (.ref C) "sources" = some (some (.ref p_g_sources)))
    (ge_g_sources : PySem.W.specialIn K (.ref p_g_sources) "__get__" = some (some (.builtin "property.__get__")))
    (ta_g_sources : PySem.W.takesIn K (.ref p_g_sources) = some true)
    (re_g_sources : PySem.W.recIn K p_g_sources "property" = some (.ref f_g_sources :: r_g_sources))
    (l_g_sources : K.lookup f_g_sources = some ⟨oc_g_sources, od_g_sources, .func (PySem.W.fnOf "sources" "Net.sources" (defArgs c_Net_sources) (defBody c_Net_sources) (defScope c_Net_sources) .none kV_g_sources dc_g_sources pm_g_sources an_g_sources cd_g_sources ct_g_sources), sl_g_sources⟩)
    (c_g_sources : PySem.W.codeIn K cd_g_sources "Net.sources" = true)
    (k_g_sources : PySem.W.keepIn K (.ref f_g_sources) = true)
    (a_g_posts : PySem.W.findIn K (.ref C) "posts" = some (some (.ref p_g_posts)))
    (ge_g_posts : PySem.W.specialIn K (.ref p_g_posts) "__get__" = some (some (.builtin "property.__get__")))
    (ta_g_posts : PySem.W.takesIn K (.ref p_g_posts) = some true)
    (re_g_posts : PySem.W.recIn K p_g_posts "property" = some (.ref f_g_posts :: r_g_posts))
    (l_g_posts : K.lookup f_g_posts = some ⟨oc_g_posts, od_g_posts, .func (PySem.W.fnOf "posts" "Net.posts" (defArgs c_Net_posts) (defBody c_Net_posts) (defScope c_Net_posts) .none kV_g_posts dc_g_posts pm_g_posts an_g_posts cd_g_posts ct_g_posts), sl_g_posts⟩)
    (c_g_posts : PySem.W.codeIn K cd_g_posts "Net.posts" = true)
    (k_g_posts : PySem.W.keepIn K (.ref f_g_posts) = true)
    (a_law : PySem.W.nsIn K mainGlobals "law" = some (some (.ref f_law)))
    (l_law : K.lookup f_law = some ⟨oc_law, od_law, .func (PySem.W.fnOf "law" "law" (defArgs s_law) (defBody s_law) (defScope s_law) .none kV_law dc_law pm_law an_law cd_law ct_law), sl_law⟩)
    (c_law : PySem.W.codeIn K cd_law "law" = true)
    (k_law : PySem.W.keepIn K (.ref f_law) = true)
    (aI : PySem.W.findIn K (.ref C) "__init__" = some (some (.ref fI)))
    (iI : PySem.W.isFn K (.ref fI) = true)
    (lI : K.lookup fI = some ⟨ocI, odI, .func (PySem.W.fnOf "__init__" "Net.__init__" (defArgs c_Net_init) (defBody c_Net_init) (defScope c_Net_init) (.ref TI) kVI dcI pmI anI cdI ctI), slI⟩)
    (cI : PySem.W.codeIn K cdI "Net.__init__" = true)
    (kI : PySem.W.keepIn K (.ref fI) = true)
    (lT : K.lookup TI = some ⟨ocT, odT, .seq [Value.ref q1, Value.ref q2].toArray nT, slT⟩)
    (pg : PySem.W.plainGet K C Str.empty = true)
    (hd : PySem.W.hasDictIn K C = true)
    (po : PySem.W.plainOver K C = true)
    (sa : PySem.W.findIn K (.ref C) "__setattr__" = some (some (.builtin "object.__setattr__")))
    (mk : PySem.W.makesIn K C = true)
    (kc : PySem.W.keepIn K (.ref C) = true)
    (nT_ : PySem.W.findIn K (.ref C) "_tables" = some none)
    (nN_ : PySem.W.findIn K (.ref C) "_nodes" = some none)
    (nS_ : PySem.W.findIn K (.ref C) "_sources" = some none)
    (nP_ : PySem.W.findIn K (.ref C) "_posts" = some none)
    (ha : PySem.W.findIn K (.ref C) "__class__" = some (some (.builtin "object.__class__")))
    (hn : PySem.W.specialIn K (.builtin "object.__class__") "__get__" = some (some (.builtin "getset_descriptor.__get__")))
    (hk : PySem.W.takesIn K (.builtin "object.__class__") = some true)
    (hm : PySem.W.mroIn K C (.type "object") = some true)
    (v_MOST_POSTS : PySem.W.nsIn K mainGlobals "MOST_POSTS" = some (some (.int 2 t_MOST_POSTS)))
    (v_MOST_NODES : PySem.W.nsIn K mainGlobals "MOST_NODES" = some (some (.int 6 t_MOST_NODES)))
    (v_MOST_GOALS : PySem.W.nsIn K mainGlobals "MOST_GOALS" = some (some (.int 2 t_MOST_GOALS)))
    (v_MOST_LETTERS : PySem.W.nsIn K mainGlobals "MOST_LETTERS" = some (some (.int 6 t_MOST_LETTERS)))
    (v_WISHES : PySem.W.nsIn K mainGlobals "WISHES" = some (some (.ref Wa)))
    (lW : K.lookup Wa = some ⟨.type "tuple", odW, .seq [Value.str "home" tw1, .str "lost" tw2, .str "posts" tw3, .str "rings" tw4].toArray nW, slW⟩)
    (z_int : PySem.W.nsIn K mainGlobals "int" = some none)
    (z_len : PySem.W.nsIn K mainGlobals "len" = some none)
    (z_abs : PySem.W.nsIn K mainGlobals "abs" = some none)
    (z_list : PySem.W.nsIn K mainGlobals "list" = some none)
    (z_dict : PySem.W.nsIn K mainGlobals "dict" = some none)
    (z_sorted : PySem.W.nsIn K mainGlobals "sorted" = some none)
    (z_range : PySem.W.nsIn K mainGlobals "range" = some none)
    (z_isinstance : PySem.W.nsIn K mainGlobals "isinstance" = some none)
    (z_str : PySem.W.nsIn K mainGlobals "str" = some none)
    (z_tuple : PySem.W.nsIn K mainGlobals "tuple" = some none)
    (z_all : PySem.W.nsIn K mainGlobals "all" = some none)
    (z_any : PySem.W.nsIn K mainGlobals "any" = some none)
    (z_set : PySem.W.nsIn K mainGlobals "set" = some none)
    (z_enumerate : PySem.W.nsIn K mainGlobals "enumerate" = some none)
    (z_min : PySem.W.nsIn K mainGlobals "min" = some none)
    (z_repr : PySem.W.nsIn K mainGlobals "repr" = some none)
    (z_reversed : PySem.W.nsIn K mainGlobals "reversed" = some none)
    (z_sum : PySem.W.nsIn K mainGlobals "sum" = some none)
    (z_bool : PySem.W.nsIn K mainGlobals "bool" = some none)
    : ∃ fd : FuncData, (∀ (s : Shared) (v : Value), BindsTo s fd ⟨[v], []⟩ [("script", v)]) ∧ ∀ base : Heap, K.In base → base.Ns mainGlobals mg → LamX.TabB base mg cc Pt → FnG P w K mg base CX0 11 fa fd ["script"] (spLaw K [(Pt, ("parts_of.<locals>.<lambda>" : Str))]) := by
  have e := hfa.symm.trans (PySem.W.mg_of X G a_law)
  cases e
  have T : NetTxt K C := ⟨⟨pg, hd, po, sa⟩, nT_, nN_, nS_, nP_⟩
  have Is : NetIsi K C := ⟨ha, hn, hk, hm, if_pos (beq_self_eq_true _)⟩
  have mNet := PySem.W.mg_of X G aC
  have F_s_begin := fun_mk (st := s_begin) l_s_begin c_s_begin k_s_begin
  have b_s_begin := F_s_begin.binds (ps := ["script"]) fun _ _ _ _ _ _ us hl => match us, hl with | [_], _ => rfl
  have g_s_begin := PySem.W.mg_of X G a_s_begin
  have F_s_blend := fun_mk (st := s_blend) l_s_blend c_s_blend k_s_blend
  have b_s_blend := F_s_blend.binds (ps := ["draw"]) fun _ _ _ _ _ _ us hl => match us, hl with | [_], _ => rfl
  have g_s_blend := PySem.W.mg_of X G a_s_blend
  have F_s_take := fun_mk (st := s_take) l_s_take c_s_take k_s_take
  have b_s_take := F_s_take.binds (ps := ["draw", "size"]) fun _ _ _ _ _ _ us hl => match us, hl with | [_, _], _ => rfl
  have g_s_take := PySem.W.mg_of X G a_s_take
  have F_s_pick := fun_mk (st := s_pick) l_s_pick c_s_pick k_s_pick
  have b_s_pick := F_s_pick.binds (ps := ["draw", "some"]) fun _ _ _ _ _ _ us hl => match us, hl with | [_, _], _ => rfl
  have g_s_pick := PySem.W.mg_of X G a_s_pick
  have F_s_mixed := fun_mk (st := s_mixed) l_s_mixed c_s_mixed k_s_mixed
  have b_s_mixed := F_s_mixed.binds (ps := ["draw", "some"]) fun _ _ _ _ _ _ us hl => match us, hl with | [_, _], _ => rfl
  have g_s_mixed := PySem.W.mg_of X G a_s_mixed
  have F_s_words := fun_mk (st := s_words) l_s_words c_s_words k_s_words
  have b_s_words := F_s_words.binds (ps := ["draw", "count"]) fun _ _ _ _ _ _ us hl => match us, hl with | [_, _], _ => rfl
  have g_s_words := PySem.W.mg_of X G a_s_words
  have F_s_tree := fun_mk (st := s_tree) l_s_tree c_s_tree k_s_tree
  have b_s_tree := F_s_tree.binds (ps := ["draw", "some", "end"]) fun _ _ _ _ _ _ us hl => match us, hl with | [_, _, _], _ => rfl
  have g_s_tree := PySem.W.mg_of X G a_s_tree
  have F_s_path := fun_mk (st := s_path) l_s_path c_s_path k_s_path
  have b_s_path := F_s_path.binds (ps := ["draw", "some", "end"]) fun _ _ _ _ _ _ us hl => match us, hl with | [_, _, _], _ => rfl
  have g_s_path := PySem.W.mg_of X G a_s_path
  have F_s_wild := fun_mk (st := s_wild) l_s_wild c_s_wild k_s_wild
  have b_s_wild := F_s_wild.binds (ps := ["draw", "some", "end"]) fun _ _ _ _ _ _ us hl => match us, hl with | [_, _, _], _ => rfl
  have g_s_wild := PySem.W.mg_of X G a_s_wild
  have F_s_near := fun_mk (st := s_near) l_s_near c_s_near k_s_near
  have b_s_near := F_s_near.binds (ps := ["draw", "table", "end"]) fun _ _ _ _ _ _ us hl => match us, hl with | [_, _, _], _ => rfl
  have g_s_near := PySem.W.mg_of X G a_s_near
  have F_s_pair := fun_mk (st := s_pair) l_s_pair c_s_pair k_s_pair
  have b_s_pair := F_s_pair.binds (ps := ["draw", "some", "end"]) fun _ _ _ _ _ _ us hl => match us, hl with | [_, _, _], _ => rfl
  have g_s_pair := PySem.W.mg_of X G a_s_pair
  have F_s_model := fun_mk (st := s_model) l_s_model c_s_model k_s_model
  have b_s_model := F_s_model.binds (ps := ["draw", "ends", "most"]) fun _ _ _ _ _ _ us hl => match us, hl with | [_, _, _], _ => rfl
  have g_s_model := PySem.W.mg_of X G a_s_model
  have F_s_net := fun_mk (st := s_net) l_s_net c_s_net k_s_net
  have b_s_net := F_s_net.binds (ps := ["model"]) fun _ _ _ _ _ _ us hl => match us, hl with | [_], _ => rfl
  have g_s_net := PySem.W.mg_of X G a_s_net
  have F_s_moving_dots := fun_mk (st := s_moving_dots) l_s_moving_dots c_s_moving_dots k_s_moving_dots
  have b_s_moving_dots := F_s_moving_dots.binds (ps := ["model"]) fun _ _ _ _ _ _ us hl => match us, hl with | [_], _ => rfl
  have g_s_moving_dots := PySem.W.mg_of X G a_s_moving_dots
  have F_s_now := fun_mk (st := s_now) l_s_now c_s_now k_s_now
  have b_s_now := F_s_now.binds (ps := ["model", "end", "on"]) fun _ _ _ _ _ _ us hl => match us, hl with | [_, _, _], _ => rfl
  have g_s_now := PySem.W.mg_of X G a_s_now
  have F_s_walk := fun_mk (st := s_walk) l_s_walk c_s_walk k_s_walk
  have b_s_walk := F_s_walk.binds (ps := ["table", "dot"]) fun _ _ _ _ _ _ us hl => match us, hl with | [_, _], _ => rfl
  have g_s_walk := PySem.W.mg_of X G a_s_walk
  have F_s_lots := fun_mk (st := s_lots) l_s_lots c_s_lots k_s_lots
  have b_s_lots := F_s_lots.binds (ps := ["some"]) fun _ _ _ _ _ _ us hl => match us, hl with | [_], _ => rfl
  have g_s_lots := PySem.W.mg_of X G a_s_lots
  have F_s_misses := fun_mk (st := s_misses) l_s_misses c_s_misses k_s_misses
  have b_s_misses := F_s_misses.binds (ps := ["model", "row"]) fun _ _ _ _ _ _ us hl => match us, hl with | [_, _], _ => rfl
  have g_s_misses := PySem.W.mg_of X G a_s_misses
  have F_s_breaks := fun_mk (st := s_breaks) l_s_breaks c_s_breaks k_s_breaks
  have b_s_breaks := F_s_breaks.binds (ps := ["model", "end", "on", "sort", "dot"]) fun _ _ _ _ _ _ us hl => match us, hl with | [_, _, _, _, _], _ => rfl
  have g_s_breaks := PySem.W.mg_of X G a_s_breaks
  have F_s_sorts := fun_mk (st := s_sorts) l_s_sorts c_s_sorts k_s_sorts
  have b_s_sorts := F_s_sorts.binds (ps := []) fun _ _ _ _ _ _ us hl => match us, hl with | [], _ => rfl
  have g_s_sorts := PySem.W.mg_of X G a_s_sorts
  have F_s_join := fun_mk (st := s_join) l_s_join c_s_join k_s_join
  have b_s_join := F_s_join.binds (ps := ["one", "beside"]) fun _ _ _ _ _ _ us hl => match us, hl with | [_, _], _ => rfl
  have g_s_join := PySem.W.mg_of X G a_s_join
  have F_s_bad := fun_mk (st := s_bad) l_s_bad c_s_bad k_s_bad
  have b_s_bad := F_s_bad.binds (ps := ["model"]) fun _ _ _ _ _ _ us hl => match us, hl with | [_], _ => rfl
  have g_s_bad := PySem.W.mg_of X G a_s_bad
  have F_s_stands := fun_mk (st := s_stands) l_s_stands c_s_stands k_s_stands
  have b_s_stands := F_s_stands.binds (ps := ["bad", "ready", "part", "wants", "late"]) fun _ _ _ _ _ _ us hl => match us, hl with | [_, _, _, _, _], _ => rfl
  have g_s_stands := PySem.W.mg_of X G a_s_stands
  have F_s_fewest := fun_mk (st := s_fewest) l_s_fewest c_s_fewest k_s_fewest
  have b_s_fewest := F_s_fewest.binds (ps := ["model", "bad", "wants", "late"]) fun _ _ _ _ _ _ us hl => match us, hl with | [_, _, _, _], _ => rfl
  have g_s_fewest := PySem.W.mg_of X G a_s_fewest
  have F_s_wants := fun_mk (st := s_wants) l_s_wants c_s_wants k_s_wants
  have b_s_wants := F_s_wants.binds (ps := ["draw"]) fun _ _ _ _ _ _ us hl => match us, hl with | [_], _ => rfl
  have g_s_wants := PySem.W.mg_of X G a_s_wants
  have F_s_all_costs := fun_mk (st := s_all_costs) l_s_all_costs c_s_all_costs k_s_all_costs
  have b_s_all_costs := F_s_all_costs.binds (ps := ["model"]) fun _ _ _ _ _ _ us hl => match us, hl with | [_], _ => rfl
  have g_s_all_costs := PySem.W.mg_of X G a_s_all_costs
  have F_s_right := fun_mk (st := s_right) l_s_right c_s_right k_s_right
  have b_s_right := F_s_right.binds (ps := ["draw", "model", "due"]) fun _ _ _ _ _ _ us hl => match us, hl with | [_, _, _], _ => rfl
  have g_s_right := PySem.W.mg_of X G a_s_right
  have F_p_is_list := fun_mk (st := p_is_list) l_p_is_list c_p_is_list k_p_is_list
  have b_p_is_list := F_p_is_list.binds (ps := ["value"]) fun _ _ _ _ _ _ us hl => match us, hl with | [_], _ => rfl
  have g_p_is_list := PySem.W.mg_of X G a_p_is_list
  have F_p_is_name := fun_mk (st := p_is_name) l_p_is_name c_p_is_name k_p_is_name
  have b_p_is_name := F_p_is_name.binds (ps := ["value"]) fun _ _ _ _ _ _ us hl => match us, hl with | [_], _ => rfl
  have g_p_is_name := PySem.W.mg_of X G a_p_is_name
  have F_p_is_place := fun_mk (st := p_is_place) l_p_is_place c_p_is_place k_p_is_place
  have b_p_is_place := F_p_is_place.binds (ps := ["value", "node", "nodes", "goal"]) fun _ _ _ _ _ _ us hl => match us, hl with | [_, _, _, _], _ => rfl
  have g_p_is_place := PySem.W.mg_of X G a_p_is_place
  have F_p_is_table := fun_mk (st := p_is_table) l_p_is_table c_p_is_table k_p_is_table
  have b_p_is_table := F_p_is_table.binds (ps := ["table", "nodes", "goal"]) fun _ _ _ _ _ _ us hl => match us, hl with | [_, _, _], _ => rfl
  have g_p_is_table := PySem.W.mg_of X G a_p_is_table
  have F_p_are_different := fun_mk (st := p_are_different) l_p_are_different c_p_are_different k_p_are_different
  have b_p_are_different := F_p_are_different.binds (ps := ["value", "nodes"]) fun _ _ _ _ _ _ us hl => match us, hl with | [_, _], _ => rfl
  have g_p_are_different := PySem.W.mg_of X G a_p_are_different
  have F_p_are_nodes := fun_mk (st := p_are_nodes) l_p_are_nodes c_p_are_nodes k_p_are_nodes
  have b_p_are_nodes := F_p_are_nodes.binds (ps := ["names", "goals"]) fun _ _ _ _ _ _ us hl => match us, hl with | [_, _], _ => rfl
  have g_p_are_nodes := PySem.W.mg_of X G a_p_are_nodes
  have F_p_is_pair_of_dicts := fun_mk (st := p_is_pair_of_dicts) l_p_is_pair_of_dicts c_p_is_pair_of_dicts k_p_is_pair_of_dicts
  have b_p_is_pair_of_dicts := F_p_is_pair_of_dicts.binds (ps := ["value"]) fun _ _ _ _ _ _ us hl => match us, hl with | [_], _ => rfl
  have g_p_is_pair_of_dicts := PySem.W.mg_of X G a_p_is_pair_of_dicts
  have F_p_are_tables := fun_mk (st := p_are_tables) l_p_are_tables c_p_are_tables k_p_are_tables
  have b_p_are_tables := F_p_are_tables.binds (ps := ["value"]) fun _ _ _ _ _ _ us hl => match us, hl with | [_], _ => rfl
  have g_p_are_tables := PySem.W.mg_of X G a_p_are_tables
  have F_p_check_net := fun_mk (st := p_check_net) l_p_check_net c_p_check_net k_p_check_net
  have b_p_check_net := F_p_check_net.binds (ps := ["net"]) fun _ _ _ _ _ _ us hl => match us, hl with | [_], _ => rfl
  have g_p_check_net := PySem.W.mg_of X G a_p_check_net
  have F_p_check_goal := fun_mk (st := p_check_goal) l_p_check_goal c_p_check_goal k_p_check_goal
  have b_p_check_goal := F_p_check_goal.binds (ps := ["net", "goal"]) fun _ _ _ _ _ _ us hl => match us, hl with | [_, _], _ => rfl
  have g_p_check_goal := PySem.W.mg_of X G a_p_check_goal
  have F_g_goals := fun_mk (st := c_Net_goals) l_g_goals c_g_goals k_g_goals
  have b_g_goals := F_g_goals.binds (ps := ["self"]) fun _ _ _ _ _ _ us hl => match us, hl with | [_], _ => rfl
  have F_g_nodes := fun_mk (st := c_Net_nodes) l_g_nodes c_g_nodes k_g_nodes
  have b_g_nodes := F_g_nodes.binds (ps := ["self"]) fun _ _ _ _ _ _ us hl => match us, hl with | [_], _ => rfl
  have F_g_changing := fun_mk (st := c_Net_changing) l_g_changing c_g_changing k_g_changing
  have b_g_changing := F_g_changing.binds (ps := ["self"]) fun _ _ _ _ _ _ us hl => match us, hl with | [_], _ => rfl
  have F_p_check_node := fun_mk (st := p_check_node) l_p_check_node c_p_check_node k_p_check_node
  have b_p_check_node := F_p_check_node.binds (ps := ["net", "node"]) fun _ _ _ _ _ _ us hl => match us, hl with | [_, _], _ => rfl
  have g_p_check_node := PySem.W.mg_of X G a_p_check_node
  have F_p_followed := fun_mk (st := p_followed) l_p_followed c_p_followed k_p_followed
  have b_p_followed := F_p_followed.binds (ps := ["table", "node"]) fun _ _ _ _ _ _ us hl => match us, hl with | [_, _], _ => rfl
  have g_p_followed := PySem.W.mg_of X G a_p_followed
  have F_p_ways_at := fun_mk (st := p_ways_at) l_p_ways_at c_p_ways_at k_p_ways_at
  have b_p_ways_at := F_p_ways_at.binds (ps := ["net", "done", "changed", "goal"]) fun _ _ _ _ _ _ us hl => match us, hl with | [_, _, _, _], _ => rfl
  have g_p_ways_at := PySem.W.mg_of X G a_p_ways_at
  have F_p_joined := fun_mk (st := p_joined) l_p_joined c_p_joined k_p_joined
  have b_p_joined := F_p_joined.binds (ps := ["lot", "other"]) fun _ _ _ _ _ _ us hl => match us, hl with | [_, _], _ => rfl
  have g_p_joined := PySem.W.mg_of X G a_p_joined
  have F_p_parts_of : FunC K "parts_of" "parts_of" p_parts_of f_p_parts_of (PySem.W.fnOf "parts_of" "parts_of" (defArgs p_parts_of) (defBody p_parts_of) (defScope p_parts_of) .none kV_p_parts_of dc_p_parts_of pm_p_parts_of an_p_parts_of (.ref cc) ct_p_parts_of) cc := ⟨⟨_, _, _, _, _, _, _, _, rfl, l_p_parts_of, c_p_parts_of⟩, k_p_parts_of⟩
  have b_p_parts_of := F_p_parts_of.fn.binds (ps := ["lot"]) fun _ _ _ _ _ _ us hl => match us, hl with | [_], _ => rfl
  have g_p_parts_of := PySem.W.mg_of X G a_p_parts_of
  have F_p_starts := fun_mk (st := p_starts) l_p_starts c_p_starts k_p_starts
  have b_p_starts := F_p_starts.binds (ps := ["net", "wish"]) fun _ _ _ _ _ _ us hl => match us, hl with | [_, _], _ => rfl
  have g_p_starts := PySem.W.mg_of X G a_p_starts
  have F_p_breaks := fun_mk (st := p_breaks) l_p_breaks c_p_breaks k_p_breaks
  have b_p_breaks := F_p_breaks.binds (ps := ["net", "wish", "goal", "places"]) fun _ _ _ _ _ _ us hl => match us, hl with | [_, _, _, _], _ => rfl
  have g_p_breaks := PySem.W.mg_of X G a_p_breaks
  have F_p_posts_passed := fun_mk (st := p_posts_passed) l_p_posts_passed c_p_posts_passed k_p_posts_passed
  have b_p_posts_passed := F_p_posts_passed.binds (ps := ["posts", "places"]) fun _ _ _ _ _ _ us hl => match us, hl with | [_, _], _ => rfl
  have g_p_posts_passed := PySem.W.mg_of X G a_p_posts_passed
  have F_p_passed_with := fun_mk (st := p_passed_with) l_p_passed_with c_p_passed_with k_p_passed_with
  have b_p_passed_with := F_p_passed_with.binds (ps := ["posts", "passed", "place"]) fun _ _ _ _ _ _ us hl => match us, hl with | [_, _, _], _ => rfl
  have g_p_passed_with := PySem.W.mg_of X G a_p_passed_with
  have F_p_fault_at := fun_mk (st := p_fault_at) l_p_fault_at c_p_fault_at k_p_fault_at
  have b_p_fault_at := F_p_fault_at.binds (ps := ["net", "changed", "wish"]) fun _ _ _ _ _ _ us hl => match us, hl with | [_, _, _], _ => rfl
  have g_p_fault_at := PySem.W.mg_of X G a_p_fault_at
  have F_p_check_wishes := fun_mk (st := p_check_wishes) l_p_check_wishes c_p_check_wishes k_p_check_wishes
  have b_p_check_wishes := F_p_check_wishes.binds (ps := ["wishes"]) fun _ _ _ _ _ _ us hl => match us, hl with | [_], _ => rfl
  have g_p_check_wishes := PySem.W.mg_of X G a_p_check_wishes
  have F_p_broken_moments := fun_mk (st := p_broken_moments) l_p_broken_moments c_p_broken_moments k_p_broken_moments
  have b_p_broken_moments := F_p_broken_moments.binds (ps := ["net", "wish"]) fun _ _ _ _ _ _ us hl => match us, hl with | [_, _], _ => rfl
  have g_p_broken_moments := PySem.W.mg_of X G a_p_broken_moments
  have F_p_moments_to_avoid := fun_mk (st := p_moments_to_avoid) l_p_moments_to_avoid c_p_moments_to_avoid k_p_moments_to_avoid
  have b_p_moments_to_avoid := F_p_moments_to_avoid.binds (ps := ["net", "wishes"]) fun _ _ _ _ _ _ us hl => match us, hl with | [_, _], _ => rfl
  have g_p_moments_to_avoid := PySem.W.mg_of X G a_p_moments_to_avoid
  have F_p_safe_rounds := fun_mk (st := p_safe_rounds) l_p_safe_rounds c_p_safe_rounds k_p_safe_rounds
  have b_p_safe_rounds := F_p_safe_rounds.binds (ps := ["changing", "broken"]) fun _ _ _ _ _ _ us hl => match us, hl with | [_, _], _ => rfl
  have g_p_safe_rounds := PySem.W.mg_of X G a_p_safe_rounds
  have F_p_round_numbers := fun_mk (st := p_round_numbers) l_p_round_numbers c_p_round_numbers k_p_round_numbers
  have b_p_round_numbers := F_p_round_numbers.binds (ps := ["safe"]) fun _ _ _ _ _ _ us hl => match us, hl with | [_], _ => rfl
  have g_p_round_numbers := PySem.W.mg_of X G a_p_round_numbers
  have F_p_rounds_needed := fun_mk (st := p_rounds_needed) l_p_rounds_needed c_p_rounds_needed k_p_rounds_needed
  have b_p_rounds_needed := F_p_rounds_needed.binds (ps := ["changing", "safe"]) fun _ _ _ _ _ _ us hl => match us, hl with | [_, _], _ => rfl
  have g_p_rounds_needed := PySem.W.mg_of X G a_p_rounds_needed
  have F_p_needed := fun_mk (st := p_needed) l_p_needed c_p_needed k_p_needed
  have b_p_needed := F_p_needed.binds (ps := ["net", "broken"]) fun _ _ _ _ _ _ us hl => match us, hl with | [_, _], _ => rfl
  have g_p_needed := PySem.W.mg_of X G a_p_needed
  have F_p_cost := fun_mk (st := p_cost) l_p_cost c_p_cost k_p_cost
  have b_p_cost := F_p_cost.binds (ps := ["net", "wishes"]) fun _ _ _ _ _ _ us hl => match us, hl with | [_, _], _ => rfl
  have g_p_cost := PySem.W.mg_of X G a_p_cost
  have F_p_costs := fun_mk (st := p_costs) l_p_costs c_p_costs k_p_costs
  have b_p_costs := F_p_costs.binds (ps := ["net"]) fun _ _ _ _ _ _ us hl => match us, hl with | [_], _ => rfl
  have g_p_costs := PySem.W.mg_of X G a_p_costs
  have F_p_saved := fun_mk (st := p_saved) l_p_saved c_p_saved k_p_saved
  have b_p_saved := F_p_saved.binds (ps := ["net", "wishes", "other"]) fun _ _ _ _ _ _ us hl => match us, hl with | [_, _, _], _ => rfl
  have g_p_saved := PySem.W.mg_of X G a_p_saved
  have F_g_tables := fun_mk (st := c_Net_tables) l_g_tables c_g_tables k_g_tables
  have b_g_tables := F_g_tables.binds (ps := ["self"]) fun _ _ _ _ _ _ us hl => match us, hl with | [_], _ => rfl
  have F_g_sources := fun_mk (st := c_Net_sources) l_g_sources c_g_sources k_g_sources
  have b_g_sources := F_g_sources.binds (ps := ["self"]) fun _ _ _ _ _ _ us hl => match us, hl with | [_], _ => rfl
  have F_g_posts := fun_mk (st := c_Net_posts) l_g_posts c_g_posts k_g_posts
  have b_g_posts := F_g_posts.binds (ps := ["self"]) fun _ _ _ _ _ _ us hl => match us, hl with | [_], _ => rfl
  have F_law := fun_mk (st := s_law) l_law c_law k_law
  have w_MOST_POSTS := PySem.W.mg_of X G v_MOST_POSTS
  have w_MOST_NODES := PySem.W.mg_of X G v_MOST_NODES
  have w_MOST_GOALS := PySem.W.mg_of X G v_MOST_GOALS
  have w_MOST_LETTERS := PySem.W.mg_of X G v_MOST_LETTERS
  have w_WISHES := PySem.W.mg_of X G v_WISHES
  have hW : ∀ H, SqT K H Wa (wishesL.map V.str) := fun H => .inr ⟨_, _, nW, lW, rfl, rfl, by show 4 ≤ sizeLine; decide, .cons ⟨_, rfl⟩ (.cons ⟨_, rfl⟩ (.cons ⟨_, rfl⟩ (.cons ⟨_, rfl⟩ .nil)))⟩
  have hmT : (Pt, ("parts_of.<locals>.<lambda>" : Str)) ∈ ([(Pt, ("parts_of.<locals>.<lambda>" : Str))] : List (Addr × Str)) := List.mem_singleton.mpr rfl
  have huT : ∀ p ∈ ([(Pt, ("parts_of.<locals>.<lambda>" : Str))] : List (Addr × Str)), p.1 = Pt → p.2 = ("parts_of.<locals>.<lambda>" : Str) := fun p hp _ => by rw [List.mem_singleton.mp hp]
  have m_int := PySem.W.mg_none_of X G z_int
  have m_len := PySem.W.mg_none_of X G z_len
  have m_abs := PySem.W.mg_none_of X G z_abs
  have m_list := PySem.W.mg_none_of X G z_list
  have m_dict := PySem.W.mg_none_of X G z_dict
  have m_sorted := PySem.W.mg_none_of X G z_sorted
  have m_range := PySem.W.mg_none_of X G z_range
  have m_isinstance := PySem.W.mg_none_of X G z_isinstance
  have m_str := PySem.W.mg_none_of X G z_str
  have m_tuple := PySem.W.mg_none_of X G z_tuple
  have m_all := PySem.W.mg_none_of X G z_all
  have m_any := PySem.W.mg_none_of X G z_any
  have m_set := PySem.W.mg_none_of X G z_set
  have m_enumerate := PySem.W.mg_none_of X G z_enumerate
  have m_min := PySem.W.mg_none_of X G z_min
  have m_repr := PySem.W.mg_none_of X G z_repr
  have m_reversed := PySem.W.mg_none_of X G z_reversed
  have m_sum := PySem.W.mg_none_of X G z_sum
  have m_bool := PySem.W.mg_none_of X G z_bool
  have FI : FunD K "__init__" "Net.__init__" (defArgs c_Net_init) (defBody c_Net_init) (defScope c_Net_init) [.ref q1, .ref q2] [] fI (PySem.W.fnOf "__init__" "Net.__init__" (defArgs c_Net_init) (defBody c_Net_init) (defScope c_Net_init) (.ref TI) kVI dcI pmI anI cdI ctI) := ⟨⟨ocI, odI, .ref TI, kVI, dcI, pmI, anI, cdI, ctI, slI, rfl, lI, cI, .inr ⟨by simp, TI, _, [.ref q1, .ref q2], nT, rfl, lT, rfl, .cons rfl (.cons rfl .nil)⟩, .inl rfl⟩, kI⟩
  have bI : Binds K (PySem.W.fnOf "__init__" "Net.__init__" (defArgs c_Net_init) (defBody c_Net_init) (defScope c_Net_init) (.ref TI) kVI dcI pmI anI cdI ctI) ["self", "tables", "sources", "posts"] [] := by
    obtain ⟨ds, r, b⟩ := FI.binds1 (ps := ["self", "tables", "sources", "posts"]) 4 2 (by simp) rfl (fun TT kV doc pm an cdv ct us its l1 l2 => match us, l1, its, l2 with | [a, b, c, d], _, [i1, i2], _ => ⟨_, rfl, rfl⟩)
    cases r
    exact b
  have kwC : KwAll K (PySem.W.fnOf "costs" "costs" (defArgs p_costs) (defBody p_costs) (defScope p_costs) .none kV_p_costs dc_p_costs pm_p_costs an_p_costs cd_p_costs ct_p_costs) ["net"] ["net"] List.reverse List.reverse := ⟨fun s ws _ hl => (match ws, (show ws.length = 1 by rw [← List.length_reverse]; exact hl) with | [a], _ => .of_eq (show bindArgs (PySem.W.fnOf "costs" "costs" (defArgs p_costs) (defBody p_costs) (defScope p_costs) .none kV_p_costs dc_p_costs pm_p_costs an_p_costs cd_p_costs ct_p_costs) ⟨[], (["net"] : List Str).zip [a]⟩ = pure ((["net"] : List Str).zip [a]) from rfl)), fun r => Vals.rev r⟩
  have kwO : KwAll K (PySem.W.fnOf "cost" "cost" (defArgs p_cost) (defBody p_cost) (defScope p_cost) .none kV_p_cost dc_p_cost pm_p_cost an_p_cost cd_p_cost ct_p_cost) ["net", "wishes"] ["wishes", "net"] List.reverse List.reverse := ⟨fun s ws _ hl => (match ws, (show ws.length = 2 by rw [← List.length_reverse]; exact hl) with | [a, b], _ => .of_eq (show bindArgs (PySem.W.fnOf "cost" "cost" (defArgs p_cost) (defBody p_cost) (defScope p_cost) .none kV_p_cost dc_p_cost pm_p_cost an_p_cost cd_p_cost ct_p_cost) ⟨[], (["wishes", "net"] : List Str).zip [a, b]⟩ = pure ((["net", "wishes"] : List Str).zip [b, a]) from rfl)), fun r => Vals.rev r⟩
  have kwS : KwAll K (PySem.W.fnOf "saved" "saved" (defArgs p_saved) (defBody p_saved) (defScope p_saved) .none kV_p_saved dc_p_saved pm_p_saved an_p_saved cd_p_saved ct_p_saved) ["net", "wishes", "other"] ["other", "wishes", "net"] List.reverse List.reverse := ⟨fun s ws _ hl => (match ws, (show ws.length = 3 by rw [← List.length_reverse]; exact hl) with | [a, b, c], _ => .of_eq (show bindArgs (PySem.W.fnOf "saved" "saved" (defArgs p_saved) (defBody p_saved) (defScope p_saved) .none kV_p_saved dc_p_saved pm_p_saved an_p_saved cd_p_saved ct_p_saved) ⟨[], (["other", "wishes", "net"] : List Str).zip [a, b, c]⟩ = pure ((["net", "wishes", "other"] : List Str).zip [c, b, a]) from rfl)), fun r => Vals.rev r⟩
  refine ⟨_, fun s v => .of_eq (show bindArgs (PySem.W.fnOf "law" "law" (defArgs s_law) (defBody s_law) (defScope s_law) .none kV_law dc_law pm_law an_law cd_law ct_law) ⟨[v], []⟩ = _ from rfl), fun base _ _ TB => ?_⟩
  have O_s_take := ok_take (P := P) (w := w) (mg := mg) (base := base) F_s_take F_s_blend b_s_blend g_s_blend m_int
  have O_s_pick := ok_pickL (P := P) (w := w) (mg := mg) (base := base) F_s_pick O_s_take k_s_take b_s_take g_s_take m_len
  have O_S_pick := ok_pickS (P := P) (w := w) (mg := mg) (base := base) F_s_pick O_s_take k_s_take b_s_take g_s_take m_len
  have O_s_mixed := ok_mixed (P := P) (w := w) (mg := mg) (base := base) F_s_mixed O_s_take k_s_take b_s_take g_s_take m_len m_list
  have O_s_begin := ok_begin (P := P) (w := w) (mg := mg) (base := base) F_s_begin m_abs
  have O_s_words := ok_words (P := P) (w := w) (mg := mg) (base := base) F_s_words O_s_take k_s_take b_s_take g_s_take O_s_pick O_S_pick k_s_pick b_s_pick g_s_pick m_range
  have O_s_tree := ok_tree (P := P) (w := w) (mg := mg) (base := base) F_s_tree O_s_mixed k_s_mixed b_s_mixed g_s_mixed O_s_pick k_s_pick b_s_pick g_s_pick
  have O_s_path := ok_path (P := P) (w := w) (mg := mg) (base := base) F_s_path O_s_mixed k_s_mixed b_s_mixed g_s_mixed m_enumerate m_dict
  have O_s_wild := ok_wild (P := P) (w := w) (mg := mg) (base := base) F_s_wild O_s_pick k_s_pick b_s_pick g_s_pick
  have O_s_near := ok_near (P := P) (w := w) (mg := mg) (base := base) F_s_near O_s_take k_s_take b_s_take g_s_take O_s_pick k_s_pick b_s_pick g_s_pick m_dict m_sorted m_range
  have O_s_pair := ok_pair (P := P) (w := w) (mg := mg) (base := base) F_s_pair O_s_take k_s_take b_s_take g_s_take O_s_tree k_s_tree b_s_tree g_s_tree O_s_path k_s_path b_s_path g_s_path O_s_wild k_s_wild b_s_wild g_s_wild O_s_near k_s_near b_s_near g_s_near
  have O_s_model := ok_model (P := P) (w := w) (mg := mg) (base := base) F_s_model O_s_take k_s_take b_s_take g_s_take O_s_pick k_s_pick b_s_pick g_s_pick O_s_mixed k_s_mixed b_s_mixed g_s_mixed O_s_words k_s_words b_s_words g_s_words O_s_pair k_s_pair b_s_pair g_s_pair m_sorted m_min
  have O_p_is_list := ok_is_list (P := P) (w := w) (mg := mg) (base := base) F_p_is_list m_isinstance m_list m_tuple
  have O_p_is_name := ok_is_name (P := P) (w := w) (mg := mg) (base := base) F_p_is_name m_isinstance m_str m_len m_all w_MOST_LETTERS
  have O_p_is_place := ok_is_place (P := P) (w := w) (mg := mg) (base := base) F_p_is_place
  have O_p_is_table := ok_is_table (P := P) (w := w) (mg := mg) (base := base) F_p_is_table O_p_is_place k_p_is_place b_p_is_place g_p_is_place m_len m_all
  have O_p_are_different := ok_diff (P := P) (w := w) (mg := mg) (base := base) F_p_are_different O_p_is_list k_p_is_list b_p_is_list g_p_is_list m_len m_all m_set
  have O_p_are_nodes := ok_nodes (P := P) (w := w) (mg := mg) (base := base) F_p_are_nodes O_p_is_name k_p_is_name b_p_is_name g_p_is_name m_len m_all w_MOST_NODES
  have O_p_is_pair_of_dicts := ok_pairD (P := P) (w := w) (mg := mg) (base := base) F_p_is_pair_of_dicts m_isinstance m_tuple m_dict m_len m_all
  have O_p_are_tables := ok_tables (P := P) (w := w) (mg := mg) (base := base) F_p_are_tables O_p_is_name k_p_is_name b_p_is_name g_p_is_name O_p_is_pair_of_dicts k_p_is_pair_of_dicts b_p_is_pair_of_dicts g_p_is_pair_of_dicts O_p_are_nodes k_p_are_nodes b_p_are_nodes g_p_are_nodes O_p_is_table k_p_is_table b_p_is_table g_p_is_table m_isinstance m_dict m_list m_len m_all w_MOST_GOALS
  have O_I := ok_init (P := P) (w := w) (mg := mg) (base := base) FI T O_p_are_tables k_p_are_tables b_p_are_tables g_p_are_tables O_p_are_different k_p_are_different b_p_are_different g_p_are_different m_list m_tuple m_sorted m_len w_MOST_POSTS
  have O_g_goals := ok_goals (P := P) (w := w) (mg := mg) (base := base) F_g_goals T m_tuple
  have O_g_nodes := ok_dots (P := P) (w := w) (mg := mg) (base := base) F_g_nodes T
  have O_g_changing := ok_changing (P := P) (w := w) (mg := mg) (base := base) F_g_changing T m_tuple m_list m_any
  have O_g_tables := ok_tabs (P := P) (w := w) (mg := mg) (base := base) F_g_tables T m_dict
  have O_g_sources := ok_sources (P := P) (w := w) (mg := mg) (base := base) F_g_sources T
  have O_g_posts := ok_posts (P := P) (w := w) (mg := mg) (base := base) F_g_posts T
  have R_goals : Prp P w K mg base C 1 "goals" (spGoals C) := ⟨_, _, _, ⟨a_g_goals, ge_g_goals, ta_g_goals, _, re_g_goals⟩, O_g_goals, b_g_goals⟩
  have R_nodes : Prp P w K mg base C 1 "nodes" (spDots C) := ⟨_, _, _, ⟨a_g_nodes, ge_g_nodes, ta_g_nodes, _, re_g_nodes⟩, O_g_nodes, b_g_nodes⟩
  have R_changing : Prp P w K mg base C 2 "changing" (spChanging C) := ⟨_, _, _, ⟨a_g_changing, ge_g_changing, ta_g_changing, _, re_g_changing⟩, O_g_changing, b_g_changing⟩
  have R_tables : Prp P w K mg base C 1 "tables" (spTabs C) := ⟨_, _, _, ⟨a_g_tables, ge_g_tables, ta_g_tables, _, re_g_tables⟩, O_g_tables, b_g_tables⟩
  have R_sources : Prp P w K mg base C 1 "sources" (spSources C) := ⟨_, _, _, ⟨a_g_sources, ge_g_sources, ta_g_sources, _, re_g_sources⟩, O_g_sources, b_g_sources⟩
  have R_posts : Prp P w K mg base C 1 "posts" (spPosts C) := ⟨_, _, _, ⟨a_g_posts, ge_g_posts, ta_g_posts, _, re_g_posts⟩, O_g_posts, b_g_posts⟩
  have O_p_check_goal := ok_check_goal (P := P) (w := w) (mg := mg) (base := base) F_p_check_goal T R_goals
  have O_p_check_node := ok_check_node (P := P) (w := w) (mg := mg) (base := base) F_p_check_node T R_nodes
  have O_p_check_net := ok_check_net (P := P) (w := w) (mg := mg) (base := base) F_p_check_net T Is m_isinstance mNet
  have O_p_followed := ok_followed (P := P) (w := w) (mg := mg) (base := base) F_p_followed
  have O_p_joined := ok_joined (P := P) (w := w) (mg := mg) (base := base) F_p_joined m_tuple m_sorted
  have O_p_parts_of := ok_parts_of (P := P) (w := w) (mg := mg) (base := base) F_p_parts_of TB hmT huT m_sorted m_len
  have O_W_ways_at := ok_ways_at (P := P) (w := w) (mg := mg) (base := base) F_p_ways_at T R_tables R_nodes
  have O_p_starts := ok_starts (P := P) (w := w) (mg := mg) (base := base) F_p_starts T R_nodes R_sources
  have O_p_passed_with := ok_passed_with (P := P) (w := w) (mg := mg) (base := base) F_p_passed_with m_len
  have O_p_posts_passed := ok_posts_passed (P := P) (w := w) (mg := mg) (base := base) F_p_posts_passed ⟨_, _, O_p_passed_with, k_p_passed_with, b_p_passed_with, g_p_passed_with⟩
  have O_p_breaks := ok_breaks (P := P) (w := w) (mg := mg) (base := base) F_p_breaks T R_posts ⟨_, _, O_p_posts_passed, k_p_posts_passed, b_p_posts_passed, g_p_posts_passed⟩ m_len
  have O_p_fault_at := ok_fault_at (P := P) (w := w) (mg := mg) (base := base) F_p_fault_at T R_goals ⟨_, _, O_W_ways_at, k_p_ways_at, b_p_ways_at, g_p_ways_at⟩ ⟨_, _, O_p_starts, k_p_starts, b_p_starts, g_p_starts⟩ ⟨_, _, O_p_breaks, k_p_breaks, b_p_breaks, g_p_breaks⟩ ⟨_, _, O_p_followed, k_p_followed, b_p_followed, g_p_followed⟩
  have O_p_check_wishes := ok_check_wishes (P := P) (w := w) (mg := mg) (base := base) F_p_check_wishes ⟨_, _, O_p_are_different, k_p_are_different, b_p_are_different, g_p_are_different⟩ w_WISHES hW
  have O_p_broken_moments := ok_brk (P := P) (w := w) (mg := mg) (base := base) F_p_broken_moments T R_changing ⟨_, _, O_p_parts_of, k_p_parts_of, b_p_parts_of, g_p_parts_of⟩ ⟨_, _, O_p_fault_at, k_p_fault_at, b_p_fault_at, g_p_fault_at⟩
  have O_p_moments_to_avoid := ok_avoid (P := P) (w := w) (mg := mg) (base := base) F_p_moments_to_avoid ⟨_, _, O_p_broken_moments, k_p_broken_moments, b_p_broken_moments, g_p_broken_moments⟩
  have O_p_safe_rounds := ok_safeR (P := P) (w := w) (mg := mg) (base := base) F_p_safe_rounds ⟨_, _, O_p_parts_of, k_p_parts_of, b_p_parts_of, g_p_parts_of⟩ ⟨_, _, O_p_joined, k_p_joined, b_p_joined, g_p_joined⟩ m_reversed m_list m_sorted
  have O_p_round_numbers := ok_nums (P := P) (w := w) (mg := mg) (base := base) F_p_round_numbers ⟨_, _, O_p_joined, k_p_joined, b_p_joined, g_p_joined⟩
  have O_p_rounds_needed := ok_needed (P := P) (w := w) (mg := mg) (base := base) F_p_rounds_needed ⟨_, _, O_p_round_numbers, k_p_round_numbers, b_p_round_numbers, g_p_round_numbers⟩
  have O_s_net := ok_net (P := P) (w := w) (mg := mg) (base := base) F_s_net ⟨mk, aI, iI, kc⟩ O_I bI mNet
  have O_s_moving_dots := ok_moves (P := P) (w := w) (mg := mg) (base := base) F_s_moving_dots
  have O_s_now := ok_now (P := P) (w := w) (mg := mg) (base := base) F_s_now m_dict
  have O_s_walk := ok_walk (P := P) (w := w) (mg := mg) (base := base) F_s_walk
  have O_p_needed := ok_needN (P := P) (w := w) (mg := mg) (base := base) F_p_needed T R_changing ⟨_, _, O_p_safe_rounds, k_p_safe_rounds, b_p_safe_rounds, g_p_safe_rounds⟩ ⟨_, _, O_p_rounds_needed, k_p_rounds_needed, b_p_rounds_needed, g_p_rounds_needed⟩
  have O_p_costs := ok_costs (P := P) (w := w) (mg := mg) (base := base) F_p_costs ⟨_, _, O_p_check_net, k_p_check_net, b_p_check_net, g_p_check_net⟩ ⟨_, _, O_p_broken_moments, k_p_broken_moments, b_p_broken_moments, g_p_broken_moments⟩ ⟨_, _, O_p_parts_of, k_p_parts_of, b_p_parts_of, g_p_parts_of⟩ ⟨_, _, O_p_needed, k_p_needed, b_p_needed, g_p_needed⟩ w_WISHES hW m_sorted
  have O_p_cost := ok_cost (P := P) (w := w) (mg := mg) (base := base) F_p_cost ⟨_, _, O_p_check_net, k_p_check_net, b_p_check_net, g_p_check_net⟩ ⟨_, _, O_p_check_wishes, k_p_check_wishes, b_p_check_wishes, g_p_check_wishes⟩ ⟨_, _, O_p_moments_to_avoid, k_p_moments_to_avoid, b_p_moments_to_avoid, g_p_moments_to_avoid⟩ ⟨_, _, O_p_needed, k_p_needed, b_p_needed, g_p_needed⟩
  have O_s_sorts := ok_sorts (P := P) (w := w) (mg := mg) (base := base) F_s_sorts
  have O_s_wants := ok_wants (P := P) (w := w) (mg := mg) (base := base) F_s_wants ⟨_, _, O_s_mixed, k_s_mixed, b_s_mixed, g_s_mixed⟩ ⟨_, _, O_s_pick, k_s_pick, b_s_pick, g_s_pick⟩ ⟨_, _, O_s_sorts, k_s_sorts, b_s_sorts, g_s_sorts⟩
  have O_s_lots := ok_llots (P := P) (w := w) (mg := mg) (base := base) F_s_lots m_len m_sorted
  have O_s_misses := ok_misses (P := P) (w := w) (mg := mg) (base := base) F_s_misses m_list
  have O_s_breaks := ok_breaksL (P := P) (w := w) (mg := mg) (base := base) F_s_breaks ⟨_, _, O_s_now, k_s_now, b_s_now, g_s_now⟩ ⟨_, _, O_s_walk, k_s_walk, b_s_walk, g_s_walk⟩ ⟨_, _, O_s_misses, k_s_misses, b_s_misses, g_s_misses⟩
  have O_s_join := ok_joinL (P := P) (w := w) (mg := mg) (base := base) F_s_join m_tuple m_sorted
  have O_s_bad := ok_badL (P := P) (w := w) (mg := mg) (base := base) F_s_bad ⟨_, _, O_s_moving_dots, k_s_moving_dots, b_s_moving_dots, g_s_moving_dots⟩ ⟨_, _, O_s_lots, k_s_lots, b_s_lots, g_s_lots⟩ ⟨_, _, O_s_sorts, k_s_sorts, b_s_sorts, g_s_sorts⟩ ⟨_, _, O_s_breaks, k_s_breaks, b_s_breaks, g_s_breaks⟩ m_int
  have O_s_stands := ok_standsL (P := P) (w := w) (mg := mg) (base := base) F_s_stands ⟨_, _, O_s_lots, k_s_lots, b_s_lots, g_s_lots⟩ m_len
  have O_s_fewest := ok_fewL (P := P) (w := w) (mg := mg) (base := base) F_s_fewest ⟨_, _, O_s_moving_dots, k_s_moving_dots, b_s_moving_dots, g_s_moving_dots⟩ ⟨_, _, O_s_lots, k_s_lots, b_s_lots, g_s_lots⟩ ⟨_, _, O_s_join, k_s_join, b_s_join, g_s_join⟩ ⟨_, _, O_s_stands, k_s_stands, b_s_stands, g_s_stands⟩ m_tuple
  have O_p_saved := ok_saved (P := P) (w := w) (mg := mg) (base := base) F_p_saved ⟨_, _, O_p_cost, k_p_cost, b_p_cost, g_p_cost⟩
  have O_s_all_costs := ok_all (P := P) (w := w) (mg := mg) (base := base) F_s_all_costs ⟨_, _, O_s_bad, k_s_bad, b_s_bad, g_s_bad⟩ ⟨_, _, O_s_lots, k_s_lots, b_s_lots, g_s_lots⟩ ⟨_, _, O_s_sorts, k_s_sorts, b_s_sorts, g_s_sorts⟩ ⟨_, _, O_s_fewest, k_s_fewest, b_s_fewest, g_s_fewest⟩ m_dict m_sorted
  have O_s_right := ok_rightC (P := P) (w := w) (mg := mg) (base := base) F_s_right ⟨_, _, O_s_net, k_s_net, b_s_net, g_s_net⟩ ⟨_, _, O_s_wants, k_s_wants, b_s_wants, g_s_wants⟩ O_p_costs k_p_costs b_p_costs g_p_costs kwC O_p_cost k_p_cost b_p_cost g_p_cost kwO O_p_saved k_p_saved b_p_saved g_p_saved kwS m_tuple m_sorted m_repr
  exact ok_law F_law  ⟨_, _, O_s_begin, k_s_begin, b_s_begin, g_s_begin⟩ ⟨_, _, O_s_mixed, k_s_mixed, b_s_mixed, g_s_mixed⟩ ⟨_, _, O_s_model, k_s_model, b_s_model, g_s_model⟩ ⟨_, _, O_s_all_costs, k_s_all_costs, b_s_all_costs, g_s_all_costs⟩ O_s_right k_s_right b_s_right g_s_right m_range m_min m_len m_dict
end Rw
end T_Z0

section T_YT
set_option Elab.async false
set_option linter.all false
set_option maxRecDepth 100000
set_option maxHeartbeats 2000000
namespace Rw
open PySem PySem.Spec PySem.Calls L2 PyProof.Rows LamX
theorem tabs_one {H : Hp} {P : Addr} {q : Str} (h : H P = some (.tbl #[])) : Tabs [(P, q)] H := fun p hp => by
  rw [List.mem_singleton.mp hp]
  exact TabS.nil h
/-- the end of a row whose program makes lambdas in one def, x0 -/
theorem walk_ofTT {l : PySem.W.OpenLaw} {n k : Nat} {q : Program} {loose : List Str} {XP : (Str → Option Value) → Heap → Prop} {YP : World → Heap → Prop} {d d0 : DefRec} {K : Params → PySem.W.Frag} {sp : PySem.W.Frag → Sp} {x x0 : Str} {c0 P0 : Addr}
    (most : l.most = some n) (small : n ≤ sizeLine) (nodef : d.params.defaults = []) (room : Room k callerA) (knows : ∀ (w : World) (h : Heap), YP w h → (K w.params).In h)
    (hr : (recsOf q).find? (fun e => e.name == x0) = some d0) (ht : ∀ w : World, PySem.W.tabIn (K w.params) x0 = some (c0, P0)) (nP : ∀ w : World, (K w.params).lookup P0 = none)
    (F : ∀ (w : World) (mg : Str → Option Value) (fa : Addr) (h : Heap), (K w.params).In h → h.Ns mainGlobals mg → mg d.name = some (.ref fa) →
      ∃ fd : FuncData, (∀ (s : Shared) (u : Value), BindsTo s fd ⟨[u], []⟩ [(x, u)]) ∧ ∀ base : Heap, (K w.params).In base → base.Ns mainGlobals mg → TabB base mg c0 P0 → FnOk l.prog w (K w.params) mg base CX0 k fa fd [x] (sp (K w.params)))
    (prom : ∀ (w : World) (H : Hp) (a : Addr) (ns : List Int), ns.length ≤ n → H P0 = some (.tbl #[]) → SqL (K w.params) H a (ns.map V.int) → sp (K w.params) [.ref a] H (fun v _ => v = .bl true) fun _ _ _ => False) :
    PySem.W.WalkO q loose XP YP l.row.toRowW d [] (fun f vs => PySem.call f vs) := by
  refine Att.attach_callB most nodef fun w s₀ s₁ mg mb fa o pm cd doc a vs ns G Y ho hd hcd hmg hobj hints hlen hbits hg => ?_
  have KX := knows w _ Y
  obtain ⟨C, hP⟩ := PySem.W.tab_of G.T KX hr (ht w)
  obtain ⟨fd, bind, all⟩ := F w mg fa _ KX G.T.g hmg
  exact law_callTs (CX := CX0) (sp := sp (K w.params)) (cs := [(c0, P0)]) KX G.T.g G.T.b G.T.builtins G.T.nolimit hg (fun p hp => by rw [List.mem_singleton.mp hp]; exact hP) (fun p hp => by rw [List.mem_singleton.mp hp]; exact nP w) (fun p hp => by rw [List.mem_singleton.mp hp]; exact C) G.T.bmain hobj hints (Nat.le_trans hlen small) room
    (fun base i j t => all base i j (t _ (List.mem_singleton.mpr rfl))) bind (fun H hH hS => prom w H a ns hlen (hH _ (List.mem_singleton.mpr rfl)) hS) fun H e s' h => h
end Rw
end T_YT

section T_YG
set_option Elab.async false
set_option linter.all false
set_option maxRecDepth 100000
set_option maxHeartbeats 4000000
namespace Rw
open PySem PySem.Spec PySem.Calls L2 PyProof.Rows LamX
/-- the law's own call, its def a FnG, its program making lambdas in one def -/
theorem law_goesT {P : Program} {w : World} {K : PySem.W.Frag} {mg mb : Str → Option Value} {k : Nat} {fa a c0 P0 : Addr} {fd : FuncData} {x : Str} {sp : Sp} {s : Shared} {vs : List Value} {ns : List Int}
    (KX : K.In s.heap) (hns : s.heap.Ns mainGlobals mg) (hb : s.heap.Ns builtinsNs mb) (hbb : ∀ y : Str, y ≠ "__name__" → mb y = bootBuiltins y) (hlim : s.heap.NoLimit) (hg : s.gens = #[])
    (hT : s.heap.get? P0 = some { cls := Value.none, data := Data.fields #[] }) (nT : K.lookup P0 = none) (C : PySem.W.CodeHd s.heap c0 P0)
    (hbm : ∃ bm ob, mg "__builtins__" = some (Value.ref bm) ∧ bm ≠ builtinsNs ∧ s.heap.get? bm = some ob ∧ ob.cls = Value.type "module" ∧ ob.dict = some builtinsNs ∧ ob.data = Data.plain)
    (ha : s.heap.get? a = some { cls := .type "list", data := .seq vs.toArray }) (hi : IntsAre vs ns) (hl : ns.length ≤ sizeLine) (hr : Room k callerA)
    (F : ∀ base : Heap, K.In base → base.Ns mainGlobals mg → TabB base mg c0 P0 → FnG P w K mg base CX0 k fa fd [x] sp) (bind : ∀ (s : Shared) (u : Value), BindsTo s fd ⟨[u], []⟩ [(x, u)])
    (prom : ∀ H : Hp, H P0 = some (.tbl #[]) → SqL K H a (ns.map V.int) → sp [.ref a] H (fun v _ => v = .bl true) fun _ _ _ => False) :
    codeAny (model P w) callerA (.call (.ref fa) ⟨[.ref a], []⟩) (fun r s' => r = .ok (.ret (.bool true)) ∧ OldK s.heap s'.heap ∧ s'.os = s.os ∧ AllBare s'.gens) s := by
  have items := vals_ints hi
  have aT : a ≠ P0 := fun z => by
    rw [z, hT] at ha
    cases ha
  have core : ∀ H : Hp, H P0 = some (.tbl #[]) → (∀ b u, H b = some u → (b = a ∧ K.lookup a = none ∧ u = .frz { cls := .type "list", data := .seq vs.toArray } (.lst (ns.map V.int))) ∨ (b = P0 ∧ u = .tbl #[])) → SqL K H a (ns.map V.int) →
      codeAny (model P w) callerA (.call (.ref fa) ⟨[.ref a], []⟩) (fun r s' => r = .ok (.ret (.bool true)) ∧ OldK s.heap s'.heap ∧ s'.os = s.os ∧ AllBare s'.gens) s := by
    intro H hH sole hS
    have held : HOk P w H s.heap := fun b u z => by
      rcases sole b u z with ⟨rfl, _, rfl⟩ | ⟨rfl, rfl⟩
      · exact ⟨ha, by rw [List.length_map]; exact hl, vs, _, items, ha⟩
      · exact hT
    have noD : ∀ {b : Addr} {o : Obj}, s.heap.get? b = some o → (∀ us n, o.data ≠ Data.seq us n) → o.data ≠ Data.fields #[] → H b = none := fun {b o} e h1 h2 => by
      cases z : H b with
      | none => rfl
      | some u =>
        rcases sole b u z with ⟨rfl, _, _⟩ | ⟨rfl, _⟩
        · rw [ha] at e
          cases e
          exact absurd rfl (h1 _ _)
        · rw [hT] at e
          cases e
          exact absurd rfl h2
    have nsK : ∀ {b : Addr} {m : Str → Option Value}, s.heap.Ns b m → (hidT s.heap H).Ns b m := by
      rintro b m ⟨o, es, ep, at_b, isD, rest⟩
      exact ⟨o, es, ep, hidT_get at_b (noD at_b (fun us n z => by rw [isD] at z; cases z) (fun z => by rw [isD] at z; cases z)), isD, rest⟩
    have hKb : K.In (hidT s.heap H) := fun b o at_b => hidT_get (KX b o at_b) (by
      cases z : H b with
      | none => rfl
      | some u =>
        rcases sole b u z with ⟨rfl, no, _⟩ | ⟨rfl, _⟩
        · rw [no] at at_b
          cases at_b
        · rw [nT] at at_b
          cases at_b)
    have lim_hid : (hidT s.heap H).NoLimit := by
      obtain ⟨mc, q1, q2⟩ := hlim
      exact ⟨mc, nsK q1, q2⟩
    have gP : mainGlobals ≠ P0 := fun z => by
      obtain ⟨o, es, ep, e, hd, _⟩ := hns
      rw [z, hT] at e
      cases e
      cases hd
    have TB : TabB (hidT s.heap H) mg c0 P0 := by
      refine ⟨?_, ?_, gP⟩
      · obtain ⟨o, us, file, tf, flags, tg, inF, text, tt, e1, r1, r2, r3, r4, r5, r6, r7, r8, hne⟩ := C
        refine ⟨o, us, file, tf, flags, tg, inF, text, tt, hidT_get e1 (noD e1 (fun us n z => by rw [r2] at z; cases z) fun z => ?_), r1, r2, r3, r4, r5, r6, r7, r8, hne⟩
        rw [r2] at z
        cases z
        simp at r3
      · obtain ⟨bm, ob, b1, b2, b3, b4, b5, b6⟩ := hbm
        refine ⟨bm, ob, b1, b2, fun q => ?_, fun q => ?_, hidT_get b3 (noD b3 (fun us n z => by rw [b6] at z; cases z) (fun z => by rw [b6] at z; cases z)), b4, b5, b6⟩
        · obtain ⟨o, es, ep, e, hd, _⟩ := hns
          rw [q, e] at b3
          cases b3
          rw [hd] at b6
          cases b6
        · rw [q, hT] at b3
          cases b3
          cases b6
    have here : Env0 P w K mg (hidT s.heap H) callerA [] s H :=
      { frames := rfl, mod := ⟨hKb, nsK hns, ⟨mb, nsK hb, hbb⟩, lim_hid⟩, bs := fun b o => of_hidT, bsz := Nat.le_of_eq (hidT_size _ _), funs := trivial,
        frf := fun b hb => (by cases hb), hok := held, bare := .of_eq hg }
    have ran := (F _ hKb (nsK hns) TB).goes callerA [] s H ⟨[.ref a], []⟩ [.ref a] [.ref a] _ _ rfl hr here (bind s (.ref a)) (.cons rfl .nil) (prom H hH hS)
    refine codeAny_mono ran fun out s' got => ?_
    match out, got with
    | .error _, got => exact got.elim
    | .ok .next, got => exact got.elim
    | .ok .brk, got => exact got.elim
    | .ok .cont, got => exact got.elim
    | .ok (.ret u), got =>
      obtain ⟨v, H', os, bare, un, held', rel, yes⟩ := got
      have yes' : v = .bl true := yes
      subst yes'
      have u_is : u = Value.bool true := rel
      subst u_is
      have key : ∀ b o, b ≠ P0 → s.heap.get? b = some o → s'.heap.get? b = some o := fun b o nb at_b => by
        cases z : H b with
        | none => exact un.keep b o at_b z (fun hb => by cases hb) (fun hb => by cases hb)
        | some u =>
          rcases sole b u z with ⟨rfl, _, rfl⟩ | ⟨rfl, _⟩
          · obtain ⟨still, _⟩ := held' b _ (un.frzs b _ _ z)
            rw [ha] at at_b
            cases at_b
            exact still
          · exact absurd rfl nb
      obtain ⟨more, z⟩ := un.tbls P0 #[] hH
      have hm : s'.heap.get? P0 = some { cls := Value.none, data := Data.fields (#[] ++ more) } := held' P0 _ z
      refine ⟨rfl, { old := fun b o e => ?_, there := fun b o e => ?_ }, os, bare⟩
      · by_cases nb : b = P0
        · subst nb
          have e' := e
          rw [hT] at e'
          cases e'
          exact .inr (.inl ⟨Heap.TableAt.isCodeTable (PySem.W.CodeHd.tab C hT), rfl, #[], more, rfl, hm⟩)
        · exact .inl (key b o nb e)
      · by_cases nb : b = P0
        · subst nb
          exact ⟨_, hm⟩
        · exact ⟨o, key b o nb e⟩
  cases kn : K.lookup a with
  | none =>
    refine core (fun b => if b = a then some (.frz { cls := .type "list", data := .seq vs.toArray } (.lst (ns.map V.int))) else if b = P0 then some (.tbl #[]) else none) ?_ (fun b u z => ?_) (.inl (.inr ⟨_, if_pos rfl⟩))
    · show (if P0 = a then _ else _) = _
      rw [if_neg aT.symm, if_pos rfl]
    · by_cases e : b = a
      · rw [if_pos e] at z
        exact .inl ⟨e, kn, (Option.some.inj z).symm⟩
      · rw [if_neg e] at z
        by_cases e2 : b = P0
        · rw [if_pos e2] at z
          exact .inr ⟨e2, (Option.some.inj z).symm⟩
        · rw [if_neg e2] at z
          cases z
  | some o =>
    have o_is := KX a o kn
    rw [ha] at o_is
    cases o_is
    refine core (fun b => if b = P0 then some (.tbl #[]) else none) (if_pos rfl) (fun b u z => ?_) (.inr ⟨_, vs.toArray, _, kn, rfl, rfl, rfl, by rw [List.size_toArray, hi.length]; exact hl, by simpa using items⟩)
    by_cases e2 : b = P0
    · rw [if_pos e2] at z
      exact .inr ⟨e2, (Option.some.inj z).symm⟩
    · rw [if_neg e2] at z
      cases z
/-- the end of a row whose program makes lambdas in one def, x0, its law a FnG -/
theorem walk_ofGT {l : PySem.W.OpenLaw} {n k : Nat} {q : Program} {loose : List Str} {XP : (Str → Option Value) → Heap → Prop} {YP : World → Heap → Prop} {d d0 : DefRec} {K : Params → PySem.W.Frag} {sp : PySem.W.Frag → Sp} {x x0 : Str} {c0 P0 : Addr}
    (most : l.most = some n) (small : n ≤ sizeLine) (nodef : d.params.defaults = []) (room : Room k callerA) (knows : ∀ (w : World) (h : Heap), YP w h → (K w.params).In h)
    (hr : (recsOf q).find? (fun e => e.name == x0) = some d0) (ht : ∀ w : World, PySem.W.tabIn (K w.params) x0 = some (c0, P0)) (nP : ∀ w : World, (K w.params).lookup P0 = none)
    (F : ∀ (w : World) (mg : Str → Option Value) (fa : Addr) (h : Heap), (K w.params).In h → h.Ns mainGlobals mg → mg d.name = some (.ref fa) →
      ∃ fd : FuncData, (∀ (s : Shared) (u : Value), BindsTo s fd ⟨[u], []⟩ [(x, u)]) ∧ ∀ base : Heap, (K w.params).In base → base.Ns mainGlobals mg → TabB base mg c0 P0 → FnG l.prog w (K w.params) mg base CX0 k fa fd [x] (sp (K w.params)))
    (prom : ∀ (w : World) (H : Hp) (a : Addr) (ns : List Int), ns.length ≤ n → H P0 = some (.tbl #[]) → SqL (K w.params) H a (ns.map V.int) → sp (K w.params) [.ref a] H (fun v _ => v = .bl true) fun _ _ _ => False) :
    PySem.W.WalkO q loose XP YP l.row.toRowW d [] (fun f vs => PySem.call f vs) := by
  refine Att.attach_callB most nodef fun w s₀ s₁ mg mb fa o pm cd doc a vs ns G Y ho hd hcd hmg hobj hints hlen hbits hg => ?_
  have KX := knows w _ Y
  obtain ⟨C, hP⟩ := PySem.W.tab_of G.T KX hr (ht w)
  obtain ⟨fd, bind, all⟩ := F w mg fa _ KX G.T.g hmg
  exact law_goesT KX G.T.g G.T.b G.T.builtins G.T.nolimit hg hP (nP w) C G.T.bmain hobj hints (Nat.le_trans hlen small) room all bind fun H hH hS => prom w H a ns hlen hH hS
end Rw
end T_YG

section T_Z1
set_option Elab.async false
set_option maxRecDepth 100000
open PySem PySem.W PyProof.Rows
set_option maxRecDepth 100000 in
set_option maxHeartbeats 0 in
theorem PySem.Challenge.cw_roundways_k39_costs_of_wishes_holds : PySem.Challenge.rw_roundways_k39_costs_of_wishes.Holds := by
  w_on; o_law; k_head; (case hw => w_witness2)
  k_fill
  refine' Rw.walk_ofGT (l := PySem.Challenge.rw_roundways_k39_costs_of_wishes) (n := 63) (k := 11) (x := "script") (x0 := "parts_of") (c0 := ?c0) (P0 := ?P0) (d0 := ?d0) (sp := fun K => Rw.spLaw K [(?P0, ("parts_of.<locals>.<lambda>" : Str))]) rfl (by decide) rfl ⟨rfl, by decide, by decide⟩ (fun w h Y => PySem.W.km_in_of Y) ?hr ?ht ?nP ?F (fun w H a ns few hH hS => ⟨a, ns, rfl, hS, few, Rw.tabs_one hH, fun _ => rfl⟩)
  case hr => rfl
  case ht => intro w; rfl
  case nP => intro w; rfl
  case F =>
    intro w mg fa h KX G hmg
    refine' Rw.all_mk KX G hmg ?aC ?a_s_begin ?l_s_begin ?c_s_begin ?k_s_begin ?a_s_blend ?l_s_blend ?c_s_blend ?k_s_blend ?a_s_take ?l_s_take ?c_s_take ?k_s_take ?a_s_pick ?l_s_pick ?c_s_pick ?k_s_pick ?a_s_mixed ?l_s_mixed ?c_s_mixed ?k_s_mixed ?a_s_words ?l_s_words ?c_s_words ?k_s_words ?a_s_tree ?l_s_tree ?c_s_tree ?k_s_tree ?a_s_path ?l_s_path ?c_s_path ?k_s_path ?a_s_wild ?l_s_wild ?c_s_wild ?k_s_wild ?a_s_near ?l_s_near ?c_s_near ?k_s_near ?a_s_pair ?l_s_pair ?c_s_pair ?k_s_pair ?a_s_model ?l_s_model ?c_s_model ?k_s_model ?a_s_net ?l_s_net ?c_s_net ?k_s_net ?a_s_moving_dots ?l_s_moving_dots ?c_s_moving_dots ?k_s_moving_dots ?a_s_now ?l_s_now ?c_s_now ?k_s_now ?a_s_walk ?l_s_walk ?c_s_walk ?k_s_walk ?a_s_lots ?l_s_lots ?c_s_lots ?k_s_lots ?a_s_misses ?l_s_misses ?c_s_misses ?k_s_misses ?a_s_breaks ?l_s_breaks ?c_s_breaks ?k_s_breaks ?a_s_sorts ?l_s_sorts ?c_s_sorts ?k_s_sorts ?a_s_join ?l_s_join ?c_s_join ?k_s_join ?a_s_bad ?l_s_bad ?c_s_bad ?k_s_bad ?a_s_stands ?l_s_stands ?c_s_stands ?k_s_stands ?a_s_fewest ?l_s_fewest ?c_s_fewest ?k_s_fewest ?a_s_wants ?l_s_wants ?c_s_wants ?k_s_wants ?a_s_all_costs ?l_s_all_costs ?c_s_all_costs ?k_s_all_costs ?a_s_right ?l_s_right ?c_s_right ?k_s_right ?a_p_is_list ?l_p_is_list ?c_p_is_list ?k_p_is_list ?a_p_is_name ?l_p_is_name ?c_p_is_name ?k_p_is_name ?a_p_is_place ?l_p_is_place ?c_p_is_place ?k_p_is_place ?a_p_is_table ?l_p_is_table ?c_p_is_table ?k_p_is_table ?a_p_are_different ?l_p_are_different ?c_p_are_different ?k_p_are_different ?a_p_are_nodes ?l_p_are_nodes ?c_p_are_nodes ?k_p_are_nodes ?a_p_is_pair_of_dicts ?l_p_is_pair_of_dicts ?c_p_is_pair_of_dicts ?k_p_is_pair_of_dicts ?a_p_are_tables ?l_p_are_tables ?c_p_are_tables ?k_p_are_tables ?a_p_check_net ?l_p_check_net ?c_p_check_net ?k_p_check_net ?a_p_check_goal ?l_p_check_goal ?c_p_check_goal ?k_p_check_goal ?a_g_goals ?ge_g_goals ?ta_g_goals ?re_g_goals ?l_g_goals ?c_g_goals ?k_g_goals ?a_g_nodes ?ge_g_nodes ?ta_g_nodes ?re_g_nodes ?l_g_nodes ?c_g_nodes ?k_g_nodes ?a_g_changing ?ge_g_changing ?ta_g_changing ?re_g_changing ?l_g_changing ?c_g_changing ?k_g_changing ?a_p_check_node ?l_p_check_node ?c_p_check_node ?k_p_check_node ?a_p_followed ?l_p_followed ?c_p_followed ?k_p_followed ?a_p_ways_at ?l_p_ways_at ?c_p_ways_at ?k_p_ways_at ?a_p_joined ?l_p_joined ?c_p_joined ?k_p_joined ?a_p_parts_of ?l_p_parts_of ?c_p_parts_of ?k_p_parts_of ?a_p_starts ?l_p_starts ?c_p_starts ?k_p_starts ?a_p_breaks ?l_p_breaks ?c_p_breaks ?k_p_breaks ?a_p_posts_passed ?l_p_posts_passed ?c_p_posts_passed ?k_p_posts_passed ?a_p_passed_with ?l_p_passed_with ?c_p_passed_with ?k_p_passed_with ?a_p_fault_at ?l_p_fault_at ?c_p_fault_at ?k_p_fault_at ?a_p_check_wishes ?l_p_check_wishes ?c_p_check_wishes ?k_p_check_wishes ?a_p_broken_moments ?l_p_broken_moments ?c_p_broken_moments ?k_p_broken_moments ?a_p_moments_to_avoid ?l_p_moments_to_avoid ?c_p_moments_to_avoid ?k_p_moments_to_avoid ?a_p_safe_rounds ?l_p_safe_rounds ?c_p_safe_rounds ?k_p_safe_rounds ?a_p_round_numbers ?l_p_round_numbers ?c_p_round_numbers ?k_p_round_numbers ?a_p_rounds_needed ?l_p_rounds_needed ?c_p_rounds_needed ?k_p_rounds_needed ?a_p_needed ?l_p_needed ?c_p_needed ?k_p_needed ?a_p_cost ?l_p_cost ?c_p_cost ?k_p_cost ?a_p_costs ?l_p_costs ?c_p_costs ?k_p_costs ?a_p_saved ?l_p_saved ?c_p_saved ?k_p_saved ?a_g_tables ?ge_g_tables ?ta_g_tables ?re_g_tables ?l_g_tables ?c_g_tables ?k_g_tables ?a_g_sources ?ge_g_sources ?ta_g_sources ?re_g_sources ?l_g_sources ?c_g_sources ?k_g_sources ?a_g_posts ?ge_g_posts ?ta_g_posts ?re_g_posts ?l_g_posts ?c_g_posts ?k_g_posts ?a_law ?l_law ?c_law ?k_law ?aI ?iI ?lI ?cI ?kI ?lT ?pg ?hd ?po ?sa ?mk ?kc ?nT_ ?nN_ ?nS_ ?nP_ ?ha ?hn ?hk ?hm ?v_MOST_POSTS ?v_MOST_NODES ?v_MOST_GOALS ?v_MOST_LETTERS ?v_WISHES ?lW ?z_int ?z_len ?z_abs ?z_list ?z_dict ?z_sorted ?z_range ?z_isinstance ?z_str ?z_tuple ?z_all ?z_any ?z_set ?z_enumerate ?z_min ?z_repr ?z_reversed ?z_sum ?z_bool
    (case aC => k_is); (case a_s_begin => k_is); (case l_s_begin => k_is); (case c_s_begin => k_is); (case k_s_begin => k_is); (case a_s_blend => k_is)
    (case l_s_blend => k_is); (case c_s_blend => k_is); (case k_s_blend => k_is); (case a_s_take => k_is); (case l_s_take => k_is); (case c_s_take => k_is)
    (case k_s_take => k_is); (case a_s_pick => k_is); (case l_s_pick => k_is); (case c_s_pick => k_is); (case k_s_pick => k_is); (case a_s_mixed => k_is)
    (case l_s_mixed => k_is); (case c_s_mixed => k_is); (case k_s_mixed => k_is); (case a_s_words => k_is); (case l_s_words => k_is); (case c_s_words => k_is)
    (case k_s_words => k_is); (case a_s_tree => k_is); (case l_s_tree => k_is); (case c_s_tree => k_is); (case k_s_tree => k_is); (case a_s_path => k_is)
    (case l_s_path => k_is); (case c_s_path => k_is); (case k_s_path => k_is); (case a_s_wild => k_is); (case l_s_wild => k_is); (case c_s_wild => k_is)
    (case k_s_wild => k_is); (case a_s_near => k_is); (case l_s_near => k_is); (case c_s_near => k_is); (case k_s_near => k_is); (case a_s_pair => k_is)
    (case l_s_pair => k_is); (case c_s_pair => k_is); (case k_s_pair => k_is); (case a_s_model => k_is); (case l_s_model => k_is); (case c_s_model => k_is)
    (case k_s_model => k_is); (case a_s_net => k_is); (case l_s_net => k_is); (case c_s_net => k_is); (case k_s_net => k_is); (case a_s_moving_dots => k_is)
    (case l_s_moving_dots => k_is); (case c_s_moving_dots => k_is); (case k_s_moving_dots => k_is); (case a_s_now => k_is); (case l_s_now => k_is); (case c_s_now => k_is)
    (case k_s_now => k_is); (case a_s_walk => k_is); (case l_s_walk => k_is); (case c_s_walk => k_is); (case k_s_walk => k_is); (case a_s_lots => k_is)
    (case l_s_lots => k_is); (case c_s_lots => k_is); (case k_s_lots => k_is); (case a_s_misses => k_is); (case l_s_misses => k_is); (case c_s_misses => k_is)
    (case k_s_misses => k_is); (case a_s_breaks => k_is); (case l_s_breaks => k_is); (case c_s_breaks => k_is); (case k_s_breaks => k_is); (case a_s_sorts => k_is)
    (case l_s_sorts => k_is); (case c_s_sorts => k_is); (case k_s_sorts => k_is); (case a_s_join => k_is); (case l_s_join => k_is); (case c_s_join => k_is)
    (case k_s_join => k_is); (case a_s_bad => k_is); (case l_s_bad => k_is); (case c_s_bad => k_is); (case k_s_bad => k_is); (case a_s_stands => k_is)
    (case l_s_stands => k_is); (case c_s_stands => k_is); (case k_s_stands => k_is); (case a_s_fewest => k_is); (case l_s_fewest => k_is); (case c_s_fewest => k_is)
    (case k_s_fewest => k_is); (case a_s_wants => k_is); (case l_s_wants => k_is); (case c_s_wants => k_is); (case k_s_wants => k_is); (case a_s_all_costs => k_is)
    (case l_s_all_costs => k_is); (case c_s_all_costs => k_is); (case k_s_all_costs => k_is); (case a_s_right => k_is); (case l_s_right => k_is); (case c_s_right => k_is)
    (case k_s_right => k_is); (case a_p_is_list => k_is); (case l_p_is_list => k_is); (case c_p_is_list => k_is); (case k_p_is_list => k_is); (case a_p_is_name => k_is)
    (case l_p_is_name => k_is); (case c_p_is_name => k_is); (case k_p_is_name => k_is); (case a_p_is_place => k_is); (case l_p_is_place => k_is); (case c_p_is_place => k_is)
    (case k_p_is_place => k_is); (case a_p_is_table => k_is); (case l_p_is_table => k_is); (case c_p_is_table => k_is); (case k_p_is_table => k_is); (case a_p_are_different => k_is)
    (case l_p_are_different => k_is); (case c_p_are_different => k_is); (case k_p_are_different => k_is); (case a_p_are_nodes => k_is); (case l_p_are_nodes => k_is); (case c_p_are_nodes => k_is)
    (case k_p_are_nodes => k_is); (case a_p_is_pair_of_dicts => k_is); (case l_p_is_pair_of_dicts => k_is); (case c_p_is_pair_of_dicts => k_is); (case k_p_is_pair_of_dicts => k_is); (case a_p_are_tables => k_is)
    (case l_p_are_tables => k_is); (case c_p_are_tables => k_is); (case k_p_are_tables => k_is); (case a_p_check_net => k_is); (case l_p_check_net => k_is); (case c_p_check_net => k_is)
    (case k_p_check_net => k_is); (case a_p_check_goal => k_is); (case l_p_check_goal => k_is); (case c_p_check_goal => k_is); (case k_p_check_goal => k_is); (case a_g_goals => k_is)
    (case ge_g_goals => k_is); (case ta_g_goals => k_is); (case re_g_goals => k_is); (case l_g_goals => k_is); (case c_g_goals => k_is); (case k_g_goals => k_is)
    (case a_g_nodes => k_is); (case ge_g_nodes => k_is); (case ta_g_nodes => k_is); (case re_g_nodes => k_is); (case l_g_nodes => k_is); (case c_g_nodes => k_is)
    (case k_g_nodes => k_is); (case a_g_changing => k_is); (case ge_g_changing => k_is); (case ta_g_changing => k_is); (case re_g_changing => k_is); (case l_g_changing => k_is)
    (case c_g_changing => k_is); (case k_g_changing => k_is); (case a_p_check_node => k_is); (case l_p_check_node => k_is); (case c_p_check_node => k_is); (case k_p_check_node => k_is)
    (case a_p_followed => k_is); (case l_p_followed => k_is); (case c_p_followed => k_is); (case k_p_followed => k_is); (case a_p_ways_at => k_is); (case l_p_ways_at => k_is)
    (case c_p_ways_at => k_is); (case k_p_ways_at => k_is); (case a_p_joined => k_is); (case l_p_joined => k_is); (case c_p_joined => k_is); (case k_p_joined => k_is)
    (case a_p_parts_of => k_is); (case l_p_parts_of => k_is); (case c_p_parts_of => k_is); (case k_p_parts_of => k_is); (case a_p_starts => k_is); (case l_p_starts => k_is)
    (case c_p_starts => k_is); (case k_p_starts => k_is); (case a_p_breaks => k_is); (case l_p_breaks => k_is); (case c_p_breaks => k_is); (case k_p_breaks => k_is)
    (case a_p_posts_passed => k_is); (case l_p_posts_passed => k_is); (case c_p_posts_passed => k_is); (case k_p_posts_passed => k_is); (case a_p_passed_with => k_is); (case l_p_passed_with => k_is)
    (case c_p_passed_with => k_is); (case k_p_passed_with => k_is); (case a_p_fault_at => k_is); (case l_p_fault_at => k_is); (case c_p_fault_at => k_is); (case k_p_fault_at => k_is)
    (case a_p_check_wishes => k_is); (case l_p_check_wishes => k_is); (case c_p_check_wishes => k_is); (case k_p_check_wishes => k_is); (case a_p_broken_moments => k_is); (case l_p_broken_moments => k_is)
    (case c_p_broken_moments => k_is); (case k_p_broken_moments => k_is); (case a_p_moments_to_avoid => k_is); (case l_p_moments_to_avoid => k_is); (case c_p_moments_to_avoid => k_is); (case k_p_moments_to_avoid => k_is)
    (case a_p_safe_rounds => k_is); (case l_p_safe_rounds => k_is); (case c_p_safe_rounds => k_is); (case k_p_safe_rounds => k_is); (case a_p_round_numbers => k_is); (case l_p_round_numbers => k_is)
    (case c_p_round_numbers => k_is); (case k_p_round_numbers => k_is); (case a_p_rounds_needed => k_is); (case l_p_rounds_needed => k_is); (case c_p_rounds_needed => k_is); (case k_p_rounds_needed => k_is)
    (case a_p_needed => k_is); (case l_p_needed => k_is); (case c_p_needed => k_is); (case k_p_needed => k_is); (case a_p_cost => k_is); (case l_p_cost => k_is)
    (case c_p_cost => k_is); (case k_p_cost => k_is); (case a_p_costs => k_is); (case l_p_costs => k_is); (case c_p_costs => k_is); (case k_p_costs => k_is)
    (case a_p_saved => k_is); (case l_p_saved => k_is); (case c_p_saved => k_is); (case k_p_saved => k_is); (case a_g_tables => k_is); (case ge_g_tables => k_is)
    (case ta_g_tables => k_is); (case re_g_tables => k_is); (case l_g_tables => k_is); (case c_g_tables => k_is); (case k_g_tables => k_is); (case a_g_sources => k_is)
    (case ge_g_sources => k_is); (case ta_g_sources => k_is); (case re_g_sources => k_is); (case l_g_sources => k_is); (case c_g_sources => k_is); (case k_g_sources => k_is)
    (case a_g_posts => k_is); (case ge_g_posts => k_is); (case ta_g_posts => k_is); (case re_g_posts => k_is); (case l_g_posts => k_is); (case c_g_posts => k_is)
    (case k_g_posts => k_is); (case a_law => k_is); (case l_law => k_is); (case c_law => k_is); (case k_law => k_is); (case aI => k_is)
    (case iI => k_is); (case lI => k_is); (case cI => k_is); (case kI => k_is); (case lT => k_is); (case pg => k_is)
    (case hd => k_is); (case po => k_is); (case sa => k_is); (case mk => k_is); (case kc => k_is); (case nT_ => k_is)
    (case nN_ => k_is); (case nS_ => k_is); (case nP_ => k_is); (case ha => k_is); (case hn => k_is); (case hk => k_is)
    (case hm => k_is); (case v_MOST_POSTS => k_is); (case v_MOST_NODES => k_is); (case v_MOST_GOALS => k_is); (case v_MOST_LETTERS => k_is); (case v_WISHES => k_is)
    (case lW => k_is); (case z_int => k_is); (case z_len => k_is); (case z_abs => k_is); (case z_list => k_is); (case z_dict => k_is)
    (case z_sorted => k_is); (case z_range => k_is); (case z_isinstance => k_is); (case z_str => k_is); (case z_tuple => k_is); (case z_all => k_is)
    (case z_any => k_is); (case z_set => k_is); (case z_enumerate => k_is); (case z_min => k_is); (case z_repr => k_is); (case z_reversed => k_is)
    (case z_sum => k_is); (case z_bool => k_is)
end T_Z1
