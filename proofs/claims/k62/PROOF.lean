import PyProof.Rows.All
import Wide.All
import OpenK.AllK
import Wide.FinOn
import HandS.ForMost
import HandS.Codes
import HandS.Evl
import HandS.Walk
import HandS.More
import HandS.Property
import HandS.DictComp
import HandS.Strs
import HandS.Zip
import HandS.IsInst
import HandS.Conv
import PySem.Challenge.RW_roundways_k62_whole_sights_of_moving_pac
import HandS.Set
import HandS.SetFor
import KE.KDictCopyH
import HandS.Defaults
import HandS.DictTup
import HandS.SortRule
import KE.KSortKey
import HandS.Lambda
import HandS.Star
import KE.DataAny
import KE.GoesEnum
import HandS.NoneIn
import HandS.TupAny
import HandS.Style
import HandS.EndTab
import KE.KNest
section T_D0
set_option Elab.async false
set_option linter.all false
set_option maxRecDepth 100000
set_option maxHeartbeats 4000000
namespace Rw
open PySem L2 PyProof.Rows
/-! ### ints as data -/
theorem dp_ints {K : PySem.W.Frag} {H : Hp} : ∀ ns : List Int, DpAll K H (ns.map V.int) (ns.map PyData.int)
  | [] => .nil
  | n :: r => .cons (.int n) (dp_ints r)
theorem canlay_ints : ∀ ns : List Int, PyData.canLayAll0 (ns.map PyData.int) = true
  | [] => rfl
  | n :: r => by
    show (PyData.canLay0 (.int n) && PyData.canLayAll0 (r.map PyData.int)) = true
    rw [canlay_ints r]
    rfl
theorem depth_ints : ∀ ns : List Int, PyData.depthAll (ns.map PyData.int) = 0
  | [] => rfl
  | n :: r => by
    show max (PyData.depth (.int n)) (PyData.depthAll (r.map PyData.int)) = 0
    rw [depth_ints r]
    rfl
theorem shaped_ints (ns : List Int) : SeqAt.shaped (.list (ns.map PyData.int)) = true := by
  unfold SeqAt.shaped
  rw [show PyData.canLay0 (.list (ns.map PyData.int)) = PyData.canLayAll0 (ns.map PyData.int) from rfl, canlay_ints,
    show PyData.depth (.list (ns.map PyData.int)) = PyData.depthAll (ns.map PyData.int) + 1 from rfl, depth_ints]
  rfl
theorem eqv_nil (ns : List Int) : PyData.eqv (.list (ns.map PyData.int)) (.list []) = ns.isEmpty := by
  cases ns <;> rfl
/-! ### the draws: at d the dict, at g what is great, at c the cells -/
def dkv (g c : Addr) (r t : Int) : List (Key × V) := [(.inr "great", .ref g), (.inr "rest", .int r), (.inr "cells", .ref c), (.inr "turn", .int t)]
theorem dkv_great (g c : Addr) (r t : Int) : valV (dkv g c r t) (.inr "great") = some (.ref g) := by kernel_rfl
theorem dkv_rest (g c : Addr) (r t : Int) : valV (dkv g c r t) (.inr "rest") = some (.int r) := by kernel_rfl
theorem dkv_cells (g c : Addr) (r t : Int) : valV (dkv g c r t) (.inr "cells") = some (.ref c) := by kernel_rfl
theorem dkv_turn (g c : Addr) (r t : Int) : valV (dkv g c r t) (.inr "turn") = some (.int t) := by kernel_rfl
theorem dkv_put_rest (g c : Addr) (r t x : Int) : putK (dkv g c r t) (.inr "rest") (.int x) = dkv g c x t := by kernel_rfl
theorem dkv_put_turn (g c : Addr) (r t x : Int) : putK (dkv g c r t) (.inr "turn") (.int x) = dkv g c r x := by kernel_rfl
structure DrawAt (H : Hp) (d g c : Addr) : Prop where
  ex : ∃ r t : Int, H d = some (.dK (dkv g c r t))
  gl : ∃ gs : List Int, H g = some (.lst (gs.map V.int))
  cl : ∃ cs : List Int, H c = some (.lst (cs.map V.int))
  ne : c ≠ g
/-- what stood stands, but at d and g -/
def SameD (d g : Addr) (H H' : Hp) : Prop := ∀ a o, H a = some o → a ≠ d → a ≠ g → H' a = some o
/-! ### the heap without the draws -/
def off (d g : Addr) (H : Hp) : Hp := fun a => if a = d ∨ a = g then none else H a
theorem off_some {d g : Addr} {H : Hp} {a : Addr} {o : HO} (h : off d g H a = some o) : a ≠ d ∧ a ≠ g ∧ H a = some o := by
  unfold off at h
  by_cases e : a = d ∨ a = g
  · rw [if_pos e] at h; cases h
  · rw [if_neg e] at h; exact ⟨fun z => e (.inl z), fun z => e (.inr z), h⟩
theorem off_of {d g : Addr} {H : Hp} {a : Addr} {o : HO} (h : H a = some o) (h1 : a ≠ d) (h2 : a ≠ g) : off d g H a = some o := by
  unfold off
  rw [if_neg (fun z => z.elim h1 h2)]
  exact h
theorem off_free {d g : Addr} {H : Hp} {a : Addr} (h : H a = none) : off d g H a = none := by
  unfold off
  by_cases e : a = d ∨ a = g
  · rw [if_pos e]
  · rw [if_neg e]; exact h
theorem ex_off (d g : Addr) (H : Hp) : Evl.Ex (off d g H) H := fun a o h => (off_some h).2.2
theorem off_ex {d g : Addr} {H H' : Hp} (e : Evl.Ex H H') : Evl.Ex (off d g H) (off d g H') := fun a o h => off_of (e a o (off_some h).2.2) (off_some h).1 (off_some h).2.1
theorem off_same {d g : Addr} {H H' : Hp} (e : SameD d g H H') : Evl.Ex (off d g H) (off d g H') := fun a o h => off_of (e a o (off_some h).2.2 (off_some h).1 (off_some h).2.1) (off_some h).1 (off_some h).2.1
theorem DrawAt.ext {H H' : Hp} {d g c : Addr} (D : DrawAt H d g c) (e : Evl.Ex H H') : DrawAt H' d g c := by
  obtain ⟨⟨r, t, hd⟩, ⟨gs, hg⟩, ⟨cs, hc⟩, ne⟩ := D
  exact ⟨⟨r, t, e _ _ hd⟩, ⟨gs, e _ _ hg⟩, ⟨cs, e _ _ hc⟩, ne⟩
theorem DrawAt.new {H : Hp} {d g c p : Addr} {o : HO} (D : DrawAt H d g c) (h : H p = none) : DrawAt (upd H p o) d g c := D.ext (Evl.Ex.new h)
theorem DrawAt.ned {H : Hp} {d g c p : Addr} (D : DrawAt H d g c) (h : H p = none) : p ≠ d ∧ p ≠ g ∧ p ≠ c := by
  obtain ⟨⟨r, t, hd⟩, ⟨gs, hg⟩, ⟨cs, hc⟩, ne⟩ := D
  exact ⟨(ne_of_none hd h).symm, (ne_of_none hg h).symm, (ne_of_none hc h).symm⟩
/-- a new object of one's own, behind changes of others -/
theorem off_mut {d g : Addr} {H H' : Hp} {p : Addr} {o : HO} (e : Evl.Ex H (off d g H')) (h : H p = none) : Evl.Ex H (off d g (upd H' p o)) := fun a u ha => by
  have z := off_some (e a u ha)
  exact off_of (by rw [upd_ne (ne_of_none ha h)]; exact z.2.2) z.1 z.2.1
theorem DrawAt.mut {H : Hp} {d g c p : Addr} {o : HO} (D : DrawAt H d g c) (h1 : p ≠ d) (h2 : p ≠ g) (h3 : p ≠ c) : DrawAt (upd H p o) d g c := by
  obtain ⟨⟨r, t, hd⟩, ⟨gs, hg⟩, ⟨cs, hc⟩, ne⟩ := D
  exact ⟨⟨r, t, by rw [upd_ne h1.symm]; exact hd⟩, ⟨gs, by rw [upd_ne h2.symm]; exact hg⟩, ⟨cs, by rw [upd_ne h3.symm]; exact hc⟩, ne⟩
theorem ps_never {X : Cx} {st : Stmt} : PS X st (fun _ _ _ => False) := ⟨fun _ _ _ _ _ _ h => h.elim⟩
theorem pe_never {X : Cx} {e : Expr} : PE X e (fun _ _ _ => False) := ⟨fun _ _ _ _ _ _ h => h.elim⟩
theorem yes_if {σ : L2.St} {H : Hp} {F G : Hp → Prop} (h : F H) : tYes σ H (fun b H3 => if b = true then F H3 else G H3) := by
  show if true = true then F H else G H
  rw [if_pos rfl]
  exact h
/-! ### data -/
mutual
theorem dp_ex {K : PySem.W.Frag} {H H' : Hp} (e : Evl.Ex H H') : ∀ (d : PyData) (v : V), Dp K H v d → Dp K H' v d
  | .none, _, h => by cases h; exact .non
  | .bool b, _, h => by cases h; exact .bl b
  | .int i, _, h => by cases h; exact .int i
  | .str x, _, h => by cases h; exact .str x
  | .list ds, _, h => by cases h with | lst hq hd => exact .lst (Evl.ex_l e hq) (dpa_ex e ds _ hd)
  | .tuple ds, _, h => by cases h with | tup hq hd => exact .tup (Evl.ex_t e hq) (dpa_ex e ds _ hd)
  | .dict _, _, h => by cases h
theorem dpa_ex {K : PySem.W.Frag} {H H' : Hp} (e : Evl.Ex H H') : ∀ (ds : List PyData) (vs : List V), DpAll K H vs ds → DpAll K H' vs ds
  | [], _, h => by cases h; exact .nil
  | d :: ds, _, h => by cases h with | cons h1 h2 => exact .cons (dp_ex e d _ h1) (dpa_ex e ds _ h2)
end
/-- a value that is data, not deep -/
def DataV (K : PySem.W.Frag) (H : Hp) (v : V) : Prop := ∃ d : PyData, Dp K H v d ∧ d.canLay0 = true ∧ d.depth ≤ 60
theorem DataV.ex {K : PySem.W.Frag} {H H' : Hp} {v : V} (h : DataV K H v) (e : Evl.Ex H H') : DataV K H' v := by
  obtain ⟨d, h1, h2⟩ := h
  exact ⟨d, dp_ex e d v h1, h2⟩
theorem data_all {K : PySem.W.Frag} {H : Hp} : ∀ vs : List V, (∀ v ∈ vs, DataV K H v) → ∃ ds : List PyData, DpAll K H vs ds ∧ PyData.canLayAll0 ds = true ∧ PyData.depthAll ds ≤ 60 ∧ ds.length = vs.length
  | [], _ => ⟨[], .nil, rfl, Nat.zero_le _, rfl⟩
  | v :: vs, h => by
    obtain ⟨d, h1, h2, h3⟩ := h v List.mem_cons_self
    obtain ⟨ds, g1, g2, g3, g4⟩ := data_all vs fun u hu => h u (List.mem_cons_of_mem _ hu)
    refine ⟨d :: ds, .cons h1 g1, ?_, ?_, by simp [g4]⟩
    · show (d.canLay0 && PyData.canLayAll0 ds) = true
      rw [h2, g2]
      rfl
    · show max d.depth (PyData.depthAll ds) ≤ 60
      omega
theorem data_list {K : PySem.W.Frag} {H : Hp} {a : Addr} {vs : List V} (hS : SqL K H a vs) (h : ∀ v ∈ vs, DataV K H v) : ∃ d : PyData, Dp K H (.ref a) d ∧ SeqAt.shaped d = true ∧ PyData.eqv d (.list []) = vs.isEmpty := by
  obtain ⟨ds, g1, g2, g3, g4⟩ := data_all vs h
  refine ⟨.list ds, .lst hS g1, ?_, ?_⟩
  · unfold SeqAt.shaped
    rw [show PyData.canLay0 (.list ds) = PyData.canLayAll0 ds from rfl, g2, show PyData.depth (.list ds) = PyData.depthAll ds + 1 from rfl]
    exact decide_eq_true (show PyData.depthAll ds + 1 ≤ 64 by omega)
  · cases vs with
    | nil =>
      cases ds with
      | nil => rfl
      | cons _ _ => simp at g4
    | cons _ _ =>
      cases ds with
      | nil => simp at g4
      | cons _ _ => rfl
theorem strV_data {K : PySem.W.Frag} {H : Hp} {z : Str} (h : PyData.strOk z = true) : DataV K H (.str z) := ⟨.str z, .str z, h, Nat.zero_le _⟩
/-! ### what the draws promise -/
def spBlend : Sp := fun vs H Q _ => ∃ (d g c : Addr), vs = [.ref d] ∧ DrawAt H d g c ∧ ∀ (n : Int) (H' : Hp), DrawAt H' d g c → SameD d g H H' → Q (.int n) H'
def spTake : Sp := fun vs H Q _ => ∃ (d g c : Addr) (n : Int), vs = [.ref d, .int n] ∧ 0 < n ∧ n < 2 ^ 30 ∧ DrawAt H d g c ∧ ∀ (k : Int) (H' : Hp), 0 ≤ k → k < n → DrawAt H' d g c → Evl.Ex (off d g H) (off d g H') → Q (.int k) H'
/-- one of a list's items -/
def spPickL (K : PySem.W.Frag) : Sp := fun vs H Q _ => ∃ (d g c a : Addr) (xs : List V), vs = [.ref d, .ref a] ∧ DrawAt H d g c ∧ SqL K (off d g H) a xs ∧ 0 < xs.length ∧ xs.length < 2 ^ 30 ∧
  ∀ (i : Nat) (v : V) (H' : Hp), xs[i]? = some v → DrawAt H' d g c → Evl.Ex (off d g H) (off d g H') → Q v H'
/-- one of a text's signs -/
def spPickS : Sp := fun vs H Q _ => ∃ (d g c : Addr) (z : Str), vs = [.ref d, .str z] ∧ DrawAt H d g c ∧ 0 < z.length ∧ z.length ≤ 1000 ∧
  ∀ (i ch : Nat) (H' : Hp), z.cps.toList[i]? = some ch → DrawAt H' d g c → Evl.Ex (off d g H) (off d g H') → Q (.str ⟨#[ch]⟩) H'
/-- a list's or tuple's items in some order, a new list -/
def spMixed (K : PySem.W.Frag) : Sp := fun vs H Q _ => ∃ (d g c a : Addr) (xs : List V), vs = [.ref d, .ref a] ∧ DrawAt H d g c ∧ (SqL K (off d g H) a xs ∨ SqT K (off d g H) a xs) ∧ xs.length ≤ 1000 ∧ (∀ v ∈ xs, DataV K (off d g H) v) ∧
  ∀ (p : Addr) (ys : List V) (H' : Hp), ys.Perm xs → DrawAt H' d g c → Evl.Ex (off d g H) (off d g H') → H p = none → off d g H' p = some (.lst ys) → Q (.ref p) H'
def spBegin (K : PySem.W.Frag) : Sp := fun vs H Q _ => ∃ (a : Addr) (ns : List Int), vs = [.ref a] ∧ SqL K H a (ns.map V.int) ∧ ns.length ≤ 63 ∧
  ∀ (d g c : Addr) (H' : Hp), DrawAt H' d g c → Evl.Ex H (off d g H') → Q (.ref d) H'
end Rw
end T_D0

section T_T0
set_option Elab.async false
set_option linter.all false
set_option maxRecDepth 100000
namespace Rw
open PySem L2 PyProof.Rows
def topS (i : Nat) : Stmt := PySem.Challenge.pw_roundways_k62_whole_sights_of_moving_pac.main.body.getD i (.Pass ⟨0, 0, 0, 0⟩)
abbrev p_wall : Stmt := topS 0
abbrev p_copied : Stmt := topS 2
abbrev c_BadNet_init : Stmt := inClass (topS 4) 0
abbrev c_NoGoal_init : Stmt := inClass (topS 5) 0
abbrev c_NoNode_init : Stmt := inClass (topS 6) 0
abbrev c_BadLot_init : Stmt := inClass (topS 7) 0
abbrev c_BadPlan_init : Stmt := inClass (topS 8) 0
abbrev c_BadSights_init : Stmt := inClass (topS 9) 0
abbrev c_Net_init : Stmt := inClass (topS 15) 0
abbrev c_Net_eq : Stmt := inClass (topS 15) 1
abbrev c_Net_tables : Stmt := inClass (topS 15) 2
abbrev c_Net_goals : Stmt := inClass (topS 15) 3
abbrev c_Net_nodes : Stmt := inClass (topS 15) 4
abbrev c_Net_sources : Stmt := inClass (topS 15) 5
abbrev c_Net_posts : Stmt := inClass (topS 15) 6
abbrev c_Net_changing : Stmt := inClass (topS 15) 7
abbrev c_Net_way : Stmt := inClass (topS 15) 8
abbrev c_Net_turned : Stmt := inClass (topS 15) 9
abbrev c_Net_with_way : Stmt := inClass (topS 15) 10
abbrev p_check_net : Stmt := topS 16
abbrev p_check_goal : Stmt := topS 17
abbrev p_check_node : Stmt := topS 18
abbrev p_is_list : Stmt := topS 19
abbrev p_is_number : Stmt := topS 20
abbrev p_is_name : Stmt := topS 21
abbrev p_is_place : Stmt := topS 22
abbrev p_are_different : Stmt := topS 23
abbrev p_are_nodes : Stmt := topS 24
abbrev p_are_tables : Stmt := topS 25
abbrev p_is_pair_of_dicts : Stmt := topS 26
abbrev p_is_table : Stmt := topS 27
abbrev p_ways : Stmt := topS 29
abbrev p_joined : Stmt := topS 30
abbrev p_parts_of : Stmt := topS 31
abbrev p_check_lot : Stmt := topS 32
abbrev p_check_round : Stmt := topS 33
abbrev p_is_lot_of : Stmt := topS 34
abbrev p_is_count : Stmt := topS 35
abbrev p_is_part : Stmt := topS 37
abbrev p_stages_of : Stmt := topS 39
abbrev p_first_wrong_round : Stmt := topS 40
abbrev p_check_plan : Stmt := topS 41
abbrev p_is_story : Stmt := topS 44
abbrev p_story : Stmt := topS 45
abbrev p_stages : Stmt := topS 46
abbrev p_known : Stmt := topS 47
abbrev p_clash : Stmt := topS 48
abbrev p_states_seen : Stmt := topS 49
abbrev p_states_in_stories : Stmt := topS 50
abbrev p_is_state : Stmt := topS 51
abbrev p_can_follow : Stmt := topS 52
abbrev p_now_new : Stmt := topS 53
abbrev p_is_seen_in : Stmt := topS 54
abbrev p_is_sight : Stmt := topS 55
abbrev p_check_sights : Stmt := topS 56
abbrev p_check_asked : Stmt := topS 57
abbrev s_begin : Stmt := topS 59
abbrev s_blend : Stmt := topS 60
abbrev s_pick : Stmt := topS 61
abbrev s_mixed : Stmt := topS 62
abbrev s_take : Stmt := topS 63
abbrev s_words : Stmt := topS 64
abbrev s_tree : Stmt := topS 65
abbrev s_path : Stmt := topS 66
abbrev s_wild : Stmt := topS 67
abbrev s_near : Stmt := topS 68
abbrev s_pair : Stmt := topS 69
abbrev s_model : Stmt := topS 70
abbrev s_net : Stmt := topS 71
abbrev s_moving_dots : Stmt := topS 72
abbrev s_plan : Stmt := topS 73
abbrev s_done_in : Stmt := topS 74
abbrev s_hop : Stmt := topS 75
abbrev s_moved : Stmt := topS 76
abbrev s_law : Stmt := topS 77
end Rw
end T_T0

section T_M0
set_option Elab.async false
set_option linter.all false
set_option maxRecDepth 100000
set_option maxHeartbeats 1000000
namespace Rw
open PySem L2 PyProof.Rows
/-! ### names as lists of code points -/
def Nm (z : Str) : Prop := ∃ l : List Nat, z = SX.S l ∧ 1 ≤ l.length ∧ l.length ≤ 6 ∧ ∀ x ∈ l, 97 ≤ x ∧ x ≤ 122
theorem nm_len {z : Str} (h : Nm z) : z.length ≤ 6 := by
  obtain ⟨l, rfl, _, h2, _⟩ := h
  rw [SX.S_len]
  exact h2
theorem nm_ok {z : Str} (h : Nm z) : PyData.strOk z = true := by
  obtain ⟨l, rfl, _, _, h3⟩ := h
  show (l.toArray.all (· < 0x110000)) = true
  rw [List.all_toArray, List.all_eq_true]
  intro x hx
  have := h3 x hx
  exact decide_eq_true (by omega)
theorem nm_data {K : PySem.W.Frag} {H : Hp} {z : Str} (h : Nm z) : DataV K H (.str z) := strV_data (nm_ok h)
theorem inV_str (z : Str) : ∀ zs : List Str, inV (.str z) (zs.map V.str) = decide (z ∈ zs)
  | [] => rfl
  | y :: r => by
    show ((y == z) || inV (.str z) (r.map V.str)) = decide (z ∈ y :: r)
    rw [inV_str z r]
    by_cases e : y = z
    · subst e
      rw [beq_self_eq_true, decide_eq_true (List.mem_cons_self)]
      rfl
    · have e1 : (y == z) = false := beq_eq_false_iff_ne.mpr e
      rw [e1]
      by_cases m : z ∈ r
      · rw [decide_eq_true m, decide_eq_true (List.mem_cons_of_mem _ m)]
        rfl
      · rw [decide_eq_false m, decide_eq_false (fun h => (List.mem_cons.mp h).elim (fun q => e q.symm) m)]
        rfl
theorem flat_strs : ∀ zs : List Str, (zs.map V.str).all flatV = true
  | [] => rfl
  | _ :: r => by
    show (true && (r.map V.str).all flatV) = true
    rw [flat_strs r]
    rfl
theorem join_signs : ∀ cs : List Nat, Txt.join Str.empty (cs.map fun x => SX.S [x]) = SX.S cs := fun cs => by
  rw [show Txt.join Str.empty (cs.map fun x => SX.S [x]) = Str.join Str.empty (cs.map fun x => SX.S [x]) from StrLaws.glued_eq_join _ _]
  induction cs with
  | nil => rfl
  | cons x r ih =>
    show Str.join ⟨#[]⟩ (SX.S [x] :: r.map fun x => SX.S [x]) = SX.S (x :: r)
    rw [PyProof.Rows.join_nil_cons]
    show SX.S [x] ++ Str.join Str.empty (r.map fun x => SX.S [x]) = SX.S (x :: r)
    rw [ih, SX.S_cat]
    rfl
theorem cut5 (l : List Nat) : cutS (SX.S l) none (some 5) = SX.S (l.take 5) := by
  unfold cutS
  rw [show HT.sIx (SX.S l).length 0 none = 0 from rfl, show HT.sIx (SX.S l).length (SX.S l).length (some 5) = min 5 (SX.S l).length from HT.sIx_nat _ _ 5, SX.S_len]
  show SX.S ((l.drop 0).take (min 5 l.length - 0)) = SX.S (l.take 5)
  rw [List.drop_zero, Nat.sub_zero]
  congr 1
  by_cases h : 5 ≤ l.length
  · rw [Nat.min_eq_left h]
  · rw [Nat.min_eq_right (by omega), List.take_length, List.take_of_length_le (by omega)]
/-- as many different things as ys holds -/
theorem nodup_le {α : Type} [DecidableEq α] : ∀ (xs ys : List α), xs.Nodup → (∀ x ∈ xs, x ∈ ys) → xs.length ≤ ys.length
  | [], _, _, _ => Nat.zero_le _
  | x :: r, ys, h, hs => by
    have h1 : x ∈ ys := hs x List.mem_cons_self
    have h2 := nodup_le r (ys.erase x) (List.nodup_cons.mp h).2 fun y hy => by
      have ne : y ≠ x := fun e => (List.nodup_cons.mp h).1 (e ▸ hy)
      exact (List.mem_erase_of_ne ne).mpr (hs y (List.mem_cons_of_mem _ hy))
    rw [List.length_erase_of_mem h1] at h2
    have h3 : 0 < ys.length := List.length_pos_of_mem h1
    rw [List.length_cons]
    omega
/-- the names near a name: it, and each letter behind its first five -/
def near (l : List Nat) : List Str := SX.S l :: (List.range 26).map fun k => SX.S (l.take 5 ++ [97 + k])
theorem near_nm {l : List Nat} (h1 : 1 ≤ l.length) (h2 : l.length ≤ 6) (h3 : ∀ x ∈ l, 97 ≤ x ∧ x ≤ 122) : ∀ z ∈ near l, Nm z := fun z hz => by
  rcases List.mem_cons.mp hz with rfl | hz
  · exact ⟨l, rfl, h1, h2, h3⟩
  · obtain ⟨k, hk, rfl⟩ := List.mem_map.mp hz
    have hk' := List.mem_range.mp hk
    refine ⟨l.take 5 ++ [97 + k], rfl, by simp, by simp; omega, fun x hx => ?_⟩
    rcases List.mem_append.mp hx with hx | hx
    · exact h3 x (List.mem_of_mem_take hx)
    · rw [List.mem_singleton.mp hx]
      omega
theorem near_nodup (l : List Nat) : ((List.range 26).map fun k => SX.S (l.take 5 ++ [97 + k])).Nodup := by
  refine List.Pairwise.map _ (R := fun a b : Nat => a ≠ b) (fun a b ne e => ?_) List.nodup_range
  have e1 := SX.S_inj e
  have e2 : [97 + a] = [97 + b] := List.append_cancel_left e1
  have e3 : 97 + a = 97 + b := by simpa using e2
  omega
theorem near_some (l : List Nat) (zs : List Str) (h : zs.length < 26) : ∃ z r, (near l).filter (fun z => decide (z ∉ zs)) = z :: r := by
  cases e : (near l).filter (fun z => decide (z ∉ zs)) with
  | cons z r => exact ⟨z, r, rfl⟩
  | nil =>
    exfalso
    have hall : ∀ z ∈ near l, z ∈ zs := fun z hz => by
      by_cases m : z ∈ zs
      · exact m
      · have : z ∈ (near l).filter (fun z => decide (z ∉ zs)) := List.mem_filter.mpr ⟨hz, decide_eq_true m⟩
        rw [e] at this
        cases this
    have h2 := nodup_le _ zs (near_nodup l) fun z hz => hall z (List.mem_cons_of_mem _ hz)
    simp at h2
    omega
theorem nm_by {z : Str} (h : decide (1 ≤ z.cps.toList.length ∧ z.cps.toList.length ≤ 6 ∧ ∀ x ∈ z.cps.toList, 97 ≤ x ∧ x ≤ 122) = true) : Nm z := by
  obtain ⟨h1, h2, h3⟩ := of_decide_eq_true h
  exact ⟨z.cps.toList, (SX.S_tl z).symm, h1, h2, h3⟩
def z26 : Str := "abcdefghijklmnopqrstuvwxyz"
theorem z26_eq : z26.cps.toList = (List.range 26).map fun k => 97 + k := by decide +kernel
def words10 : List Str := ["a", "b", "goal", "home", "lost", "rings", "posts", "done", "way", "zzzzzz"]
theorem words10_nm : ∀ z ∈ words10, Nm z := fun z hz => by
  have h : ∀ z ∈ words10, decide (1 ≤ z.cps.toList.length ∧ z.cps.toList.length ≤ 6 ∧ ∀ x ∈ z.cps.toList, 97 ≤ x ∧ x ≤ 122) = true := by decide +kernel
  exact nm_by (h z hz)
/-- while names are made: those made at f, the ten words at sm -/
structure StW (H H' : Hp) (d g c f sm : Addr) (zs : List Str) : Prop where
  hf : H' f = some (.lst (zs.map V.str))
  hs : off d g H' sm = some (.lst (words10.map V.str))
  dr : DrawAt H' d g c
  ex : Evl.Ex (off d g H) (off d g H')
  n1 : f ≠ d
  n2 : f ≠ g
  n3 : f ≠ sm
theorem StW.call {H H1 H2 : Hp} {d g c f sm : Addr} {zs : List Str} (h : StW H H1 d g c f sm zs) (D : DrawAt H2 d g c) (e : Evl.Ex (off d g H1) (off d g H2)) : StW H H2 d g c f sm zs :=
  ⟨ex_off d g H2 _ _ (e _ _ (off_of h.hf h.n1 h.n2)), e _ _ h.hs, D, h.ex.trans e, h.n1, h.n2, h.n3⟩
theorem StW.new {H H1 : Hp} {d g c f sm p : Addr} {o : HO} {zs : List Str} (h : StW H H1 d g c f sm zs) (hp : H1 p = none) : StW H (upd H1 p o) d g c f sm zs :=
  h.call (h.dr.new hp) (off_ex (Evl.Ex.new hp))
theorem StW.mut {H H1 : Hp} {d g c f sm p : Addr} {o : HO} {zs : List Str} (h : StW H H1 d g c f sm zs) (h0 : H p = none) (nf : p ≠ f) (ns : p ≠ sm) (nd : p ≠ d) (ng : p ≠ g) (nc : p ≠ c) : StW H (upd H1 p o) d g c f sm zs := by
  have hs := off_some h.hs
  exact ⟨by rw [upd_ne nf.symm]; exact h.hf, off_of (by rw [upd_ne ns.symm]; exact hs.2.2) hs.1 hs.2.1, h.dr.mut nd ng nc, off_mut h.ex (off_free h0), h.n1, h.n2, h.n3⟩
theorem StW.free {H H1 : Hp} {d g c f sm p : Addr} {zs : List Str} (h : StW H H1 d g c f sm zs) (hp : H1 p = none) : H p = none ∧ p ≠ f ∧ p ≠ sm ∧ p ≠ d ∧ p ≠ g ∧ p ≠ c := by
  obtain ⟨a1, a2, a3⟩ := h.dr.ned hp
  refine ⟨?_, (ne_of_none h.hf hp).symm, (ne_of_none (off_some h.hs).2.2 hp).symm, a1, a2, a3⟩
  cases e : H p with
  | none => rfl
  | some o =>
    have z := ex_off d g H1 _ _ (h.ex _ _ (off_of e a1 a2))
    rw [hp] at z
    cases z
/-- some names, all different -/
def spWords (K : PySem.W.Frag) : Sp := fun vs H Q _ => ∃ (d g c : Addr) (n : Nat), vs = [.ref d, .int (n : Int)] ∧ DrawAt H d g c ∧ n ≤ 20 ∧
  ∀ (p : Addr) (zs : List Str) (H' : Hp), zs.length = n → zs.Nodup → (∀ z ∈ zs, Nm z) → DrawAt H' d g c → Evl.Ex (off d g H) (off d g H') → H p = none → off d g H' p = some (.lst (zs.map V.str)) → Q (.ref p) H'
end Rw
end T_M0

section T_M1
set_option Elab.async false
set_option linter.all false
set_option maxRecDepth 100000
set_option maxHeartbeats 1000000
namespace Rw
open PySem L2 PyProof.Rows
/-! ### tables: from names to places -/
def tkv (tb : List (Str × V)) : List (Key × V) := tb.map fun q => (Sum.inr q.1, q.2)
/-- a place of z for the goal e -/
def PlaceOk (zs : List Str) (e z : Str) (v : V) : Prop := v = .non ∨ v = .str e ∨ ∃ y ∈ zs, y ≠ z ∧ v = .str y
structure TabOk (zs : List Str) (e : Str) (tb : List (Str × V)) : Prop where
  ks : (tb.map (·.1)).Perm zs
  ps : ∀ q ∈ tb, PlaceOk zs e q.1 q.2
theorem tkv_none {tb : List (Str × V)} {z : Str} (h : z ∉ tb.map (·.1)) : valV (tkv tb) (Sum.inr z) = none := by
  induction tb with
  | nil => rfl
  | cons q r ih =>
    have h1 : q.1 ≠ z := fun e => h (by rw [← e]; exact List.mem_cons_self)
    show valV ((Sum.inr q.1, q.2) :: tkv r) (Sum.inr z) = none
    rw [valV_neg (fun e => h1 (Sum.inr.inj e))]
    exact ih fun hr => h (List.mem_cons_of_mem _ hr)
theorem tkv_some {tb : List (Str × V)} {z : Str} (h : z ∈ tb.map (·.1)) : ∃ v, valV (tkv tb) (Sum.inr z) = some v ∧ (z, v) ∈ tb := by
  induction tb with
  | nil => cases h
  | cons q r ih =>
    by_cases e : q.1 = z
    · refine ⟨q.2, ?_, ?_⟩
      · exact valV_pos (p := (Sum.inr q.1, q.2)) (by rw [e])
      · rw [← e]; exact List.mem_cons_self
    · rcases List.mem_cons.mp h with h | h
      · exact absurd h.symm e
      · obtain ⟨v, h1, h2⟩ := ih h
        refine ⟨v, ?_, List.mem_cons_of_mem _ h2⟩
        show valV ((Sum.inr q.1, q.2) :: tkv r) (Sum.inr z) = some v
        rw [valV_neg (fun x => e (Sum.inr.inj x))]
        exact h1
theorem tkv_new {tb : List (Str × V)} {z : Str} {v : V} (h : z ∉ tb.map (·.1)) : putK (tkv tb) (Sum.inr z) v = tkv (tb ++ [(z, v)]) := by
  rw [putK_new _ (tkv_none h)]
  unfold tkv
  rw [List.map_append]
  rfl
theorem tkv_len (tb : List (Str × V)) : (tkv tb).length = tb.length := by unfold tkv; rw [List.length_map]
theorem str_at {ws : List Str} {i : Nat} {y : V} (h : (ws.map V.str)[i]? = some y) : ∃ z, ws[i]? = some z ∧ y = V.str z := by
  rw [List.getElem?_map] at h
  cases e : ws[i]? with
  | none => rw [e] at h; cases h
  | some z => rw [e] at h; exact ⟨z, rfl, (Option.some.inj h).symm⟩
theorem strs_of : ∀ l : List V, (∀ y ∈ l, ∃ z : Str, y = V.str z) → ∃ ws : List Str, l = ws.map V.str
  | [], _ => ⟨[], rfl⟩
  | y :: r, h => by
    obtain ⟨z, rfl⟩ := h y List.mem_cons_self
    obtain ⟨ws, rfl⟩ := strs_of r fun u hu => h u (List.mem_cons_of_mem _ hu)
    exact ⟨z :: ws, rfl⟩
theorem perm_strs {ys : List V} {zs : List Str} (h : ys.Perm (zs.map V.str)) : ∃ ws : List Str, ys = ws.map V.str ∧ ws.Perm zs := by
  obtain ⟨ws, rfl⟩ := strs_of ys fun y hy => by
    obtain ⟨z, _, e⟩ := List.mem_map.mp (h.subset hy)
    exact ⟨z, e.symm⟩
  refine ⟨ws, rfl, ?_⟩
  have := h.map fun v : V => match v with | .str z => z | _ => Str.empty
  rw [List.map_map, List.map_map] at this
  have i1 : ((fun v : V => match v with | .str z => z | _ => Str.empty) ∘ V.str) = id := rfl
  rw [i1, List.map_id, List.map_id] at this
  exact this
theorem merge_app : ∀ (tb acc : List (Str × V)), ((acc ++ tb).map (·.1)).Nodup → mergeK (tkv acc) (tkv tb) = tkv (acc ++ tb)
  | [], acc, _ => by rw [List.append_nil]; rfl
  | q :: r, acc, h => by
    have h1 : q.1 ∉ acc.map (·.1) := fun hm => by
      rw [List.map_append] at h
      exact (List.nodup_append.mp h).2.2 q.1 hm q.1 List.mem_cons_self rfl
    show mergeK (putK (tkv acc) (Sum.inr q.1) q.2) (tkv r) = tkv (acc ++ q :: r)
    rw [tkv_new h1, merge_app r (acc ++ [(q.1, q.2)]) (by simpa using h)]
    simp
theorem merge_tkv {tb : List (Str × V)} (h : (tb.map (·.1)).Nodup) : mergeK [] (tkv tb) = tkv tb := merge_app tb [] h
theorem cut_last (xs : List V) : cutV xs none (some (-1)) = xs.dropLast := by
  unfold cutV
  rw [show HT.sIx xs.length 0 none = 0 from rfl]
  have e : HT.sIx xs.length xs.length (some (-1)) = xs.length - 1 := by
    unfold HT.sIx
    simp
    omega
  rw [e, List.drop_zero, Nat.sub_zero, List.dropLast_eq_take]
theorem tkv_old {tb : List (Str × V)} {z : Str} {v : V} (h : z ∈ tb.map (·.1)) : putK (tkv tb) (Sum.inr z) v = tkv (tb.map fun q => if q.1 = z then (q.1, v) else q) := by
  unfold putK
  obtain ⟨u, hu, _⟩ := tkv_some h
  rw [valV_any, hu]
  rw [if_pos (show (some u).isSome = true from rfl)]
  unfold tkv
  rw [List.map_map, List.map_map]
  refine List.map_congr_left fun q _ => ?_
  show (if (Sum.inr q.1 : Key) = Sum.inr z then ((Sum.inr q.1 : Key), v) else (Sum.inr q.1, q.2)) = (Sum.inr (if q.1 = z then (q.1, v) else q).1, (if q.1 = z then (q.1, v) else q).2)
  by_cases e : q.1 = z
  · rw [if_pos e, if_pos (congrArg Sum.inr e)]
  · rw [if_neg e, if_neg fun w => e (Sum.inr.inj w)]
theorem TabOk.put {zs : List Str} {e z : Str} {tb : List (Str × V)} {v : V} (h : TabOk zs e tb) (hv : PlaceOk zs e z v) : TabOk zs e (tb.map fun q => if q.1 = z then (q.1, v) else q) := by
  refine ⟨?_, ?_⟩
  · have e1 : (tb.map fun q => if q.1 = z then (q.1, v) else q).map (·.1) = tb.map (·.1) := by
      rw [List.map_map]
      refine List.map_congr_left fun q _ => ?_
      show (if q.1 = z then (q.1, v) else q).1 = q.1
      by_cases e : q.1 = z
      · rw [if_pos e]
      · rw [if_neg e]
    rw [e1]
    exact h.ks
  · intro q hq
    obtain ⟨r, hr, rfl⟩ := List.mem_map.mp hq
    by_cases e : r.1 = z
    · rw [if_pos e]
      show PlaceOk zs _ r.1 v
      rw [e]
      exact hv
    · rw [if_neg e]
      exact h.ps r hr
/-- a row of names, each of which leads to the next one, the last one to e -/
def pathTab (ws : List Str) (e : Str) : List (Str × V) := ws.zip ((ws ++ [e]).tail.map V.str)
theorem pathTab_get {ws : List Str} {e x : Str} {i : Nat} (h : ws[i]? = some x) : ∃ y, (ws ++ [e])[i + 1]? = some y ∧ (pathTab ws e)[i]? = some (x, .str y) := by
  have hi : i < ws.length := (List.getElem?_eq_some_iff.mp h).1
  have h1 : i + 1 < (ws ++ [e]).length := by simp; omega
  refine ⟨(ws ++ [e])[i + 1], List.getElem?_eq_getElem h1, ?_⟩
  unfold pathTab
  rw [List.getElem?_zip_eq_some]
  refine ⟨h, ?_⟩
  rw [List.getElem?_map, List.getElem?_tail, List.getElem?_eq_getElem h1]
  rfl
theorem pathTab_keys (ws : List Str) (e : Str) : (pathTab ws e).map (·.1) = ws := by
  unfold pathTab
  exact List.map_fst_zip (by simp)
theorem pathTab_ok {ws zs : List Str} {e : Str} (hw : ws.Perm zs) (hnd : zs.Nodup) : TabOk zs e (pathTab ws e) := by
  refine ⟨by rw [pathTab_keys]; exact hw, ?_⟩
  rintro ⟨x, v⟩ hq
  obtain ⟨i, hi, hi'⟩ := List.getElem_of_mem hq
  have hx : ws[i]? = some x := by
    have := congrArg (fun l => l[i]?) (pathTab_keys ws e)
    simp only [List.getElem?_map, List.getElem?_eq_getElem hi, hi', Option.map_some] at this
    exact this.symm
  obtain ⟨y, h1, h2⟩ := pathTab_get (e := e) hx
  rw [List.getElem?_eq_getElem hi, hi'] at h2
  have hv : v = .str y := congrArg Prod.snd (Option.some.inj h2)
  show PlaceOk zs e x v
  subst hv
  have wnd : ws.Nodup := hw.nodup_iff.mpr hnd
  by_cases hl : i + 1 < ws.length
  · rw [List.getElem?_append_left hl] at h1
    refine .inr (.inr ⟨y, hw.subset (List.mem_of_getElem? h1), fun q => ?_, rfl⟩)
    subst q
    have := (List.getElem?_inj (i := i + 1) (j := i) hl wnd).mp (h1.trans hx.symm)
    omega
  · have hi2 : i < ws.length := (List.getElem?_eq_some_iff.mp hx).1
    rw [List.getElem?_append_right (by omega), show i + 1 - ws.length = 0 by omega] at h1
    exact .inr (.inl (congrArg V.str (Option.some.inj h1).symm))
/-- a new table of the names at a list, for a goal -/
def spTab (K : PySem.W.Frag) : Sp := fun vs H Q _ => ∃ (d g c a : Addr) (zs : List Str) (e : Str), vs = [.ref d, .ref a, .str e] ∧ DrawAt H d g c ∧ SqL K (off d g H) a (zs.map V.str) ∧ zs.Nodup ∧ (∀ z ∈ zs, Nm z) ∧ Nm e ∧ e ∉ zs ∧ zs.length ≤ 10 ∧
  ∀ (p : Addr) (tb : List (Str × V)) (H' : Hp), TabOk zs e tb → DrawAt H' d g c → Evl.Ex (off d g H) (off d g H') → H p = none → off d g H' p = some (.dK (tkv tb)) → Q (.ref p) H'
/-- a table that is like another one -/
def spNear (K : PySem.W.Frag) : Sp := fun vs H Q _ => ∃ (d g c t : Addr) (zs : List Str) (e : Str) (tb : List (Str × V)), vs = [.ref d, .ref t, .str e] ∧ DrawAt H d g c ∧ off d g H t = some (.dK (tkv tb)) ∧ TabOk zs e tb ∧ zs.Nodup ∧ 0 < zs.length ∧ zs.length ≤ 10 ∧
  ∀ (p : Addr) (tb' : List (Str × V)) (H' : Hp), TabOk zs e tb' → DrawAt H' d g c → Evl.Ex (off d g H) (off d g H') → H p = none → off d g H' p = some (.dK (tkv tb')) → Q (.ref p) H'
end Rw
end T_M1

section T_M2
set_option Elab.async false
set_option linter.all false
set_option maxRecDepth 100000
set_option maxHeartbeats 1000000
namespace Rw
open PySem L2 PyProof.Rows
theorem ex_free {d g p : Addr} {H H' : Hp} (x : Evl.Ex (off d g H) (off d g H')) (h1 : p ≠ d) (h2 : p ≠ g) (h : H' p = none) : H p = none := by
  cases e : H p with
  | none => rfl
  | some o =>
    have z := ex_off d g H' _ _ (x _ _ (off_of e h1 h2))
    rw [h] at z
    cases z
/-- at p a pair of tables for the goal e -/
structure PairAt (H : Hp) (zs : List Str) (e : Str) (p po pn : Addr) (t1 t2 : List (Str × V)) : Prop where
  hp : H p = some (.tup [.ref po, .ref pn])
  ho : H po = some (.dK (tkv t1))
  hn : H pn = some (.dK (tkv t2))
  o1 : TabOk zs e t1
  o2 : TabOk zs e t2
theorem PairAt.ex {H H' : Hp} {zs : List Str} {e : Str} {p po pn : Addr} {t1 t2 : List (Str × V)} (h : PairAt H zs e p po pn t1 t2) (x : Evl.Ex H H') : PairAt H' zs e p po pn t1 t2 := ⟨x _ _ h.hp, x _ _ h.ho, x _ _ h.hn, h.o1, h.o2⟩
def spPair (K : PySem.W.Frag) : Sp := fun vs H Q _ => ∃ (d g c a : Addr) (zs : List Str) (e : Str), vs = [.ref d, .ref a, .str e] ∧ DrawAt H d g c ∧ SqL K (off d g H) a (zs.map V.str) ∧ zs.Nodup ∧ (∀ z ∈ zs, Nm z) ∧ Nm e ∧ e ∉ zs ∧ 0 < zs.length ∧ zs.length ≤ 10 ∧
  ∀ (p po pn : Addr) (t1 t2 : List (Str × V)) (H' : Hp), DrawAt H' d g c → Evl.Ex (off d g H) (off d g H') → PairAt (off d g H') zs e p po pn t1 t2 → H p = none → H po = none → H pn = none → Q (.ref p) H'
/-- the rows of a model: from each goal to a pair of tables -/
def RowsOk (H : Hp) (dots : List Str) (rows : List (Str × V)) : Prop := ∀ q ∈ rows, ∃ (p po pn : Addr) (t1 t2 : List (Str × V)), q.2 = .ref p ∧ PairAt H dots q.1 p po pn t1 t2
theorem RowsOk.ex {H H' : Hp} {dots : List Str} {rows : List (Str × V)} (h : RowsOk H dots rows) (x : Evl.Ex H H') : RowsOk H' dots rows := fun q hq => by
  obtain ⟨p, po, pn, t1, t2, e, z⟩ := h q hq
  exact ⟨p, po, pn, t1, t2, e, z.ex x⟩
theorem TabOk.perm {zs ys : List Str} {e : Str} {tb : List (Str × V)} (h : TabOk zs e tb) (hp : zs.Perm ys) : TabOk ys e tb := by
  refine ⟨h.ks.trans hp, fun q hq => ?_⟩
  rcases h.ps q hq with z | z | ⟨y, hy, hne, z⟩
  · exact .inl z
  · exact .inr (.inl z)
  · exact .inr (.inr ⟨y, hp.subset hy, hne, z⟩)
theorem tkv_inj : ∀ {t1 t2 : List (Str × V)}, tkv t1 = tkv t2 → t1 = t2
  | [], [], _ => rfl
  | [], _ :: _, h => by cases h
  | _ :: _, [], h => by cases h
  | a :: r, b :: q, h => by
    have h1 : ((Sum.inr a.1 : Key), a.2) :: tkv r = (Sum.inr b.1, b.2) :: tkv q := h
    obtain ⟨h2, h3⟩ := List.cons.inj h1
    obtain ⟨e1, e2⟩ := Prod.mk.inj h2
    rw [tkv_inj h3, Prod.ext (Sum.inr.inj e1) e2]
theorem tab_ne {H : Hp} {dots zs : List Str} {e : Str} {rows t1 : List (Str × V)} {t po : Addr} (ht : H t = some (.dK (tkv rows))) (hr : RowsOk H dots rows) (h0 : rows ≠ []) (ho : H po = some (.dK (tkv t1))) (o1 : TabOk zs e t1) : po ≠ t := fun z => by
  subst z
  rw [ht] at ho
  have e1 := tkv_inj (HO.dK.inj (Option.some.inj ho))
  cases rows with
  | nil => exact h0 rfl
  | cons q r =>
    obtain ⟨p, _, _, _, _, e2, _⟩ := hr q List.mem_cons_self
    have h3 := o1.ps q (by rw [← e1]; exact List.mem_cons_self)
    rw [e2] at h3
    rcases h3 with h3 | h3 | ⟨_, _, _, h3⟩ <;> cases h3
theorem tkv_keysV (tb : List (Str × V)) : ((tkv tb).map fun kv => kV kv.1) = (tb.map (·.1)).map V.str := by
  unfold tkv
  rw [List.map_map, List.map_map]
  rfl
/-- what a model is, without the heap -/
structure ModelOk (ends dots ss ps : List Str) : Prop where
  e0 : 0 < ends.length
  e2 : ends.length ≤ 2
  en : ends.Nodup
  es : sortedS ends = true
  em : ∀ z ∈ ends, Nm z
  d0 : 0 < dots.length
  d6 : dots.length ≤ 6
  dn : dots.Nodup
  ds : sortedS dots = true
  dm : ∀ z ∈ dots, Nm z
  ed : ∀ z ∈ ends, z ∉ dots
  sn : ss.Nodup
  sss : sortedS ss = true
  sd : ∀ z ∈ ss, z ∈ dots
  pn : ps.Nodup
  p2 : ps.length ≤ 2
  pd : ∀ z ∈ ps, z ∈ dots
def mkv (tb db sb pb : Addr) : List (Key × V) := [(.inr "tables", .ref tb), (.inr "dots", .ref db), (.inr "sources", .ref sb), (.inr "posts", .ref pb)]
theorem mkv_tables (tb db sb pb : Addr) : valV (mkv tb db sb pb) (.inr "tables") = some (.ref tb) := by kernel_rfl
theorem mkv_dots (tb db sb pb : Addr) : valV (mkv tb db sb pb) (.inr "dots") = some (.ref db) := by kernel_rfl
theorem mkv_sources (tb db sb pb : Addr) : valV (mkv tb db sb pb) (.inr "sources") = some (.ref sb) := by kernel_rfl
theorem mkv_posts (tb db sb pb : Addr) : valV (mkv tb db sb pb) (.inr "posts") = some (.ref pb) := by kernel_rfl
/-- a model stands at m -/
structure ModelAt (H : Hp) (m tb db sb pb : Addr) (ends dots ss ps : List Str) (rows : List (Str × V)) : Prop where
  hm : H m = some (.dK (mkv tb db sb pb))
  ht : H tb = some (.dK (tkv rows))
  hd : H db = some (.lst (dots.map V.str))
  hs : H sb = some (.lst (ss.map V.str))
  hp : H pb = some (.lst (ps.map V.str))
  rk : rows.map (·.1) = ends
  ro : RowsOk H dots rows
  ok : ModelOk ends dots ss ps
theorem ModelAt.ex {H H' : Hp} {m tb db sb pb : Addr} {ends dots ss ps : List Str} {rows : List (Str × V)} (h : ModelAt H m tb db sb pb ends dots ss ps rows) (x : Evl.Ex H H') : ModelAt H' m tb db sb pb ends dots ss ps rows :=
  ⟨x _ _ h.hm, x _ _ h.ht, x _ _ h.hd, x _ _ h.hs, x _ _ h.hp, h.rk, h.ro.ex x, h.ok⟩
/-- a new model -/
def spModel : Sp := fun vs H Q _ => ∃ (d g c : Addr) (e k : Int), vs = [.ref d, .int e, .int k] ∧ DrawAt H d g c ∧ 0 < e ∧ e ≤ 2 ∧ 0 < k ∧ k ≤ 6 ∧
  ∀ (m tb db sb pb : Addr) (ends dots ss ps : List Str) (rows : List (Str × V)) (H' : Hp), DrawAt H' d g c → Evl.Ex (off d g H) (off d g H') → ModelAt (off d g H') m tb db sb pb ends dots ss ps rows → Q (.ref m) H'
end Rw
end T_M2

section T_S0
set_option Elab.async false
set_option linter.all false
set_option maxRecDepth 100000
set_option maxHeartbeats 2000000
namespace Rw
open PySem PySem.Spec L2 PyProof.Rows
/-! ### sets of texts -/
def txt (e : Int × Value) : Str := match e.2 with | .str z _ => z | _ => Str.empty
def GoodT (w : World) (e : Int × Value) : Prop := ∃ z tk, e.2 = Value.str z tk ∧ e.1 = hashStr w z
/-- at a the set of the texts ks -/
def SetX (w : World) (h : Heap) (a : Addr) (ks : List Str) : Prop :=
  ∃ o es ep t, h.get? a = some o ∧ o.ExactSet ∧ o.data = .set es ep t ∧ (∀ e ∈ es.toList, GoodT w e) ∧ (es.toList.map txt).Perm ks ∧ ks.Nodup ∧ es.size < scanBound ∧ t.fits es.size = true ∧
    Ris t.place.toList ∧ (w.params.followText "set-order" = true ∨ t.led = true)
section
variable {P : Program} {w : World} {A : Around} {E : Value → Shared → Prop} {s : Shared} {a : Addr} {ks : List Str}
theorem SetX.keep {h h' : Heap} (R : SetX w h a ks) (k : ∀ o, h.get? a = some o → h'.get? a = some o) : SetX w h' a ks := by
  obtain ⟨o, es, ep, t, ho, rest⟩ := R
  exact ⟨o, es, ep, t, k o ho, rest⟩
theorem SetX.size {h : Heap} (R : SetX w h a ks) : ∃ o es ep t, h.get? a = some o ∧ o.ExactSet ∧ o.data = .set es ep t ∧ t.fits es.size = true ∧ es.size = ks.length := by
  obtain ⟨o, es, ep, t, ho, hex, hd, _, pm, _, _, hf, _⟩ := R
  refine ⟨o, es, ep, t, ho, hex, hd, hf, ?_⟩
  rw [← pm.length_eq, List.length_map, Array.length_toList]
theorem goodT_elems {l : List (Int × Value)} (g : ∀ e ∈ l, GoodT w e) : ElemsOf (PySem.strKind P w) l := fun e he => by
  obtain ⟨z, tk, h1, h2⟩ := g e he
  refine ⟨⟨z, by rw [h1]; exact strKind_is _ _ _ _, h2⟩, ?_⟩
  rw [h1]
  rfl
theorem goodT_is {e : Int × Value} (g : GoodT w e) (z : Str) : (PySem.strKind P w).is z e.2 = true ↔ txt e = z := by
  obtain ⟨y, tk, h1, _⟩ := g
  unfold txt
  rw [h1]
  show ((y == z) = true) ↔ y = z
  exact beq_iff_eq
/-- what a new element leaves -/
theorem setX_tail {g : Bool → Sem Unit} (quiet : ∀ (b : Bool) (s₁ : Shared) (Q' : Unit → Shared → Prop), Q' () s₁ → wpAny (model P w) A (g b) Q' E s₁) {o : Obj} {es : Array (Int × Value)} {ep : Nat} {t : SetTable}
    (ho : s.heap.get? a = some o) (hex : o.ExactSet) (hd : o.data = .set es ep t) {es1 : Array (Int × Value)} {t2 : SetTable} (g1 : ∀ e ∈ es1.toList, GoodT w e) (pm1 : (es1.toList.map txt).Perm ks) (nd1 : ks.Nodup)
    (few : es1.size < scanBound) (fit2 : t2.fits es1.size = true) (rise : Ris t2.place.toList) (order : w.params.followText "set-order" = true ∨ t2.led = true) {wasDummy : Bool} {R : Option Bool → Shared → Prop}
    (hR : ∀ h', Heap.SameBut a s.heap h' → SetX w h' a ks → R (some true) { s with heap := h' }) :
    wpAny (model P w) A (do
        storeSet a es1 t2
        if (!wasDummy && t2.tooFull) = true then do
            g (relayAll t2 es1 (SetTable.grown es1.size)).2.2
            storeSet a (relayAll t2 es1 (SetTable.grown es1.size)).1 (relayAll t2 es1 (SetTable.grown es1.size)).2.1
            pure (some true)
          else pure (some true)) R E s := by
  refine wpAny_bind (wpAny_storeSet_of ho hd ?_ (fits_of_scanBound few))
  have at1 := store_at (es' := es1) (t' := t2) ho hd
  have same1 := Heap.SameBut.update s.heap a (Obj.putSet es1 t2)
  split
  · have perm3 := relayAll_perm t2 es1 (SetTable.grown es1.size)
    have fit3 := relayAll_fits t2 es1 (SetTable.grown es1.size)
    have rise3 := relayAll_ris t2 es1 (SetTable.grown es1.size)
    have led3 := relayAll_led t2 es1 (SetTable.grown es1.size)
    generalize relayAll t2 es1 (SetTable.grown es1.size) = out at perm3 fit3 rise3 led3 ⊢
    obtain ⟨es2, t3, gave⟩ := out
    dsimp only at perm3 fit3 rise3 led3 ⊢
    have same_size : es2.size = es1.size := by rw [← Array.length_toList, perm3.length_eq, Array.length_toList]
    have few2 : es2.size < scanBound := by omega
    refine wpAny_bind (quiet _ _ _ ?_)
    refine wpAny_bind (wpAny_storeSet_of at1 rfl ?_ (fits_of_scanBound few2))
    refine wpAny_pure (hR _ (same1.trans (Heap.SameBut.update _ a _)) ?_)
    exact ⟨_, es2, _, t3, store_at (es' := es2) (t' := t3) at1 rfl, hex, rfl, fun e he => g1 e (perm3.mem_iff.mp he), (perm3.map txt).trans pm1, nd1, few2, fit3, rise3, order.imp id fun z => by rw [led3]; exact z⟩
  · exact wpAny_pure (hR _ same1 ⟨_, es1, _, t2, at1, hex, rfl, g1, pm1, nd1, few, fit2, rise, order⟩)
/-- a text is put in -/
theorem setX_add {z : Str} {tk : Tok} {Q : Bool → Shared → Prop} (R : SetX w s.heap a ks) (room : ks.length + 1 < scanBound)
    (hQ : ∀ h', Heap.SameBut a s.heap h' → SetX w h' a (if z ∈ ks then ks else z :: ks) → ∀ b, Q b { s with heap := h' }) :
    wpAny (model P w) A (setAddHashed a (.str z tk) (hashStr w z)) Q E s := by
  obtain ⟨o, es, ep, t, ho, hex, hd, g, pm, nd, hb, hf, hr, hl⟩ := R
  have is_z : (PySem.strKind P w).is z (.str z tk) = true := strKind_is _ _ _ _
  have scans : (Value.str z tk).scannable = true := rfl
  have elems : ElemsOf (PySem.strKind P w) es.toList := goodT_elems g
  have same_hash : hashStr w z = (PySem.strKind P w).hash z := rfl
  rw [same_hash]
  unfold setAddHashed setAddHashedIn
  refine wpAny_holding (wpAny_bind (wpAny_setState_of ho hd hf ?_))
  dsimp only
  rw [byScan_of scans hb elems]
  simp only [↓reduceIte]
  unfold setAddByScan
  refine wpAny_bind ?_
  refine wpAny_bind (wpAny_rule ?_)
  refine wpAny_bind (wpAny_setScan_of is_z ho hd hf elems ?_)
  cases there : List.findIdx? (fun e => (PySem.strKind P w).is z e.2) es.toList with
  | some j =>
    dsimp only
    obtain ⟨hj, at_j, _⟩ := List.findIdx?_eq_some_iff_getElem.mp there
    have mem : z ∈ ks := pm.mem_iff.mp (List.mem_map.mpr ⟨es.toList[j], List.getElem_mem hj, (goodT_is (P := P) (g _ (List.getElem_mem hj)) z).mp at_j⟩)
    refine wpAny_pure (wpAny_pure ?_)
    have q := hQ s.heap (Heap.SameBut.refl a s.heap)
    rw [if_pos mem] at q
    exact q ⟨o, es, ep, t, ho, hex, hd, g, pm, nd, hb, hf, hr, hl⟩ _
  | none =>
    dsimp only
    have notin : z ∉ ks := fun mem => by
      obtain ⟨e, he, q⟩ := List.mem_map.mp (pm.mem_iff.mpr mem)
      have no := List.findIdx?_eq_none_iff.mp there e he
      rw [(goodT_is (P := P) (g e he) z).mpr q] at no
      cases no
    have quiet : ∀ (b : Bool) {s₁ : Shared} {Q' : Unit → Shared → Prop}, Q' () s₁ → wpAny (model P w) A (match b with | true => rule "set.scan.the-table-gave-way" | false => pure ()) Q' E s₁ :=
      fun b s₁ Q' q => by cases b <;> first | exact wpAny_pure q | exact wpAny_rule q
    have perm1 := layNew_perm t es ((PySem.strKind P w).hash z) (.str z tk)
    have fit1 := layNew_fits t es ((PySem.strKind P w).hash z) (.str z tk)
    have rise1 := layNew_ris t es ((PySem.strKind P w).hash z) (.str z tk) hr
    have led1 := layNew_led t es ((PySem.strKind P w).hash z) (.str z tk)
    generalize layNew t es ((PySem.strKind P w).hash z) (.str z tk) = out at perm1 fit1 rise1 led1 ⊢
    obtain ⟨es1, t1, wasDummy, gave⟩ := out
    dsimp only at perm1 fit1 rise1 led1 ⊢
    rw [Array.toList_push] at perm1
    have permc : es1.toList.Perm (((PySem.strKind P w).hash z, Value.str z tk) :: es.toList) := perm1.trans (List.perm_append_singleton _ _)
    have permk : (es1.toList.map txt).Perm (z :: ks) := (permc.map txt).trans (List.Perm.cons _ pm)
    have good1 : ∀ e ∈ es1.toList, GoodT w e := fun e he => by
      rcases List.mem_cons.mp (permc.mem_iff.mp he) with q | q
      · rw [q]; exact ⟨z, tk, rfl, rfl⟩
      · exact g e q
    have nd1 : (z :: ks).Nodup := List.nodup_cons.mpr ⟨notin, nd⟩
    have size1 : es1.size = ks.length + 1 := by
      have := permk.length_eq
      rw [List.length_map, Array.length_toList] at this
      exact this
    have few1 : es1.size < scanBound := by omega
    have order1 : w.params.followText "set-order" = true ∨ t1.led = true := hl.imp id fun q => by rw [led1]; exact q
    have fin : ∀ h', Heap.SameBut a s.heap h' → SetX w h' a (z :: ks) → Q true { s with heap := h' } := fun h' sb r => by
      have q := hQ h' sb
      rw [if_neg notin] at q
      exact q r _
    refine wpAny_bind (quiet _ ?_)
    split
    · refine wpAny_bind ?_
      rw [hashByValue_scannable 8 scans]
      refine wpAny_pure ?_
      refine setX_tail ?_ ho hex hd good1 permk nd1 few1 ?_ ?_ ?_ ?_
      · intro b s₁ Q' q; cases b <;> first | exact wpAny_pure q | exact wpAny_rule q
      · first | (split <;> first | exact fit1 | exact SetTable.fits_plain_off fit1) | exact fit1
      · first | (split <;> exact rise1) | exact rise1
      · first | (split <;> exact order1) | exact order1
      · intro h' sb r; dsimp only; exact wpAny_pure (fin h' sb r)
    · refine wpAny_bind (wpAny_pure ?_)
      simp only [↓reduceIte]
      refine setX_tail ?_ ho hex hd good1 permk nd1 few1 fit1 rise1 order1 ?_
      · intro b s₁ Q' q; cases b <;> first | exact wpAny_pure q | exact wpAny_rule q
      · intro h' sb r; dsimp only; exact wpAny_pure (fin h' sb r)
end
end Rw
end T_S0

section T_S1
set_option Elab.async false
set_option linter.all false
set_option maxRecDepth 100000
set_option maxHeartbeats 4000000
namespace Rw
open PySem PySem.Spec L2 PyProof.Rows
/-! ### set(texts) -/
def put1 (ks : List Str) (z : Str) : List Str := if z ∈ ks then ks else z :: ks
def seen (l : List Str) : List Str := l.foldl put1 []
theorem seen_snoc (l : List Str) (z : Str) : seen (l ++ [z]) = put1 (seen l) z := by
  unfold seen
  rw [List.foldl_append]
  rfl
theorem seen_rev : ∀ l : List Str, (seen l).Nodup ∧ (∀ z, z ∈ seen l ↔ z ∈ l) ∧ (seen l).length ≤ l.length := by
  have go : ∀ (r : List Str), (seen r.reverse).Nodup ∧ (∀ z, z ∈ seen r.reverse ↔ z ∈ r.reverse) ∧ (seen r.reverse).length ≤ r.reverse.length := fun r => by
    induction r with
    | nil => exact ⟨List.nodup_nil, fun z => Iff.rfl, Nat.le_refl _⟩
    | cons x r ih =>
      obtain ⟨h1, h2, h3⟩ := ih
      rw [List.reverse_cons, seen_snoc]
      unfold put1
      by_cases m : x ∈ seen r.reverse
      · rw [if_pos m]
        refine ⟨h1, fun z => ?_, by simp; rw [List.length_reverse] at h3; omega⟩
        rw [h2, List.mem_append, List.mem_singleton]
        exact ⟨.inl, fun q => q.elim id fun e => by rw [e]; exact (h2 x).mp m⟩
      · rw [if_neg m]
        refine ⟨List.nodup_cons.mpr ⟨m, h1⟩, fun z => ?_, by simp; rw [List.length_reverse] at h3; omega⟩
        rw [List.mem_cons, h2, List.mem_append, List.mem_singleton]
        exact Or.comm
  intro l
  have := go l.reverse
  rw [List.reverse_reverse] at this
  exact this
theorem seen_perm {l : List Str} (h : l.Nodup) : (seen l).Perm l := by
  obtain ⟨h1, h2, _⟩ := seen_rev l
  exact (List.perm_ext_iff_of_nodup h1 h).mpr h2
theorem seen_len {l : List Str} (h : l.Nodup) : (seen l).length = l.length := (seen_perm h).length_eq
section
variable {prog : Program} {w : World} {A : Around} {R : Result → Shared → Prop} {I : Addr} {fp wr : List Addr} {G : Array GenState → Array GenState → Prop} {n : Nat} {P : Nat → Value → Prop} {St : Nat → Shared → Prop}
theorem setX_loop (W : WalksS prog w A.in1 I fp wr G n P St) (S : Addr) (apart : S ∉ fp) (xs : List Str) (many : xs.length = n) (few : n < 1000) (texts : ∀ i v, P i v → ∃ t, v = .str (xs.getD i Str.empty) t) :
    ∀ (left i : Nat) (s : Shared), n - i = left → i ≤ n → St i s → SetX w s.heap S (seen (xs.take i)) → (∀ s', Moved (S :: wr) G s s' → SetX w s'.heap S (seen xs) → R (.ok (.ret .none)) s') →
      codeAny (model prog w) A (.builtin "set.update.loop" ⟨[.ref S, .ref I], []⟩) R s := by
  have apart2 : S ∉ wr := fun h => apart (W.sub _ h)
  have wider : ∀ b ∈ wr, b ∈ S :: wr := fun b hb => List.mem_cons_of_mem _ hb
  intro left
  induction left with
  | zero =>
    intro i s hl hi here set_s go
    have at_end : i = n := by omega
    subst at_end
    refine codeAny_builtin PyProof.Rows.F.entry_set_update_loop ?_
    rw [Around.under_plainId PyProof.Rows.F.plain_set_update_loop _]
    show wpAny _ A.in1 (pyNext (.ref I) >>= _) _ _ s
    refine wpAny_bind (W.done s _ _ here fun s' moved => ?_)
    show wpAny _ A.in1 (ret Value.none) _ _ s'
    refine wpAny_pure (go s' (moved.mono wider) ?_)
    rw [List.take_of_length_le (by omega)] at set_s
    exact set_s.keep fun o e => moved.heap S o apart2 e
  | succ left ih =>
    intro i s hl hi here set_s go
    have more : i < n := by omega
    refine codeAny_builtin PyProof.Rows.F.entry_set_update_loop ?_
    rw [Around.under_plainId PyProof.Rows.F.plain_set_update_loop _]
    show wpAny _ A.in1 (pyNext (.ref I) >>= _) _ _ s
    refine wpAny_bind (W.item i s _ _ more here fun v s' is_v here' moved => ?_)
    obtain ⟨t, rfl⟩ := texts i v is_v
    have set_s' : SetX w s'.heap S (seen (xs.take i)) := set_s.keep fun o e => moved.heap S o apart2 e
    have is_i : xs.getD i Str.empty = xs[i]'(by omega) := by rw [List.getD_eq_getElem?_getD, List.getElem?_eq_getElem (by omega)]; rfl
    show wpAny _ A.in1 (holding [Value.str (xs.getD i Str.empty) t] (setAdd S (.str (xs.getD i Str.empty) t)) >>= _) _ _ s'
    refine wpAny_bind (wpAny_holding ?_)
    unfold setAdd
    refine wpAny_holding ?_
    refine wpAny_bind ((PySem.strKind prog w).pyHash (k := xs.getD i Str.empty) (strKind_is _ _ _ _) ?_)
    refine setX_add (P := prog) (s := { s' with toks := s'.toks + 1 }) set_s' ?_ fun h' same set_h b => ?_
    · have := (seen_rev (xs.take i)).2.2
      rw [List.length_take] at this
      unfold scanBound
      omega
    have set_next : SetX w h' S (seen (xs.take (i + 1))) := by
      have e : xs.take (i + 1) = xs.take i ++ [xs.getD i Str.empty] := by rw [List.take_add_one, List.getElem?_eq_getElem (show i < xs.length by omega), is_i]; rfl
      rw [e, seen_snoc]
      exact set_h
    refine wpAny_pure ⟨plainId_quiet PyProof.Rows.F.plain_set_update_loop _, ih (i + 1) _ (by omega) more (W.frame _ s' _ _ here' (Nat.le_succ _) fun b hb o e => ?_) set_next fun s'' moved2 set_all => ?_⟩
    · rw [same.2 b (fun h : b = S => apart (by rw [← h]; exact hb))]
      exact e
    · refine go s'' (Moved.trans W.gtrans ((moved.mono wider).then_heap (Nat.le_succ _) fun b o hb e => ?_) moved2) set_all
      rw [same.2 b (fun h : b = S => hb (by rw [h]; exact List.mem_cons_self))]
      exact e
end
section
variable {prog : Program} {w : World} {A : Around} {E : Value → Shared → Prop} {s : Shared}
theorem call_setX_list {l : Addr} {items : Array Value} {xs : List Str} {Q : Value → Shared → Prop} (hh : A.handled = none) (hl : s.heap.IsList l items) (hi : PyProof.Rows.StrsAre items.toList xs) (few : xs.length < 1000)
    (h : ∀ (h' : Heap) (tk : Nat), SetX w h' s.heap.objs.size (seen xs) → (∀ b o, s.heap.get? b = some o → h'.get? b = some o) → Q (.ref s.heap.objs.size) { s with heap := h', toks := tk }) :
    wpAny (model prog w) A (call (.type "set") [.ref l]) Q E s := by
  obtain ⟨c, tl, mro⟩ := PySem.F.called_set.mro
  have made := PySem.F.called_set.made
  have subs := PySem.F.called_set.sub
  refine wpAny_call (codeAny_of_tree ?_)
  show wpAny _ _ (callAny (.type "set") _) _ _ _
  refine wpAny_pure ⟨Code.quiet_builtin _ (by decide +kernel), codeAny_builtin PySem.F.entry_type_call ?_⟩
  rw [Around.under_plain (weight_type_call_type "set" [.ref l] []) rfl]
  have not_type := PySem.F.called_set.notType
  have creates := PySem.F.called_set.canCreate
  have one := PySem.F.typeCall_set_1 (.ref l)
  repeat (any_goals (first | assumption | wp_step))
  refine codeAny_mono (code_set_led1 (.ref l) (E := E) (Q₁ := fun obj s₁ => obj = .ref s.heap.objs.size ∧ s₁ = { s with heap := s.heap.push { cls := .type "set", dict := none, data := .set #[] 0 (.fresh 0 0 (!w.params.followText "set-order")) } }) ⟨rfl, rfl⟩) fun r s₁ hr => ?_
  cases r with
  | error e => exact hr
  | ok fl =>
    cases fl with
    | ret obj =>
      obtain ⟨rfl, rfl⟩ := hr
      generalize new_is : ({ cls := .type "set", dict := none, data := .set #[] 0 (.fresh 0 0 (!w.params.followText "set-order")) } : Obj) = new
      have at_new : (s.heap.push new).get? s.heap.objs.size = some new := Heap.get?_push_size _ (by rw [← new_is]; rfl)
      have is_set : Shared.TypeIs { s with heap := s.heap.push new } (.ref s.heap.objs.size) "set" := ⟨_, at_new, by rw [← new_is]⟩
      have look_init := PySem.F.called_set.init.lookup
      have bind_init := PySem.F.called_set.init.bind (.ref s.heap.objs.size)
      repeat (any_goals (first | assumption | wp_step))
      refine codeAny_mono (codeAny_call_builtin (R := wants (fun r s₂ => r = .none ∧ ∃ h' tk, s₂ = { s with heap := h', toks := tk } ∧ SetX w h' s.heap.objs.size (seen xs) ∧ (∀ b o, s.heap.get? b = some o → h'.get? b = some o)) E)
        PySem.F.called_set.init.plain PySem.F.entry_set_init (check_set_init_1 is_set ?_)) fun r₂ s₂ hr₂ => ?_
      · obtain ⟨ol, hol, hcl, nl, hdl⟩ := hl
        obtain ⟨ocls, odict, odata, oslots⟩ := ol
        simp only at hcl hdl
        subst hcl; subst hdl
        have at_l : (s.heap.push new).get? l = some { cls := .type "list", dict := odict, data := .seq items nl, slots := oslots } := Heap.get?_push_of_some _ hol
        have no_sub := PySem.F.sub_list_set
        have no_sub2 := PySem.F.sub_list_frozenset
        have no_dict : (Value.type "list" == Value.type "dict") = false := by decide
        have is_l : (s.heap.push new).IsList l items := ⟨_, at_l, rfl, nl, rfl⟩
        have l_lt : l < s.heap.objs.size := Heap.lt_size hol
        have calm3 : A.in1.in1.in1.handled = none := by simp [hh]
        have ne_it : l ≠ (s.heap.push new).objs.size := by
          rw [Heap.size_push]
          exact Nat.ne_of_lt (Nat.lt_succ_of_lt l_lt)
        have apart : s.heap.objs.size ∉ [(s.heap.push new).objs.size, l] := by
          rw [Heap.size_push]
          intro z
          rcases List.mem_cons.mp z with z | z
          · exact absurd z (Nat.ne_of_lt (Nat.lt_succ_self _))
          · exact absurd (List.mem_singleton.mp z) (Nat.ne_of_gt l_lt)
        subst new_is
        unfold Builtin.«set.__init__» noKeywords Builtin.Frozenset.updateFrom
        generalize iter_is : pyIter = PI
        wp_walk
        subst iter_is
        refine wpAny_pyIter_list is_l ?_
        refine wpAny_bind (wpAny_runValue ?_)
        have many : xs.length = items.size := by rw [← StrsAre.len_eq hi, Array.length_toList]
        have texts : ∀ (i : Nat) (v : Value), items[i]? = some v → ∃ t, v = .str (xs.getD i Str.empty) t := fun i v hv => SS.strs_at hi i v (by rw [Array.getElem?_toList]; exact hv)
        refine setX_loop ((Walks.list calm3 _ l ne_it items).toS) s.heap.objs.size apart xs many (by omega) texts (items.size - 0) 0 _ (by omega) (Nat.zero_le _) ⟨⟨_, Heap.get?_push_size _ rfl, rfl, rfl⟩, (is_l.push _)⟩ ?start ?finish
        case start =>
          refine ⟨_, #[], 0, .fresh 0 0 (!w.params.followText "set-order"), Heap.get?_push_of_some _ at_new, ⟨rfl, rfl, rfl⟩, rfl, (fun e he => by cases he), List.Perm.refl _, List.nodup_nil, by decide, by rfl, List.Pairwise.nil, ?_⟩
          cases q : w.params.followText "set-order"
          · exact .inr rfl
          · exact .inl rfl
        case finish =>
          intro s' moved set_all
          obtain ⟨h', g', d', tk', os'⟩ := s'
          have eg : g' = s.gens := moved.gens
          have ed : d' = s.drawn := moved.drawn
          have eo : os' = s.os := moved.os
          subst eg; subst ed; subst eo
          show wpAny _ _ _ _ _ _
          refine wpAny_pure ?_
          show wpAny _ _ (ret Value.none) _ _ _
          refine wpAny_pure ⟨rfl, h', tk', rfl, set_all, fun b o e => ?_⟩
          have b_lt := Heap.lt_size e
          refine moved.heap b o (fun z => ?_) (Heap.get?_push_of_some _ (Heap.get?_push_of_some _ e))
          rcases List.mem_cons.mp z with z | z
          · exact absurd z (Nat.ne_of_lt b_lt)
          · have z := List.mem_singleton.mp z
            rw [Heap.size_push] at z
            exact absurd z (Nat.ne_of_lt (Nat.lt_succ_of_lt b_lt))
      · cases r₂ with
        | error e => exact hr₂
        | ok fl₂ =>
          cases fl₂ with
          | ret r =>
            obtain ⟨rfl, h', tk, rfl, set_all, kept⟩ := hr₂
            repeat (any_goals (first | assumption | wp_step))
            exact h _ _ set_all kept
          | _ => exact hr₂.elim
    | _ => exact hr.elim
theorem call_setX_tuple {l : Addr} {items : Array Value} {xs : List Str} {Q : Value → Shared → Prop} (hh : A.handled = none) (hl : s.heap.IsTuple l items) (hi : PyProof.Rows.StrsAre items.toList xs) (few : xs.length < 1000)
    (h : ∀ (h' : Heap) (tk : Nat), SetX w h' s.heap.objs.size (seen xs) → (∀ b o, s.heap.get? b = some o → h'.get? b = some o) → Q (.ref s.heap.objs.size) { s with heap := h', toks := tk }) :
    wpAny (model prog w) A (call (.type "set") [.ref l]) Q E s := by
  obtain ⟨c, tl, mro⟩ := PySem.F.called_set.mro
  have made := PySem.F.called_set.made
  have subs := PySem.F.called_set.sub
  refine wpAny_call (codeAny_of_tree ?_)
  show wpAny _ _ (callAny (.type "set") _) _ _ _
  refine wpAny_pure ⟨Code.quiet_builtin _ (by decide +kernel), codeAny_builtin PySem.F.entry_type_call ?_⟩
  rw [Around.under_plain (weight_type_call_type "set" [.ref l] []) rfl]
  have not_type := PySem.F.called_set.notType
  have creates := PySem.F.called_set.canCreate
  have one := PySem.F.typeCall_set_1 (.ref l)
  repeat (any_goals (first | assumption | wp_step))
  refine codeAny_mono (code_set_led1 (.ref l) (E := E) (Q₁ := fun obj s₁ => obj = .ref s.heap.objs.size ∧ s₁ = { s with heap := s.heap.push { cls := .type "set", dict := none, data := .set #[] 0 (.fresh 0 0 (!w.params.followText "set-order")) } }) ⟨rfl, rfl⟩) fun r s₁ hr => ?_
  cases r with
  | error e => exact hr
  | ok fl =>
    cases fl with
    | ret obj =>
      obtain ⟨rfl, rfl⟩ := hr
      generalize new_is : ({ cls := .type "set", dict := none, data := .set #[] 0 (.fresh 0 0 (!w.params.followText "set-order")) } : Obj) = new
      have at_new : (s.heap.push new).get? s.heap.objs.size = some new := Heap.get?_push_size _ (by rw [← new_is]; rfl)
      have is_set : Shared.TypeIs { s with heap := s.heap.push new } (.ref s.heap.objs.size) "set" := ⟨_, at_new, by rw [← new_is]⟩
      have look_init := PySem.F.called_set.init.lookup
      have bind_init := PySem.F.called_set.init.bind (.ref s.heap.objs.size)
      repeat (any_goals (first | assumption | wp_step))
      refine codeAny_mono (codeAny_call_builtin (R := wants (fun r s₂ => r = .none ∧ ∃ h' tk, s₂ = { s with heap := h', toks := tk } ∧ SetX w h' s.heap.objs.size (seen xs) ∧ (∀ b o, s.heap.get? b = some o → h'.get? b = some o)) E)
        PySem.F.called_set.init.plain PySem.F.entry_set_init (check_set_init_1 is_set ?_)) fun r₂ s₂ hr₂ => ?_
      · obtain ⟨ol, hol, hcl, nl, hdl⟩ := hl
        obtain ⟨ocls, odict, odata, oslots⟩ := ol
        simp only at hcl hdl
        subst hcl; subst hdl
        have at_l : (s.heap.push new).get? l = some { cls := .type "tuple", dict := odict, data := .seq items nl, slots := oslots } := Heap.get?_push_of_some _ hol
        have no_sub := PySem.F.sub_tuple_set
        have no_sub2 := PySem.F.sub_tuple_frozenset
        have no_dict : (Value.type "tuple" == Value.type "dict") = false := by decide
        have is_l : (s.heap.push new).IsTuple l items := ⟨_, at_l, rfl, nl, rfl⟩
        have l_lt : l < s.heap.objs.size := Heap.lt_size hol
        have calm3 : A.in1.in1.in1.handled = none := by simp [hh]
        have ne_it : l ≠ (s.heap.push new).objs.size := by
          rw [Heap.size_push]
          exact Nat.ne_of_lt (Nat.lt_succ_of_lt l_lt)
        have apart : s.heap.objs.size ∉ [(s.heap.push new).objs.size, l] := by
          rw [Heap.size_push]
          intro z
          rcases List.mem_cons.mp z with z | z
          · exact absurd z (Nat.ne_of_lt (Nat.lt_succ_self _))
          · exact absurd (List.mem_singleton.mp z) (Nat.ne_of_gt l_lt)
        subst new_is
        unfold Builtin.«set.__init__» noKeywords Builtin.Frozenset.updateFrom
        generalize iter_is : pyIter = PI
        wp_walk
        subst iter_is
        refine wpAny_pyIter_tuple is_l ?_
        refine wpAny_bind (wpAny_runValue ?_)
        have many : xs.length = items.size := by rw [← StrsAre.len_eq hi, Array.length_toList]
        have texts : ∀ (i : Nat) (v : Value), items[i]? = some v → ∃ t, v = .str (xs.getD i Str.empty) t := fun i v hv => SS.strs_at hi i v (by rw [Array.getElem?_toList]; exact hv)
        refine setX_loop ((Walks.tuple calm3 _ l ne_it items).toS) s.heap.objs.size apart xs many (by omega) texts (items.size - 0) 0 _ (by omega) (Nat.zero_le _) ⟨⟨_, Heap.get?_push_size _ rfl, rfl, rfl⟩, (is_l.push _)⟩ ?start ?finish
        case start =>
          refine ⟨_, #[], 0, .fresh 0 0 (!w.params.followText "set-order"), Heap.get?_push_of_some _ at_new, ⟨rfl, rfl, rfl⟩, rfl, (fun e he => by cases he), List.Perm.refl _, List.nodup_nil, by decide, by rfl, List.Pairwise.nil, ?_⟩
          cases q : w.params.followText "set-order"
          · exact .inr rfl
          · exact .inl rfl
        case finish =>
          intro s' moved set_all
          obtain ⟨h', g', d', tk', os'⟩ := s'
          have eg : g' = s.gens := moved.gens
          have ed : d' = s.drawn := moved.drawn
          have eo : os' = s.os := moved.os
          subst eg; subst ed; subst eo
          show wpAny _ _ _ _ _ _
          refine wpAny_pure ?_
          show wpAny _ _ (ret Value.none) _ _ _
          refine wpAny_pure ⟨rfl, h', tk', rfl, set_all, fun b o e => ?_⟩
          have b_lt := Heap.lt_size e
          refine moved.heap b o (fun z => ?_) (Heap.get?_push_of_some _ (Heap.get?_push_of_some _ e))
          rcases List.mem_cons.mp z with z | z
          · exact absurd z (Nat.ne_of_lt b_lt)
          · have z := List.mem_singleton.mp z
            rw [Heap.size_push] at z
            exact absurd z (Nat.ne_of_lt (Nat.lt_succ_of_lt b_lt))
      · cases r₂ with
        | error e => exact hr₂
        | ok fl₂ =>
          cases fl₂ with
          | ret r =>
            obtain ⟨rfl, h', tk, rfl, set_all, kept⟩ := hr₂
            repeat (any_goals (first | assumption | wp_step))
            exact h _ _ set_all kept
          | _ => exact hr₂.elim
    | _ => exact hr.elim
end
end Rw
end T_S1

section T_S2
set_option Elab.async false
set_option linter.all false
set_option maxRecDepth 100000
set_option maxHeartbeats 4000000
namespace Rw
open PySem PySem.Spec L2 PyProof.Rows
/-! ### the rules over the layer: a set of texts is a thing of its own -/
def SetXO (w : World) (a : Addr) (ks : List Str) : HO := .ext fun h => SetX w h a ks
theorem setXO_ok {P : Program} {w : World} {H : Hp} {h : Heap} {a : Addr} {ks : List Str} (R : SetX w h a ks) : ObjOk P w H h a (SetXO w a ks) := by
  obtain ⟨o, es, ep, t, ho, rest⟩ := R
  exact ⟨⟨o, es, ep, t, ho, rest⟩, ⟨o, ho⟩, fun h1 h2 x k => x.keep k⟩
section
variable {X : Cx}
/-- set(xs), xs a list or a tuple of texts -/
def rSetX (K : PySem.W.Frag) (w : World) : List V → Hp → VK → Prop := fun vs H Q => ∃ (a : Addr) (xs : List Str), vs = [.ref a] ∧ (SqL K H a (xs.map V.str) ∨ SqT K H a (xs.map V.str)) ∧ xs.length < 1000 ∧
  ∀ p, H p = none → Q (.ref p) (upd H p (SetXO w p (seen xs)))
theorem cr_setX (calm : X.calm = true) : CallR X (.type "set") (rSetX X.K X.w) := by
  intro pins s σ H vs us Q I r reading
  obtain ⟨a, xs, rfl, hq, few, q⟩ := reading
  rw [Vals.ref1 r]
  have fin : ∀ (h' : Heap) (tk : Nat), SetX X.w h' s.heap.objs.size (seen xs) → (∀ b o, s.heap.get? b = some o → h'.get? b = some o) → EP X pins σ Q (.ref s.heap.objs.size) { s with heap := h', toks := tk } := fun h' tk R keep =>
    ⟨.ref _, _, I.laid (t' := tk) keep (Nat.le_refl _) (setXO_ok R), rfl, q _ (I.hok.fresh (Nat.le_refl _))⟩
  rcases hq with hq | hq
  · obtain ⟨its, rv, pl, _⟩ := I.list hq
    exact call_setX_list (I.ok.hd calm) pl.isList (by simpa using strsAre_of rv) few fin
  · obtain ⟨its, rv, pl, _⟩ := I.tuple hq
    exact call_setX_tuple (I.ok.hd calm) pl (by simpa using strsAre_of rv) few fin
/-- len(a set of texts) -/
def rLenX (w : World) : List V → Hp → VK → Prop := fun vs H Q => ∃ (a : Addr) (ks : List Str), vs = [.ref a] ∧ H a = some (SetXO w a ks) ∧ Q (.int (ks.length : Int)) H
theorem cr_lenX : CallR X (.builtin "len") (rLenX X.w) := by
  intro pins s σ H vs us Q I r reading
  obtain ⟨a, ks, rfl, ha, q⟩ := reading
  rw [Vals.ref1 r]
  have R : SetX X.w s.heap a ks := (I.hok a _ ha).1
  obtain ⟨o, es, ep, t, ho, hex, hd, hf, hn⟩ := R.size
  have few : es.size < scanBound := by
    obtain ⟨o', es', ep', t', ho', _, hd', _, _, _, hb, _⟩ := R
    rw [ho] at ho'
    cases ho'
    rw [hd] at hd'
    cases hd'
    exact hb
  exact call_len_set ho hex hd hf (by unfold scanBound at few; omega) ⟨.int (ks.length : Int), H, I.tok _, ⟨_, by rw [hn]⟩, q⟩
/-- sorted(a set of texts) -/
def rSortedX (w : World) : List V → Hp → VK → Prop := fun vs H Q => ∃ (a : Addr) (ks : List Str), vs = [.ref a] ∧ H a = some (SetXO w a ks) ∧ ks.length < 64 ∧
  ∀ (ys : List Str) (p : Addr), ys.Perm ks → sortedS ys = true → H p = none → Q (.ref p) (upd H p (.lst (ys.map V.str)))
theorem strs_are : ∀ vs : List Value, (∀ v ∈ vs, ∃ z tk, v = Value.str z tk) → StrsAre vs (vs.map fun v => match v with | .str z _ => z | _ => Str.empty)
  | [], _ => .nil
  | v :: r, h => by
    obtain ⟨z, tk, rfl⟩ := h v List.mem_cons_self
    exact .cons z tk (strs_are r fun u hu => h u (List.mem_cons_of_mem _ hu))
theorem cr_sortedX (calm : X.calm = true) : CallR X (.builtin "sorted") (rSortedX X.w) := by
  intro pins s σ H vs us Q I r reading
  obtain ⟨a, ks, rfl, ha, h64, q⟩ := reading
  rw [Vals.ref1 r]
  have R : SetX X.w s.heap a ks := (I.hok a _ ha).1
  obtain ⟨o, es, ep, t, ho, hex, hd, good, perm, nd, few, fit, rise, order⟩ := R
  refine Calls.call_function_entry kind_sorted plain_sorted entry_sorted (args_sorted1 _) ?_
  unfold Builtin.«sorted»
  refine wpAny_bind (m := checkCount "sorted" 1 1 _) (wpAny_pure ?_)
  refine wpAny_bind (collect_set (A := X.A.in1) (I.ok.hd calm) ⟨o, ho, hex.1, hd⟩ fit few rise order fun s1 out keep grow gens os permo => ?_)
  have texts : StrsAre out (out.map fun v => match v with | .str z _ => z | _ => Str.empty) := strs_are out fun v hv => by
    obtain ⟨e, he, q⟩ := List.mem_map.mp (permo.mem_iff.mp hv)
    obtain ⟨z, tk, h1, _⟩ := good e he
    exact ⟨z, tk, q.symm.trans h1⟩
  have permk : (out.map fun v => match v with | .str z _ => z | _ => Str.empty).Perm ks := by
    have z := permo.map fun v : Value => match v with | .str z _ => z | _ => Str.empty
    rw [List.map_map] at z
    exact z.trans perm
  have len : out.length = ks.length := by rw [← permk.length_eq, List.length_map]
  refine wpAny_bind (wpAny_newList ?_ (by rw [len, sizeLine_eq]; omega))
  have at_l : (s1.heap.push (seqObj "list" out.toArray 0)).get? s1.heap.objs.size = some (seqObj "list" out.toArray 0) := Heap.get?_push_size _ rfl
  refine wpAny_bind (wpAny_holding (wpAny_call_entry slot_list_sort ⟨_, at_l, rfl⟩ entry_list_sort
    (list_sort_treeK strKind_oneLt (s := { s1 with heap := s1.heap.push (seqObj "list" out.toArray 0) }) at_l texts.keysOf (fun v₁ v₂ rest e => keyKind_strs (by rw [← e]; exact texts)) (by rw [len]; exact h64) fun st' hp hs => ⟨_, rfl, ?_⟩)
    (args_list_sort _)))
  obtain ⟨ys, g1, g2, g3⟩ := sorted_out_str texts hp hs
  obtain ⟨c, at_out⟩ := sortedHeap_at (vs := out) (out := (arrOf st').map (·.2)) at_l
  have lenys : (ys.map V.str).length ≤ sizeLine := by rw [List.length_map, g2.length_eq, List.length_map, len, sizeLine_eq]; omega
  have keep2 : ∀ b u, s.heap.get? b = some u → (sortedHeap (s1.heap.push (seqObj "list" out.toArray 0)) s1.heap.objs.size out ((arrOf st').map (·.2))).get? b = some u := fun b u e => by
    have e1 := keep b u e
    have lt := Heap.lt_size e1
    rw [sortedHeap_old (Nat.ne_of_lt lt) (by rw [size_push']; exact Nat.lt_succ_of_lt lt)]
    exact Heap.get?_push_of_some _ e1
  have fresh : H s1.heap.objs.size = none := I.hok.fresh grow
  obtain ⟨h1, g', d1, t1, os1⟩ := s1
  have eg : g' = s.gens := gens
  have eo : os1 = s.os := os
  subst eg; subst eo
  have J : Inv X pins σ (upd H h1.objs.size (.lst (ys.map V.str))) { s with heap := sortedHeap (h1.push (seqObj "list" out.toArray 0)) h1.objs.size out ((arrOf st').map (·.2)), gens := s.gens, drawn := d1, toks := t1 } :=
    I.call (ch := []) (Un.laid keep2 grow fresh) (I.hok.laid keep2 grow ⟨lenys, ((arrOf st').map (·.2)).toList, c, vals_of_strs g1, by rw [Array.toArray_toList]; exact at_out⟩) I.bare (fun _ z => nomatch z)
  exact wpAny_pure ⟨_, rfl, .ref _, _, J, rfl, q ys _ (g2.trans permk) g3 fresh⟩
end
end Rw
end T_S2

section T_V0
set_option Elab.async false
set_option linter.all false
set_option maxRecDepth 100000
set_option maxHeartbeats 2000000
namespace Rw
open PySem PySem.Spec L2 PyProof.Rows
/-! ### list(d.values()) -/
def tValsL (te : TE) : TE := fun σ H Q => te σ H fun x H1 => ∃ (d : Addr) (kvs : List (Key × V)), x = .ref d ∧ Rd H1 d (.dK kvs) ∧ ∀ p, H1 p = none → Q (.ref p) (upd H1 p (.lst (kvs.map (·.2))))
theorem pairs_vals {P : Program} {w : World} {es : List DictEntry} {vs : List (Key × Value)} (h : Pairs (mixKind P w) es vs) : es.map (·.val) = vs.map (·.2) := by
  induction h with
  | nil => rfl
  | cons _ h2 _ ih =>
    rw [List.map_cons, List.map_cons, ih, h2]
theorem vals_snd : ∀ {kvs : List (Key × V)} {vs : List (Key × Value)}, KV kvs vs → Vals (kvs.map (·.2)) (vs.map (·.2))
  | _, _, .nil => .nil
  | _, _, .cons r t => .cons r.2 (vals_snd t)
section
variable {X : Cx} {e : Expr} {te : TE} {p apos cpos pos : Pos}
theorem pe_listVals (calm : X.calm = true) (he : PE X e te) (glob : Gl X "list") (free : X.mg "list" = none) (base : attributeBase e "values" X.env (eval e X.env) = eval e X.env := by rfl) (line : (apos.endLine == cpos.line) = true := by rfl)
    (arg : starEach [.Call (.Attribute e "values" apos) [] [] cpos] X.env = (false, eval (.Call (.Attribute e "values" apos) [] [] cpos) X.env) :: starEach [] X.env := by rfl) :
    PE X (.Call (.Name "list" p) [.Call (.Attribute e "values" apos) [] [] cpos] [] pos) (tValsL te) := by
  constructor
  intro pins s σ H Q I reading
  refine wpAny_Call_Name_kw (ld_blt I glob free (show bootBuiltins "list" = some (.type "list") by decide +kernel) ?_)
  refine PyProof.Rows.callWith_type1 ?_ arg rfl
  rw [arg]
  show wpAny _ _ (spliced ((false, eval (.Call (.Attribute e "values" apos) [] [] cpos) X.env) :: backTo pos (starEach [] X.env))) _ _ s
  refine Calls.spliced_cons ?_
  refine wpAny_Call_method (T := "dict") (id := "dict.values") base rfl line F.plainAttrs_dict F.slot_dict_values F.type_dict_values (thn (he.run pins s σ H _ I reading) ?_)
  rintro u s1 ⟨x, H1, I1, rx, d, kvs, rfl, hd, q⟩
  have u_is : u = Value.ref d := rx
  subst u_is
  obtain ⟨few, low, vs, kv, hdo⟩ := hd.ok I1.hok
  have I2 : Inv X pins σ H1 { s1 with heap := s1.heap.push { cls := .type "dict_values", data := .fields #[.ref d] } } := I1.kept (t' := s1.toks) fun b ob z => Heap.get?_push_of_some _ z
  refine ⟨hdo.typeIs, hdo.mapOf.noDict, ?_⟩
  show wpAny _ _ (callWith cpos (.builtin "dict.values") [.ref d] [] []) _ X.xe s1
  refine method_meetsIn F.slot_dict_values F.entry_dict_values rfl (PySem.evalArgs_none ⟨rfl, hdo.typeIs, F.args_dict_values_1 _, _, meets_dict_values (mixKind X.prog X.w) d low, ⟨vs, hdo⟩, ?_⟩)
  refine Calls.spliced_nil ?_
  obtain ⟨o, es, ep, ho, exact_, hdat, keys, prs, nd⟩ := hdo
  have esz : es.size = vs.length := by
    have := prs.length
    simpa using this
  have lk : kvs.length = vs.length := Paired.length kv
  refine PySem.W.kdl_call (KdlSrc.rawValues (es := es) (ep := ep) (d := d)) (I1.ok.hd calm) ⟨⟨_, Heap.get?_push_size _ rfl, rfl, rfl⟩, ⟨o, Heap.get?_push_of_some _ ho, exact_, hdat⟩⟩ (by omega) fun h' tk acc c keep at_p got => ?_
  have fresh : H1 s1.heap.objs.size = none := I1.hok.fresh (Nat.le_refl _)
  have fresh2 : H1 (s1.heap.push { cls := .type "dict_values", data := .fields #[.ref d] }).objs.size = none := I1.hok.fresh (by rw [Heap.size_push]; exact Nat.le_succ _)
  have acc_is : acc.toList = vs.map (·.2) := by
    rw [← pairs_vals prs]
    obtain ⟨g1, g2⟩ := got
    refine List.ext_getElem (by rw [List.length_map, Array.length_toList, Array.length_toList, g1]) fun j h1 h2 => ?_
    have z : acc[j]? = some acc.toList[j] := by rw [← Array.getElem?_toList, List.getElem?_eq_getElem h1]
    obtain ⟨hj, e⟩ := g2 j _ z
    rw [e, List.getElem_map, Array.getElem_toList]
  refine ⟨.ref _, _, I2.laid (t' := tk) keep (Nat.le_refl _) ?_, rfl, q _ fresh2⟩
  exact ⟨by rw [List.length_map]; exact few, acc.toList, c, by rw [acc_is]; exact vals_snd kv, by simpa using at_p⟩
end
end Rw
end T_V0

section T_P0
set_option Elab.async false
set_option linter.all false
set_option maxRecDepth 100000
set_option maxHeartbeats 2000000
namespace Rw
open PySem L2 PyProof.Rows
/-! ### lists of True -/
section
variable {K : PySem.W.Frag} {a D : Addr} {xs : List V} {g : TG} {tt : TT} {te : TE} {vs : List Nat} {σ : L2.St} {H : Hp} {Qd : Hp → Prop}
theorem lc_trues (hx : SqL K H a xs) (hD : H D = none) (hl : xs.length < 1000)
    (turn : ∀ (i : Nat) (x : V) (H1 : Hp) (Q : VK) (R : Hp → Prop), xs[i]? = some x → Evl.Ex H H1 → (∀ H4, Evl.Ex H1 H4 → Q (.bl true) H4) → g x (wipe σ vs) H1 fun σ2 H2 => wipe σ2 vs = wipe σ vs ∧ tt σ2 H2 fun b H3 => if b = true then te σ2 H3 Q else R H3)
    (fin : ∀ H1, Evl.Ex H H1 → H1 D = some (.lst ((List.replicate xs.length true).map V.bl)) → Qd H1) :
    ∃ W : Nat → Nat → Hp → Prop, (∃ m, W 0 m (upd H D (.lst []))) ∧ ∀ i m H1, W i m H1 →
      ((Itl K a).stop i H1 ∧ Qd H1) ∨ ((Itl K a).go i H1 ∧ ∃ Nx : Hp → Prop, (∀ H', Nx H' → ∃ m', m' < m ∧ W (i + 1) m' H') ∧ ∀ x H', (Itl K a).yld i H1 x H' → g x (wipe σ vs) H' fun σ2 H2 => wipe σ2 vs = wipe σ vs ∧ tt σ2 H2 fun b H3 =>
        if b = true then te σ2 H3 fun y H4 => ∃ acc, H4 D = some (.lst acc) ∧ acc.length < sizeLine ∧ Nx (upd H4 D (.lst (acc ++ [y]))) else Nx H3) := by
  refine lc_list (K := K) (a := a) (xs := xs) (fun i H1 => i ≤ xs.length ∧ Evl.Ex H H1 ∧ H1 D = some (.lst ((List.replicate i true).map V.bl))) ⟨Nat.zero_le _, Evl.Ex.new hD, upd_same⟩ (fun i H1 _ h => Evl.ex_l h.2.1 hx) ?_ (fun H1 h => fin H1 h.2.1 h.2.2)
  rintro i x H1 hi ⟨_, e1, d1⟩
  have hil : i < xs.length := (List.getElem?_eq_some_iff.mp hi).1
  refine turn i x H1 _ _ hi e1 fun H4 e4 => ⟨_, e4 _ _ d1, ?_, hil, (e1.trans e4).mut hD, ?_⟩
  · rw [List.length_map, List.length_replicate]
    exact small1000 (by omega)
  · rw [upd_same, List.replicate_succ', List.map_append]
    rfl
theorem lc_truesT (hx : SqT K H a xs) (hD : H D = none) (hl : xs.length < 1000)
    (turn : ∀ (i : Nat) (x : V) (H1 : Hp) (Q : VK) (R : Hp → Prop), xs[i]? = some x → Evl.Ex H H1 → (∀ H4, Evl.Ex H1 H4 → Q (.bl true) H4) → g x (wipe σ vs) H1 fun σ2 H2 => wipe σ2 vs = wipe σ vs ∧ tt σ2 H2 fun b H3 => if b = true then te σ2 H3 Q else R H3)
    (fin : ∀ H1, Evl.Ex H H1 → H1 D = some (.lst ((List.replicate xs.length true).map V.bl)) → Qd H1) :
    ∃ W : Nat → Nat → Hp → Prop, (∃ m, W 0 m (upd H D (.lst []))) ∧ ∀ i m H1, W i m H1 →
      ((Itt K a).stop i H1 ∧ Qd H1) ∨ ((Itt K a).go i H1 ∧ ∃ Nx : Hp → Prop, (∀ H', Nx H' → ∃ m', m' < m ∧ W (i + 1) m' H') ∧ ∀ x H', (Itt K a).yld i H1 x H' → g x (wipe σ vs) H' fun σ2 H2 => wipe σ2 vs = wipe σ vs ∧ tt σ2 H2 fun b H3 =>
        if b = true then te σ2 H3 fun y H4 => ∃ acc, H4 D = some (.lst acc) ∧ acc.length < sizeLine ∧ Nx (upd H4 D (.lst (acc ++ [y]))) else Nx H3) := by
  refine lc_tup (K := K) (a := a) (xs := xs) (fun i H1 => i ≤ xs.length ∧ Evl.Ex H H1 ∧ H1 D = some (.lst ((List.replicate i true).map V.bl))) ⟨Nat.zero_le _, Evl.Ex.new hD, upd_same⟩ (fun i H1 _ h => Evl.ex_t h.2.1 hx) ?_ (fun H1 h => fin H1 h.2.1 h.2.2)
  rintro i x H1 hi ⟨_, e1, d1⟩
  have hil : i < xs.length := (List.getElem?_eq_some_iff.mp hi).1
  refine turn i x H1 _ _ hi e1 fun H4 e4 => ⟨_, e4 _ _ d1, ?_, hil, (e1.trans e4).mut hD, ?_⟩
  · rw [List.length_map, List.length_replicate]
    exact small1000 (by omega)
  · rw [upd_same, List.replicate_succ', List.map_append]
    rfl
end
theorem lc_truesW {J : It} {n : Nat} {G : Hp → Prop} {Yx : Nat → V → Prop} {D : Addr} {g : TG} {tt : TT} {te : TE} {vs : List Nat} {σ : L2.St} {H : Hp} {Qd : Hp → Prop} (wk : Walk J n G (fun i H x H' => H' = H ∧ Yx i x)) (hG : ∀ H1, Evl.Ex H H1 → G H1) (hD : H D = none) (hl : n < 1000)
    (turn : ∀ (i : Nat) (x : V) (H1 : Hp) (Q : VK) (R : Hp → Prop), i < n → Yx i x → Evl.Ex H H1 → (∀ H4, Evl.Ex H1 H4 → Q (.bl true) H4) → g x (wipe σ vs) H1 fun σ2 H2 => wipe σ2 vs = wipe σ vs ∧ tt σ2 H2 fun b H3 => if b = true then te σ2 H3 Q else R H3)
    (fin : ∀ H1, Evl.Ex H H1 → H1 D = some (.lst ((List.replicate n true).map V.bl)) → Qd H1) :
    ∃ W : Nat → Nat → Hp → Prop, (∃ m, W 0 m (upd H D (.lst []))) ∧ ∀ i m H1, W i m H1 →
      (J.stop i H1 ∧ Qd H1) ∨ (J.go i H1 ∧ ∃ Nx : Hp → Prop, (∀ H', Nx H' → ∃ m', m' < m ∧ W (i + 1) m' H') ∧ ∀ x H', J.yld i H1 x H' → g x (wipe σ vs) H' fun σ2 H2 => wipe σ2 vs = wipe σ vs ∧ tt σ2 H2 fun b H3 =>
        if b = true then te σ2 H3 fun y H4 => ∃ acc, H4 D = some (.lst acc) ∧ acc.length < sizeLine ∧ Nx (upd H4 D (.lst (acc ++ [y]))) else Nx H3) := by
  refine lc_it wk (fun i H1 => i ≤ n ∧ Evl.Ex H H1 ∧ H1 D = some (.lst ((List.replicate i true).map V.bl))) ⟨Nat.zero_le _, Evl.Ex.new hD, upd_same⟩ (fun i H1 _ h => hG H1 h.2.1) ?_ (fun H1 h => fin H1 h.2.1 h.2.2)
  rintro i x H1 H1' hi ⟨_, e1, d1⟩ ⟨rfl, hy⟩
  refine turn i x H1' _ _ hi hy e1 fun H4 e4 => ⟨_, e4 _ _ d1, ?_, hi, (e1.trans e4).mut hD, ?_⟩
  · rw [List.length_map, List.length_replicate]
    exact small1000 (by omega)
  · rw [upd_same, List.replicate_succ', List.map_append]
    rfl
theorem all_trues (n : Nat) : (List.replicate n true).all id = true := by
  induction n with
  | zero => rfl
  | succ n ih => rw [List.replicate_succ, List.all_cons, ih]; rfl
theorem sign_le {a b : Nat} (h : a ≤ b) : (!decide (([b] : List Nat) < [a])) = true := by
  have n : ¬ (([b] : List Nat) < [a]) := by
    rw [List.cons_lt_cons_iff]
    rintro (q | ⟨_, q⟩)
    · omega
    · exact absurd q (List.lt_irrefl _)
  rw [decide_eq_false n]
  rfl
/-- a list or a tuple of these texts -/
def SqS (K : PySem.W.Frag) (H : Hp) (a : Addr) (zs : List Str) : Prop := SqL K H a (zs.map V.str) ∨ SqT K H a (zs.map V.str)
theorem SqS.ex {K : PySem.W.Frag} {H H' : Hp} {a : Addr} {zs : List Str} (h : SqS K H a zs) (e : Evl.Ex H H') : SqS K H' a zs := h.imp (Evl.ex_l e) (Evl.ex_t e)
theorem SqS.sq {K : PySem.W.Frag} {H : Hp} {a : Addr} {zs : List Str} (h : SqS K H a zs) : SqL K H a (zs.map V.str) ∨ SqT K H a (zs.map V.str) := h
theorem ty_sl {K : PySem.W.Frag} {H : Hp} {a : Addr} {xs : List V} (h : SqL K H a xs) : TyX K H (.ref a) (.type "list") := by
  rcases h with (q | ⟨o, q⟩) | ⟨o, its, n, e, c, _⟩
  · exact .base (.lst q)
  · exact .base (.frz q)
  · exact .kList e c
theorem ty_st {K : PySem.W.Frag} {H : Hp} {a : Addr} {xs : List V} (h : SqT K H a xs) : TyX K H (.ref a) (.type "tuple") := by
  rcases h with (q | ⟨o, q⟩) | ⟨o, its, n, e, c, _⟩
  · exact .base (.tup q)
  · exact .fTuple q
  · exact .kTuple e c
/-- an answer True, all else as it was -/
def spYes (pre : List V → Hp → Prop) (n : Nat) : Sp := fun vs H Q _ => vs.length = n ∧ pre vs H ∧ ∀ H', Evl.Ex H H' → Q (.bl true) H'
/-- a list or a tuple of names that is tracked -/
def SqH (H : Hp) (a : Addr) (zs : List Str) : Prop := H a = some (.lst (zs.map V.str)) ∨ H a = some (.tup (zs.map V.str))
theorem SqH.ex {H H' : Hp} {a : Addr} {zs : List Str} (h : SqH H a zs) (e : Evl.Ex H H') : SqH H' a zs := h.imp (e _ _) (e _ _)
theorem SqH.k {K : PySem.W.Frag} {H : Hp} {a : Addr} {zs : List Str} (h : SqH H a zs) : SqS K H a zs := h.imp Evl.sq_of Evl.st_of
end Rw
end T_P0

section T_N0
set_option Elab.async false
set_option linter.all false
set_option maxRecDepth 100000
set_option maxHeartbeats 1000000
namespace Rw
open PySem PySem.Spec L2 PyProof.Rows
/-! ### one ascending order -/
def TLe (a b : Str) : Prop := a.cps.toList ≤ b.cps.toList
theorem rising_pair : ∀ (r : List Str) (p : Str), risingS p r = true → (p :: r).Pairwise TLe
  | [], p, _ => List.pairwise_singleton _ _
  | x :: r, p, h => by
    have h' : (!ltCps x.cps.toList p.cps.toList && risingS x r) = true := h
    rw [Bool.and_eq_true] at h'
    have ih := rising_pair r x h'.2
    have px : TLe p x := by
      have z := h'.1
      rw [ltCps_eq] at z
      show ¬ (x.cps.toList < p.cps.toList)
      intro q
      rw [decide_eq_true q] at z
      cases z
    refine List.pairwise_cons.mpr ⟨fun y hy => ?_, ih⟩
    rcases List.mem_cons.mp hy with rfl | hy
    · exact px
    · exact List.le_trans px ((List.pairwise_cons.mp ih).1 y hy)
theorem sorted_pair {l : List Str} (h : sortedS l = true) : l.Pairwise TLe := by
  cases l with
  | nil => exact List.Pairwise.nil
  | cons x r => exact rising_pair r x h
theorem sorted_uniq {xs ys : List Str} (hx : sortedS xs = true) (hy : sortedS ys = true) (hp : xs.Perm ys) : xs = ys :=
  List.Perm.eq_of_pairwise (le := TLe) (fun a b _ _ h1 h2 => by
    have e : a.cps.toList = b.cps.toList := List.le_antisymm h1 h2
    rw [← SX.S_tl a, ← SX.S_tl b, e]) (sorted_pair hx) (sorted_pair hy) hp
/-! ### nets -/
/-- a table in the order of these names -/
def canon (dots : List Str) (tb : List (Str × V)) : List (Str × V) := dots.map fun z => (z, (valV (tkv tb) (Sum.inr z)).getD .non)
theorem canon_keys (dots : List Str) (tb : List (Str × V)) : (canon dots tb).map (·.1) = dots := by
  unfold canon
  rw [List.map_map]
  exact List.map_id _
theorem canon_ok {dots : List Str} {e : Str} {tb : List (Str × V)} (h : TabOk dots e tb) : TabOk dots e (canon dots tb) := by
  refine ⟨by rw [canon_keys], fun q hq => ?_⟩
  unfold canon at hq
  obtain ⟨z, hz, rfl⟩ := List.mem_map.mp hq
  obtain ⟨v, hv, hm⟩ := tkv_some (tb := tb) (z := z) (h.ks.mem_iff.mpr hz)
  show PlaceOk dots e z ((valV (tkv tb) (Sum.inr z)).getD .non)
  rw [hv]
  exact h.ps _ hm
theorem canon_get {dots : List Str} {tb : List (Str × V)} {z : Str} (hz : z ∈ dots) : valV (tkv (canon dots tb)) (Sum.inr z) = some ((valV (tkv tb) (Sum.inr z)).getD .non) := by
  induction dots with
  | nil => cases hz
  | cons y r ih =>
    show valV ((Sum.inr y, (valV (tkv tb) (Sum.inr y)).getD .non) :: tkv (canon r tb)) (Sum.inr z) = _
    by_cases e : y = z
    · subst e
      exact valV_pos (p := ((Sum.inr y : Key), (valV (tkv tb) (Sum.inr y)).getD .non)) rfl
    · rw [valV_neg (fun w => e (Sum.inr.inj w))]
      exact ih ((List.mem_cons.mp hz).resolve_left fun w => e w.symm)
/-- the rows of a model, told by functions -/
def RowsAt (H : Hp) (ends dots : List Str) (rows : List (Str × V)) (o n : Str → List (Str × V)) : Prop :=
  ∀ e ∈ ends, ∃ p po pn : Addr, valV (tkv rows) (Sum.inr e) = some (.ref p) ∧ PairAt H dots e p po pn (o e) (n e)
theorem RowsAt.ex {H H' : Hp} {ends dots : List Str} {rows : List (Str × V)} {o n : Str → List (Str × V)} (h : RowsAt H ends dots rows o n) (x : Evl.Ex H H') : RowsAt H' ends dots rows o n := fun e he => by
  obtain ⟨p, po, pn, h1, h2⟩ := h e he
  exact ⟨p, po, pn, h1, h2.ex x⟩
theorem RowsAt.of {H : Hp} {ends dots : List Str} {rows : List (Str × V)} (h : RowsOk H dots rows) (hk : rows.map (·.1) = ends) : ∃ o n : Str → List (Str × V), RowsAt H ends dots rows o n := by
  have all : ∀ e : Str, ∃ t : List (Str × V) × List (Str × V), e ∈ ends → ∃ p po pn : Addr, valV (tkv rows) (Sum.inr e) = some (.ref p) ∧ PairAt H dots e p po pn t.1 t.2 := fun e => by
    by_cases he : e ∈ ends
    · obtain ⟨v, hv1, hv2⟩ := tkv_some (tb := rows) (z := e) (by rw [hk]; exact he)
      obtain ⟨p, po, pn, t1, t2, e1, pa⟩ := h _ hv2
      have e1' : v = .ref p := e1
      subst e1'
      exact ⟨(t1, t2), fun _ => ⟨p, po, pn, hv1, pa⟩⟩
    · exact ⟨([], []), fun q => absurd q he⟩
  refine ⟨fun e => (Classical.choose (all e)).1, fun e => (Classical.choose (all e)).2, fun e he => Classical.choose_spec (all e) he⟩
def nflds (T N S P : Addr) : List (Str × V) := [("_tables", .ref T), ("_nodes", .ref N), ("_sources", .ref S), ("_posts", .ref P)]
theorem nflds_tables (T N S P : Addr) : (nflds T N S P).lookup ("_tables" : Str) = some (.ref T) := by kernel_rfl
theorem nflds_nodes (T N S P : Addr) : (nflds T N S P).lookup ("_nodes" : Str) = some (.ref N) := by kernel_rfl
theorem nflds_sources (T N S P : Addr) : (nflds T N S P).lookup ("_sources" : Str) = some (.ref S) := by kernel_rfl
theorem nflds_posts (T N S P : Addr) : (nflds T N S P).lookup ("_posts" : Str) = some (.ref P) := by kernel_rfl
/-- a net stands at m -/
structure NetAt (C : Addr) (H : Hp) (m : Addr) (ends dots ss ps : List Str) (o n : Str → List (Str × V)) : Prop where
  ex : ∃ (dx T N S P : Addr) (rows : List (Str × V)), H m = some (.ins C dx (nflds T N S P)) ∧ H T = some (.dK (tkv rows)) ∧ H N = some (.tup (dots.map V.str)) ∧ H S = some (.tup (ss.map V.str)) ∧ H P = some (.tup (ps.map V.str)) ∧
    rows.map (·.1) = ends ∧ RowsAt H ends dots rows (fun e => canon dots (o e)) (fun e => canon dots (n e))
theorem NetAt.to {C : Addr} {H H' : Hp} {m : Addr} {ends dots ss ps : List Str} {o n : Str → List (Str × V)} (h : NetAt C H m ends dots ss ps o n) (x : Evl.Ex H H') : NetAt C H' m ends dots ss ps o n := by
  obtain ⟨dx, T, N, S, P, rows, h1, h2, h3, h4, h5, h6, h7⟩ := h
  exact ⟨dx, T, N, S, P, rows, x _ _ h1, x _ _ h2, x _ _ h3, x _ _ h4, x _ _ h5, h6, h7.ex x⟩
theorem ex_none {H H' : Hp} {p : Addr} (x : Evl.Ex H H') (h : H' p = none) : H p = none := by
  cases q : H p with
  | none => rfl
  | some u => rw [x _ _ q] at h; cases h
/-- what H' has behind H -/
def rest (H H' : Hp) : Hp := fun a => match H a with | none => H' a | some _ => none
theorem rest_of {H H' : Hp} {a : Addr} {o : HO} (h0 : H a = none) (h : H' a = some o) : rest H H' a = some o := by
  unfold rest
  rw [h0]
  exact h
theorem rest_ex (H H' : Hp) : Evl.Ex (rest H H') H' := fun a o h => by
  unfold rest at h
  cases e : H a with
  | none => rw [e] at h; exact h
  | some _ => rw [e] at h; cases h
theorem rest_off {d g c : Addr} {H H' : Hp} (D : DrawAt H d g c) : Evl.Ex (rest H H') (off d g H') := fun a o h => by
  have h' := rest_ex H H' a o h
  refine off_of h' (fun z => ?_) (fun z => ?_)
  · subst z
    obtain ⟨r, t, hd⟩ := D.ex
    unfold rest at h
    rw [hd] at h
    cases h
  · subst z
    obtain ⟨gs, hg⟩ := D.gl
    unfold rest at h
    rw [hg] at h
    cases h
theorem rest_mono {H H1 H2 : Hp} (e : Evl.Ex H1 H2) : Evl.Ex (rest H H1) (rest H H2) := fun a o h => by
  unfold rest at h ⊢
  cases q : H a with
  | none => rw [q] at h; exact e a o h
  | some _ => rw [q] at h; cases h
theorem nf1 (T : Addr) : putF "_tables" (.ref T) [] = ([("_tables", .ref T)] : List (Str × V)) := rfl
theorem nf2 (T N : Addr) : putF "_nodes" (.ref N) [("_tables", .ref T)] = ([("_tables", .ref T), ("_nodes", .ref N)] : List (Str × V)) := by kernel_rfl
theorem nf3 (T N S : Addr) : putF "_sources" (.ref S) [("_tables", .ref T), ("_nodes", .ref N)] = ([("_tables", .ref T), ("_nodes", .ref N), ("_sources", .ref S)] : List (Str × V)) := by kernel_rfl
theorem nf4 (T N S P : Addr) : putF "_posts" (.ref P) [("_tables", .ref T), ("_nodes", .ref N), ("_sources", .ref S)] = nflds T N S P := by kernel_rfl
theorem nf1_get (T : Addr) : ([("_tables", .ref T)] : List (Str × V)).lookup ("_tables" : Str) = some (.ref T) := by kernel_rfl
theorem canon_snoc (l : List Str) (z : Str) (tb : List (Str × V)) : canon (l ++ [z]) tb = canon l tb ++ [(z, (valV (tkv tb) (Sum.inr z)).getD .non)] := by
  unfold canon
  rw [List.map_append]
  rfl
/-- {node: table[node] for node in nodes}, the table in slot i -/
theorem dc_canon {K : PySem.W.Frag} {N po D : Addr} {dots : List Str} {e : Str} {tb : List (Str × V)} {σ : L2.St} {i j : Nat} {H : Hp} {Qd : Hp → Prop} (hN : H N = some (.tup (dots.map V.str))) (hpo : H po = some (.dK (tkv tb))) (ok : TabOk dots e tb) (nd : dots.Nodup) (few : dots.length ≤ 100) (hD : H D = none)
    (slot : ∀ x : V, ((wipe σ [j]).set j (some x))[i]? = some (some (.ref po))) (own : ∀ x : V, ((wipe σ [j]).set j (some x))[j]? = some (some x)) (wiped : ∀ x : V, wipe ((wipe σ [j]).set j (some x)) [j] = wipe σ [j]) (fin : Qd (upd H D (.dK (tkv (canon dots tb))))) :
    ∃ W : Nat → Nat → Hp → Prop, (∃ m, W 0 m (upd H D (.dK []))) ∧ ∀ k m H1, W k m H1 →
      ((Itt K N).stop k H1 ∧ Qd H1) ∨ ((Itt K N).go k H1 ∧ ∃ Nx : Hp → Prop, (∀ H', Nx H' → ∃ m', m' < m ∧ W (k + 1) m' H') ∧ ∀ x H', (Itt K N).yld k H1 x H' → gName j x (wipe σ [j]) H' fun σ2 H2 => wipe σ2 [j] = wipe σ [j] ∧ tYes σ2 H2 fun b H3 =>
        if b = true then tVar j σ2 H3 fun y H4 => tDGet (tVar i) (tVar j) σ2 H4 fun z H5 => ∃ kvs k, y = kV k ∧ H5 D = some (.dK kvs) ∧ kvs.length < sizeLine ∧ Nx (upd H5 D (.dK (putK kvs k z))) else Nx H3) := by
  refine dc_tup (K := K) (a := N) (xs := dots.map V.str) (fun k H' => H' = upd H D (.dK (tkv (canon (dots.take k) tb)))) rfl (fun k H' _ h => by rw [h]; exact Evl.st_of (Evl.Ex.new hD _ _ hN)) ?_ ?_
  · rintro k x H1 hk rfl
    obtain ⟨z, hz, rfl⟩ := str_at hk
    have hkl : k < dots.length := (List.getElem?_eq_some_iff.mp hz).1
    have et : dots.take (k + 1) = dots.take k ++ [z] := by rw [List.take_add_one, hz]; rfl
    have zn : z ∉ dots.take k := fun hm => by
      have h1 : (dots.take (k + 1)).Nodup := nd.sublist (List.take_sublist _ _)
      rw [et] at h1
      exact (List.nodup_append.mp h1).2.2 z hm z (List.mem_singleton.mpr rfl) rfl
    obtain ⟨v, hv, _⟩ := tkv_some (tb := tb) (z := z) (ok.ks.mem_iff.mpr (List.mem_of_getElem? hz))
    refine ⟨wiped _, ?_⟩
    refine yes_if ?_
    have gt : DGet (upd H D (.dK (tkv (canon (dots.take k) tb)))) po (.str z) (some v) := by
      have q := DGet.k (k := Sum.inr z) (Evl.Ex.new (o := .dK (tkv (canon (dots.take k) tb))) hD _ _ hpo)
      rw [hv] at q
      exact q
    refine ⟨.str z, own _, .ref po, slot _, .str z, own _, po, v, rfl, gt, tkv (canon (dots.take k) tb), Sum.inr z, rfl, upd_same, ?_, ?_⟩
    · rw [tkv_len]
      unfold canon
      rw [List.length_map, List.length_take]
      exact small1000 (by omega)
    · rw [upd_upd, tkv_new (by rw [canon_keys]; exact zn), et, canon_snoc, hv]
      rfl
  · rintro H1 rfl
    rw [List.length_map, List.take_length]
    exact fin
/-- Net.__init__ of a model's parts -/
def spInit (C : Addr) : Sp := fun vs H Q _ => ∃ (Hb : Hp) (m dx t s p : Addr) (ends dots ss ps : List Str) (rows : List (Str × V)) (o n : Str → List (Str × V)), vs = [.ref m, .ref t, .ref s, .ref p] ∧ Hb m = none ∧ Evl.Ex Hb H ∧ H m = some (.ins C dx []) ∧
  Hb t = some (.dK (tkv rows)) ∧ (rows.map (·.1)).Perm ends ∧ RowsOk Hb dots rows ∧ RowsAt Hb ends dots rows o n ∧ SqH Hb s ss ∧ SqH Hb p ps ∧ ModelOk ends dots ss ps ∧
  ∀ H', Evl.Ex Hb H' → (∀ Hz, Evl.Ex (rest Hb H') Hz → (Hb p = some (.tup (ps.map V.str)) → Hz p = some (.tup (ps.map V.str))) → NetAt C Hz m ends dots ss ps o n) → Q .non H'
end Rw
end T_N0

section T_V1
set_option Elab.async false
set_option linter.all false
set_option maxRecDepth 100000
set_option maxHeartbeats 2000000
namespace Rw
open PySem PySem.Spec PySem.W L2 PyProof.Rows
/-! ### tuple(d) of a dict: its keys -/
section
variable {prog : Program} {w : World} {A : Around} {EX : Value → Shared → Prop} {s : Shared} {r d : Addr} {T : String} {n : Nat} {Pk : Nat → Value → Prop} {Fine : Heap → Prop}
theorem collect_src {Q : List Value → Shared → Prop} (src : KdlSrc prog w T r d n Pk Fine) (calm : A.handled = none) (fine : Fine s.heap) (few : n ≤ sizeLine)
    (wish : ∀ (h' : Heap) (tk : Nat) (acc : Array Value), (∀ b o, s.heap.get? b = some o → h'.get? b = some o) → ItemsOf Pk acc n → Q acc.toList { s with heap := h', toks := tk }) :
    wpAny (model prog w) A (collect (.ref r)) Q EX s := by
  unfold collect
  refine wpAny_bind (wpAny_runValue (codeAny_builtin PySem.F.entry_proto_collect ?_))
  rw [Around.under_plainId PySem.F.plain_proto_collect _]
  show wpAny _ A.in1 (newList [] >>= fun l => again (.builtin "list.__iadd__" ⟨[l, .ref r], []⟩)) _ _ s
  refine wpAny_bind (wpAny_newObj_type ?_)
  refine wpAny_pure ⟨plainId_quiet PySem.F.plain_list_iadd _, codeAny_builtin PySem.F.entry_list_iadd ?_⟩
  rw [Around.under_plainId PySem.F.plain_list_iadd _]
  show wpAny _ A.in1 (Builtin.List.listExtendWith (.ref s.heap.objs.size) (.ref r) (.ref s.heap.objs.size)) _ _ _
  have made : (s.heap.push { cls := .type "list", data := .seq ([] : List Value).toArray }).get? s.heap.objs.size = some { cls := .type "list", data := .seq #[] 0 } := Heap.get?_push_size _ rfl
  have below := src.there _ fine
  refine wpAny_mono (kdl_extend (A := A) (R := fun rr s' => rr = .ok (.ret (.ref s.heap.objs.size)) ∧ ∃ (h' : Heap) (tk : Nat) (acc : Array Value) (c' : Nat), s' = { s with heap := h', toks := tk } ∧
      (∀ b o, s.heap.get? b = some o → h'.get? b = some o) ∧ h'.get? s.heap.objs.size = some { cls := .type "list", dict := none, data := .seq acc c', slots := #[] } ∧ ItemsOf Pk acc n)
    (s := { s with heap := s.heap.push { cls := .type "list", data := .seq ([] : List Value).toArray } }) src calm (src.keep _ _ fine fun b _ o e => Heap.get?_push_of_some _ e) s.heap.objs.size (Nat.ne_of_gt below.1) (Nat.ne_of_gt below.2) _ 0 made
    (fun h' tk acc c' keep at_l got => ⟨rfl, h', tk, acc, c', rfl, fun b o q => keep b o (Nat.ne_of_lt (Heap.lt_size q)) (Heap.get?_push_of_some _ q), at_l, got⟩) few) (fun fin s' got => ?_) (fun e s' got => ?_)
  · cases fin with
    | done f =>
      obtain ⟨e, h', tk, acc, c', rfl, keep, at_l, items⟩ := got
      cases e
      show wpAny _ A (load s.heap.objs.size >>= _) _ _ _
      exact wpAny_bind (wpAny_load at_l (wpAny_pure (wish h' tk acc keep items)))
    | again c' =>
      refine ⟨got.1, codeAny_mono got.2 fun rr s'' res => ?_⟩
      obtain ⟨rfl, h', tk, acc, c', rfl, keep, at_l, items⟩ := res
      show wpAny _ A (load s.heap.objs.size >>= _) _ _ _
      exact wpAny_bind (wpAny_load at_l (wpAny_pure (wish h' tk acc keep items)))
  · exact absurd got.1 (by simp)
theorem tuple_new_src {Q₁ : Value → Shared → Prop} (src : KdlSrc prog w T r d n Pk Fine) (calm : A.handled = none) (fine : Fine s.heap) (few : n ≤ sizeLine)
    (wish : ∀ (h' : Heap) (tk : Nat) (acc : Array Value), (∀ b o, s.heap.get? b = some o → h'.get? b = some o) → ItemsOf Pk acc n →
      Q₁ (.ref h'.objs.size) { s with heap := h'.push { cls := .type "tuple", data := .seq acc }, toks := tk }) :
    codeAny (model prog w) A (.call (.builtin "tuple.__new__") ⟨[.type "tuple", .ref r], []⟩) (wants Q₁ EX) s := by
  refine codeAny_of_tree ?_
  show wpAny _ A.in1 (do checkBuiltinCall "tuple.__new__" ⟨[.type "tuple", .ref r], []⟩; again (.builtin "tuple.__new__" ⟨[.type "tuple", .ref r], []⟩)) _ _ s
  refine wpAny_bind (wpAny_of_eq (PySem.F.newCall_tuple_1 _) (wpAny_pure ⟨plainId_quiet PySem.F.plain_tuple_new _, codeAny_builtin PySem.F.entry_tuple_new ?_⟩))
  rw [Around.under_plainId PySem.F.plain_tuple_new _]
  have self_sub := sub_tuple_self
  have no_init := init_tuple_lookup
  have here := madeHere_tuple
  have ty_is := src.type s fine
  have no_tup := src.notTuple
  have calm1 : A.in1.handled = none := calm
  wp_walk using wpAny_typeOf ty_is, collect_src (A := A.in1) src calm1 fine few
  intro h' tk acc keep items
  show wpAny _ _ (Builtin.Tuple.tupleExact acc.toList.toArray >>= fun v => ret v) _ _ _
  have back : acc.toList.toArray = acc := by simp
  rw [back]
  unfold Builtin.Tuple.tupleExact
  refine wpAny_bind (wpAny_newObj_type ?_ (by show acc.size ≤ sizeLine; rw [items.1]; exact few))
  exact wpAny_pure (wish h' tk acc keep items)
theorem tuple_src {Q : Value → Shared → Prop} (src : KdlSrc prog w T r d n Pk Fine) (calm : A.handled = none) (fine : Fine s.heap) (few : n ≤ sizeLine)
    (wish : ∀ (h' : Heap) (tk : Nat) (acc : Array Value), (∀ b o, s.heap.get? b = some o → h'.get? b = some o) → ItemsOf Pk acc n →
      Q (.ref h'.objs.size) { s with heap := h'.push { cls := .type "tuple", data := .seq acc }, toks := tk }) :
    wpAny (model prog w) A (call (.type "tuple") [.ref r]) Q EX s := by
  refine callType_codes (Q₁ := fun obj s₁ => s₁.TypeIs obj "tuple" ∧ Q obj s₁) PySem.F.called_tuple (PySem.F.typeCall_tuple_1 _) PySem.F.entry_object_init
    (tuple_new_src (A := A.in1) src calm fine few fun h' tk acc keep items => ⟨⟨_, Heap.get?_push_size _ rfl, rfl⟩, wish h' tk acc keep items⟩) fun obj s₁ got => ?_
  exact ⟨got.1, PySem.F.args_object_init_2 obj _, object_init_meets PySem.F.called_tuple.init.lookup PySem.F.called_tuple.made (by decide) prog w A.in1 _ s₁ ⟨got.1, rfl, got.2⟩⟩
end
/-- tuple(d) -/
theorem call_tupleD {X : Cx} (calm : X.calm = true) : CallR X (.type "tuple") (fun xs H Q => ∃ (a : Addr) (kvs : List (Key × V)), xs = [.ref a] ∧ Rd H a (.dK kvs) ∧ ∀ p, H p = none → Q (.ref p) (upd H p (.tup (kvs.map fun kv => kV kv.1)))) := by
  intro pins s σ H xs us Q I rel h
  obtain ⟨a, kvs, rfl, hd, q⟩ := h
  obtain ⟨u, rfl, ru⟩ := vals1 rel
  cases ru
  obtain ⟨few, low, vs, pairs, dd⟩ := dk_rd I.hok hd
  obtain ⟨ep, at_d⟩ := dd.dictAt
  have same : (kvs.map fun kv => kV kv.1) = vs.map fun p => kV p.1 := by
    have e := congrArg (List.map kV) pairs.keys
    rw [List.map_map, List.map_map] at e
    exact e
  have few' : vs.length ≤ sizeLine := by rw [← pairs.length]; exact few
  refine tuple_src (kdl_dict (knd := mixKind X.prog X.w) (kvs := vs) (ep := ep) low) (I.ok.hd calm) at_d few' fun h' tk acc keep items => ?_
  have got : Vals (vs.map fun p => kV p.1) acc.toList := keys_at (by rw [Array.length_toList]; exact items.1) fun j v e => items.2 j v (by rw [← Array.getElem?_toList]; exact e)
  have I1 : Inv X pins σ H { s with heap := h', toks := s.toks } := I.kept (t' := s.toks) keep
  have fresh : H h'.objs.size = none := I1.hok.fresh (Nat.le_refl _)
  refine ⟨.ref h'.objs.size, upd H h'.objs.size (.tup (kvs.map fun kv => kV kv.1)), I1.laid (t' := tk) (fun b o e => Heap.get?_push_of_some _ e) (Nat.le_refl _) ?_, rfl, q _ fresh⟩
  exact ⟨by rw [List.length_map]; exact few, acc.toList, by rw [same]; exact got, by simpa using IsTup.new _ _⟩
end Rw
end T_V1

section T_N2
set_option Elab.async false
set_option linter.all false
set_option maxRecDepth 100000
set_option maxHeartbeats 4000000
namespace Rw
open PySem L2 PyProof.Rows
/-- what the class Net is, whole -/
structure NetTxt (K : PySem.W.Frag) (C : Addr) : Prop where
  cl : Cls K C
  nT : NoAttr K C "_tables"
  nN : NoAttr K C "_nodes"
  nS : NoAttr K C "_sources"
  nP : NoAttr K C "_posts"
/-- a def by its name -/
structure Cal (P : Program) (w : World) (K : PySem.W.Frag) (mg : Str → Option Value) (base : Heap) (k : Nat) (x : Str) (ps : List Str) (sp : Sp) : Prop where
  ex : ∃ f fd, FnOk P w K mg base CX0 k f fd ps sp ∧ PySem.W.keepIn K (.ref f) = true ∧ Binds K fd ps [] ∧ mg x = some (.ref f)
/-- a property of the class -/
structure Prp (P : Program) (w : World) (K : PySem.W.Frag) (mg : Str → Option Value) (base : Heap) (C : Addr) (k : Nat) (x : Str) (sp : Sp) : Prop where
  ex : ∃ p g fd, PropOf K C x p g ∧ FnOk P w K mg base CX0 k g fd ["self"] sp ∧ Binds K fd ["self"] []
section
variable {P : Program} {w : World} {K : PySem.W.Frag} {mg : Str → Option Value} {base : Heap}
def spGoals (C : Addr) : Sp := fun vs H Q _ => ∃ (m : Addr) (ends dots ss ps : List Str) (o n : Str → List (Str × V)), vs = [.ref m] ∧ NetAt C H m ends dots ss ps o n ∧ ends.length ≤ 100 ∧ ∀ p, H p = none → Q (.ref p) (upd H p (.tup (ends.map V.str)))
def spDots (C : Addr) : Sp := fun vs H Q _ => ∃ (m : Addr) (ends dots ss ps : List Str) (o n : Str → List (Str × V)), vs = [.ref m] ∧ NetAt C H m ends dots ss ps o n ∧ ∀ p, H p = some (.tup (dots.map V.str)) → Q (.ref p) H
theorem sc_goals : FnScope ["self"] ["self"] (defScope c_Net_goals) := ⟨rfl, rfl, rfl, by decide +kernel, rfl, by decide +kernel, by decide +kernel⟩
theorem sc_dots : FnScope ["self"] ["self"] (defScope c_Net_nodes) := ⟨rfl, rfl, rfl, by decide +kernel, rfl, by decide +kernel, by decide +kernel⟩
theorem ok_goals {f C : Addr} {fd : FuncData} (F : Fun K "goals" "Net.goals" c_Net_goals f fd) (T : NetTxt K C) (mTup : mg "tuple" = none) : FnOk P w K mg base CX0 1 f fd ["self"] (spGoals C) := by
  refine F.ok sc_goals (fun vs H Q E h => ?_) (fun cdv A outer s H vs Q E hr h => ?_)
  · obtain ⟨m, ends, dots, ss, ps, o, n, rfl, _⟩ := h
    rfl
  · obtain ⟨m, ends, dots, ss, ps, o, n, rfl, N, few, k⟩ := h
    refine ⟨_, pss_one (ps_ret (pe_callTy (call_tupleD rfl) (by rfl) mTup (by decide +kernel) (pa_cons (pe_fld (pv 0) rfl) pa_nil))), ?_⟩
    obtain ⟨dx, T', N', S, Po, rows, h1, h2, h3, h4, h5, h6, h7⟩ := N.ex
    refine ⟨.ref m, rfl, m, C, dx, _, .ref T', rfl, h1, T.cl, T.nT, nflds_tables _ _ _ _, T', _, rfl, .inl h2, fun p hp => ?_⟩
    rw [tkv_keysV, h6]
    exact k p hp
theorem ok_dots {f C : Addr} {fd : FuncData} (F : Fun K "nodes" "Net.nodes" c_Net_nodes f fd) (T : NetTxt K C) : FnOk P w K mg base CX0 1 f fd ["self"] (spDots C) := by
  refine F.ok sc_dots (fun vs H Q E h => ?_) (fun cdv A outer s H vs Q E hr h => ?_)
  · obtain ⟨m, ends, dots, ss, ps, o, n, rfl, _⟩ := h
    rfl
  · obtain ⟨m, ends, dots, ss, ps, o, n, rfl, N, k⟩ := h
    refine ⟨_, pss_one (ps_ret (pe_fld (pv 0) rfl)), ?_⟩
    obtain ⟨dx, T', N', S, Po, rows, h1, h2, h3, h4, h5, h6, h7⟩ := N.ex
    exact ⟨.ref m, rfl, m, C, dx, _, .ref N', rfl, h1, T.cl, T.nN, nflds_nodes _ _ _ _, k N' h3⟩
/-! ### the checks -/
def spCheckGoal (C : Addr) : Sp := fun vs H Q _ => ∃ (m : Addr) (e : Str) (ends dots ss ps : List Str) (o n : Str → List (Str × V)), vs = [.ref m, .str e] ∧ NetAt C H m ends dots ss ps o n ∧ ends.length ≤ 100 ∧ e ∈ ends ∧ ∀ H', Evl.Ex H H' → Q .non H'
def spCheckDot (C : Addr) : Sp := fun vs H Q _ => ∃ (m : Addr) (z : Str) (ends dots ss ps : List Str) (o n : Str → List (Str × V)), vs = [.ref m, .str z] ∧ NetAt C H m ends dots ss ps o n ∧ z ∈ dots ∧ Q .non H
theorem sc_check_goal : FnScope ["net", "goal"] ["net", "goal"] (defScope p_check_goal) := ⟨rfl, rfl, rfl, by decide +kernel, rfl, by decide +kernel, by decide +kernel⟩
theorem sc_check_node : FnScope ["net", "node"] ["net", "node"] (defScope p_check_node) := ⟨rfl, rfl, rfl, by decide +kernel, rfl, by decide +kernel, by decide +kernel⟩
theorem ok_check_goal {f C : Addr} {fd : FuncData} (F : Fun K "check_goal" "check_goal" p_check_goal f fd) (T : NetTxt K C) (Pg : Prp P w K mg base C 1 "goals" (spGoals C)) : FnOk P w K mg base CX0 3 f fd ["net", "goal"] (spCheckGoal C) := by
  obtain ⟨p1, g1, fd1, at1, F1, b1⟩ := Pg.ex
  refine F.ok sc_check_goal (fun vs H Q E h => ?_) (fun cdv A outer s H vs Q E hr h => ?_)
  · obtain ⟨m, e, ends, dots, ss, ps, o, n, rfl, _⟩ := h
    rfl
  · obtain ⟨m, e, ends, dots, ss, ps, o, n, rfl, N, few, he, k⟩ := h
    refine ⟨_, pss_one (ps_if (pt_cmpR op_notIn_seq (pv 1) (pe_prop (pv 0) T.cl at1 F1 hr b1 .nil pass0 rfl) rfl) (pss_one ps_never) pss_nil), ?_⟩
    have N2 := N
    obtain ⟨dx, T', N', S, Po, rows, h1, h2, h3, h4, h5, h6, h7⟩ := N.ex
    refine ⟨.str e, rfl, .ref m, rfl, m, dx, _, rfl, h1, m, ends, dots, ss, ps, o, n, rfl, N2, few, fun p hp => ⟨p, ends.map V.str, rfl, .inr (Evl.st_of upd_same), rfl, flat_strs ends, ?_⟩⟩
    rw [inV_str, decide_eq_true he]
    exact ⟨false, rfl, k _ (Evl.Ex.new hp)⟩
theorem ok_check_node {f C : Addr} {fd : FuncData} (F : Fun K "check_node" "check_node" p_check_node f fd) (T : NetTxt K C) (Pg : Prp P w K mg base C 1 "nodes" (spDots C)) : FnOk P w K mg base CX0 3 f fd ["net", "node"] (spCheckDot C) := by
  obtain ⟨p1, g1, fd1, at1, F1, b1⟩ := Pg.ex
  refine F.ok sc_check_node (fun vs H Q E h => ?_) (fun cdv A outer s H vs Q E hr h => ?_)
  · obtain ⟨m, z, ends, dots, ss, ps, o, n, rfl, _⟩ := h
    rfl
  · obtain ⟨m, z, ends, dots, ss, ps, o, n, rfl, N, hz, k⟩ := h
    refine ⟨_, pss_one (ps_if (pt_cmpR op_notIn_seq (pv 1) (pe_prop (pv 0) T.cl at1 F1 hr b1 .nil pass0 rfl) rfl) (pss_one ps_never) pss_nil), ?_⟩
    have N2 := N
    obtain ⟨dx, T', N', S, Po, rows, h1, h2, h3, h4, h5, h6, h7⟩ := N.ex
    refine ⟨.str z, rfl, .ref m, rfl, m, dx, _, rfl, h1, m, ends, dots, ss, ps, o, n, rfl, N2, fun p hp => ⟨p, dots.map V.str, rfl, .inr (Evl.st_of hp), rfl, flat_strs dots, ?_⟩⟩
    rw [inV_str, decide_eq_true hz]
    exact ⟨false, rfl, k⟩
/-- what isinstance asks of the class -/
structure NetIsi (K : PySem.W.Frag) (C : Addr) : Prop where
  ha : PySem.W.findIn K (.ref C) "__class__" = some (some (.builtin "object.__class__"))
  hn : PySem.W.specialIn K (.builtin "object.__class__") "__get__" = some (some (.builtin "getset_descriptor.__get__"))
  hk : PySem.W.takesIn K (.builtin "object.__class__") = some true
  hm : PySem.W.mroIn K C (.type "object") = some true
  me : PySem.W.kitOne K (.ref C) (.ref C) = some true
def spCheckNet (C : Addr) : Sp := fun vs H Q _ => ∃ (m : Addr) (ends dots ss ps : List Str) (o n : Str → List (Str × V)), vs = [.ref m] ∧ NetAt C H m ends dots ss ps o n ∧ Q .non H
theorem sc_check_net : FnScope ["net"] ["net"] (defScope p_check_net) := ⟨rfl, rfl, rfl, by decide +kernel, rfl, by decide +kernel, by decide +kernel⟩
theorem ok_check_net {f C : Addr} {fd : FuncData} (F : Fun K "check_net" "check_net" p_check_net f fd) (T : NetTxt K C) (Is : NetIsi K C) (mIsi : mg "isinstance" = none) (mNet : mg "Net" = some (.ref C)) : FnOk P w K mg base CX0 1 f fd ["net"] (spCheckNet C) := by
  refine F.ok sc_check_net (fun vs H Q E h => ?_) (fun cdv A outer s H vs Q E hr h => ?_)
  · obtain ⟨m, ends, dots, ss, ps, o, n, rfl, _⟩ := h
    rfl
  · obtain ⟨m, ends, dots, ss, ps, o, n, rfl, N, k⟩ := h
    refine ⟨_, pss_one (ps_if (pt_not (pt_val (pe_callB call_isi (by rfl) mIsi (by decide +kernel) (pa_cons (pv 0) (pa_cons (pe_glob (v := .ref C) (by rfl) mNet rfl) pa_nil))))) (pss_one ps_never) pss_nil), ?_⟩
    obtain ⟨dx, T', N', S, Po, rows, h1, h2, h3, h4, h5, h6, h7⟩ := N.ex
    exact ⟨.ref m, rfl, .ref m, .ref C, _, _, true, rfl, .own C, .base (.ins h1 T.cl Is.ha Is.hn Is.hk Is.hm), Is.me, true, rfl, k⟩
end
end Rw
end T_N2

section T_P1
set_option Elab.async false
set_option linter.all false
set_option maxRecDepth 100000
set_option maxHeartbeats 4000000
namespace Rw
open PySem L2 PyProof.Rows
section
variable {P : Program} {w : World} {K : PySem.W.Frag} {mg : Str → Option Value} {base : Heap}
/-! ### is_list -/
def spIsList (K : PySem.W.Frag) : Sp := fun vs H Q _ => ∃ (a : Addr) (xs : List V), vs = [.ref a] ∧ (SqL K H a xs ∨ SqT K H a xs) ∧ ∀ H', Evl.Ex H H' → Q (.bl true) H'
theorem sc_is_list : FnScope ["value"] ["value"] (defScope p_is_list) := ⟨rfl, rfl, rfl, by decide +kernel, rfl, by decide +kernel, by decide +kernel⟩
theorem ok_is_list {f : Addr} {fd : FuncData} (F : Fun K "is_list" "is_list" p_is_list f fd) (mIsi : mg "isinstance" = none) (mList : mg "list" = none) (mTup : mg "tuple" = none) : FnOk P w K mg base CX0 1 f fd ["value"] (spIsList K) := by
  refine F.ok sc_is_list (fun vs H Q E h => ?_) (fun cdv A outer s H vs Q E hr h => ?_)
  · obtain ⟨a, zs, rfl, _⟩ := h
    rfl
  · obtain ⟨a, zs, rfl, hS, k⟩ := h
    refine ⟨_, pss_one (ps_ret (pe_callB call_isiT (by rfl) mIsi (by decide +kernel) (pa_cons (pv 0) (pa_cons (pe_tup (pa_cons (pe_bltn (v := .ty "list") (by rfl) mList (by decide +kernel) rfl) (pa_cons (pe_bltn (v := .ty "tuple") (by rfl) mTup (by decide +kernel) rfl) pa_nil))) pa_nil)))), ?_⟩
    refine ⟨.ref a, rfl, by show 2 ≤ sizeLine; decide, fun t ht => ?_⟩
    have e := Evl.Ex.new (o := .tup [.ty "list", .ty "tuple"]) ht
    rcases hS with hS | hS
    · exact ⟨.ref a, t, _, .type "list", _, true, rfl, upd_same, .cons (.ty _) (.cons (.ty _) .nil), ty_sl (Evl.ex_l e hS), kitAny_cons (b := true) (kit_ty (by decide +kernel)) (fun z => by cases z) (fun _ => rfl), k _ e⟩
    · exact ⟨.ref a, t, _, .type "tuple", _, true, rfl, upd_same, .cons (.ty _) (.cons (.ty _) .nil), ty_st (Evl.ex_t e hS), kitAny_cons (b := false) (kit_ty (by decide +kernel)) (fun _ => kitAny_cons (b := true) (kit_ty (by decide +kernel)) (fun z => by cases z) (fun _ => rfl)) (fun z => by cases z), k _ e⟩
/-! ### is_name -/
def spIsName : Sp := fun vs H Q _ => ∃ z : Str, vs = [.str z] ∧ Nm z ∧ ∀ H', Evl.Ex H H' → Q (.bl true) H'
abbrev nIsName : List Str := ["value", "sign"]
theorem sc_is_name : FnScope nIsName ["value"] (defScope p_is_name) := ⟨rfl, rfl, rfl, by decide +kernel, rfl, by decide +kernel, by decide +kernel⟩
theorem ok_is_name {f : Addr} {fd : FuncData} {tk : Tok} (F : Fun K "is_name" "is_name" p_is_name f fd) (mIsi : mg "isinstance" = none) (mStr : mg "str" = none) (mLen : mg "len" = none) (mAll : mg "all" = none) (mMost : mg "MOST_LETTERS" = some (.int 6 tk)) :
    FnOk P w K mg base CX0 1 f fd ["value"] spIsName := by
  refine F.ok sc_is_name (fun vs H Q E h => ?_) (fun cdv A outer s H vs Q E hr h => ?_)
  · obtain ⟨z, rfl, _⟩ := h
    rfl
  · obtain ⟨z, rfl, hz, k⟩ := h
    have nd := sc_is_name.nd
    refine ⟨_, pss_cons (ps_if (PW.pt (pw_or (pt_not (pt_val (pe_callB call_isi (by rfl) mIsi (by decide +kernel) (pa_cons (pv 0) (pa_cons (pe_bltn (v := .ty "str") (by rfl) mStr (by decide +kernel) rfl) pa_nil)))))
          (pw_or1 (pt_not (pt_chain op_le op_le pe_int (pe_callB call_len (by rfl) mLen PySem.boot_len (pa_cons (pv 0) pa_nil)) (pe_glob (v := .int 6) (by rfl) mMost ⟨_, rfl⟩))))))
        (pss_one (ps_ret pe_bl)) pss_nil)
      (pss_one (ps_ret (pe_callB (cr_all rfl) (by rfl) mAll (by decide +kernel) (pa_cons (pe_lc (own := [("sign", 1)]) (g := gName 1) (tt := tYes) rfl nd (pi_str (pv 0)) (blkOk_by (own := [("sign", 1)]) (N := nIsName) (sc := defScope p_is_name) (by decide +kernel))
        (fun _ _ _ _ _ => pg_name (i := 1) nd rfl (Or.inl rfl)) (fun _ _ _ _ _ => pts_nil) (fun _ _ _ _ _ => pe_chain op_le_str op_le_str pe_str (pv 1) pe_str)) pa_nil)))), ?_⟩
    obtain ⟨l, rfl, h1, h2, h3⟩ := hz
    have hl : (SX.S l).length = l.length := SX.S_len l
    refine ⟨.str (SX.S l), rfl, .str (SX.S l), .ty "str", _, _, true, rfl, .ty _, .base (.str _), kit_ty (by decide +kernel), true, rfl, ?_⟩
    refine ⟨.str (SX.S l), rfl, .str (SX.S l), l.length, rfl, ⟨Nat.le_of_lt (small1000 (by omega)), hl.symm⟩, 1, (l.length : Int), rfl, rfl, true, ?_, ?_⟩
    · exact congrArg V.bl (decide_eq_true (show (1 : Int) ≤ (l.length : Int) by omega))
    · refine ⟨_, 6, rfl, rfl, true, ?_, ?_⟩
      · exact congrArg V.bl (decide_eq_true (show (l.length : Int) ≤ 6 by omega))
      · refine ⟨.str (SX.S l), rfl, _, rfl, fun D hD => lc_it walk_str (fun i H' => i ≤ l.length ∧ H' = upd H D (.lst ((List.replicate i true).map V.bl))) ⟨Nat.zero_le _, rfl⟩ (fun _ _ _ _ => trivial) ?_ ?_⟩
        · rintro i x H1 H1' hi ⟨_, rfl⟩ ⟨rfl, ch, hch, rfl⟩
          have hil : i < l.length := by simpa using hi
          have hm : ch ∈ l := by
            have z : l[i]? = some ch := by simpa using hch
            exact List.mem_of_getElem? z
          refine ⟨rfl, ?_⟩
          refine yes_if ?_
          have hb := h3 ch hm
          refine ⟨_, rfl, _, _, rfl, rfl, true, congrArg V.bl (sign_le hb.1), ?_⟩
          refine ⟨_, _, rfl, rfl, ?_⟩
          have e2 : (V.bl (!decide (([122] : List Nat) < [ch]))) = .bl true := congrArg V.bl (sign_le hb.2)
          refine ⟨_, upd_same, by rw [List.length_map, List.length_replicate]; exact small1000 (by omega), hil, ?_⟩
          rw [upd_upd, List.replicate_succ', List.map_append]
          show upd H D (.lst (_ ++ [V.bl (!decide (([122] : List Nat) < [ch]))])) = _
          rw [e2]
          rfl
        · rintro H1 ⟨_, rfl⟩
          refine ⟨D, _, rfl, Evl.sq_of upd_same, ?_⟩
          rw [all_trues]
          exact k _ (Evl.Ex.new hD)
end
end Rw
end T_P1

section T_P2
set_option Elab.async false
set_option linter.all false
set_option maxRecDepth 100000
set_option maxHeartbeats 4000000
namespace Rw
open PySem L2 PyProof.Rows
section
variable {P : Program} {w : World} {K : PySem.W.Frag} {mg : Str → Option Value} {base : Heap}
/-! ### is_place -/
def spPlace (K : PySem.W.Frag) : Sp := fun vs H Q _ => ∃ (v : V) (z e : Str) (a : Addr) (zs : List Str), vs = [v, .str z, .ref a, .str e] ∧ SqS K H a zs ∧ PlaceOk zs e z v ∧ ∀ H', Evl.Ex H H' → Q (.bl true) H'
theorem sc_is_place : FnScope ["value", "node", "nodes", "goal"] ["value", "node", "nodes", "goal"] (defScope p_is_place) := ⟨rfl, rfl, rfl, by decide +kernel, rfl, by decide +kernel, by decide +kernel⟩
theorem ok_is_place {f : Addr} {fd : FuncData} (F : Fun K "is_place" "is_place" p_is_place f fd) : FnOk P w K mg base CX0 1 f fd ["value", "node", "nodes", "goal"] (spPlace K) := by
  refine F.ok sc_is_place (fun vs H Q E h => ?_) (fun cdv A outer s H vs Q E hr h => ?_)
  · obtain ⟨v, z, e, a, zs, rfl, _⟩ := h
    rfl
  · obtain ⟨v, z, e, a, zs, rfl, hS, hv, k⟩ := h
    have k0 := k H (Evl.Ex.refl H)
    refine ⟨_, pss_one (ps_ret (pe_or (pe_cmpR op_isN (pv 0) pe_non (nomark _)) (pe_or (pe_cmpR op_eq (pv 0) (pv 3) (nomark _)) (pe_one (pe_and (pe_cmpR op_in_seq (pv 0) (pv 2) rfl) (pe_one (pe_cmpR op_ne (pv 0) (pv 1) (nomark _)))))))), ?_⟩
    rcases hv with rfl | rfl | ⟨y, hy, hne, rfl⟩
    · exact ⟨.non, rfl, rfl, true, rfl, k0⟩
    · refine ⟨.str e, rfl, rfl, false, rfl, ?_⟩
      refine ⟨.str e, rfl, .str e, rfl, rfl, true, congrArg V.bl (decide_eq_true rfl), k0⟩
    · refine ⟨.str y, rfl, rfl, false, rfl, ?_⟩
      refine ⟨.str y, rfl, .str e, rfl, rfl, _, rfl, ite2 (fun _ => k0) (fun _ => ?_)⟩
      refine ⟨.str y, rfl, .ref a, rfl, a, zs.map V.str, rfl, (hS.sq : SqL K H a _ ∨ SqT K H a _), rfl, flat_strs zs, true, ?_, ?_⟩
      · rw [inV_str]
        exact congrArg V.bl (decide_eq_true hy)
      · refine ⟨.str y, rfl, .str z, rfl, rfl, ?_⟩
        have e1 : (!decide (V.str y = V.str z)) = true := by rw [decide_eq_false (fun q => hne (V.str.inj q))]; rfl
        rw [e1]
        exact k0
/-! ### is_table -/
def spTable : Sp := fun vs H Q _ => ∃ (t a : Addr) (e : Str) (zs : List Str) (tb : List (Str × V)), vs = [.ref t, .ref a, .str e] ∧ H t = some (.dK (tkv tb)) ∧ H a = some (.lst (zs.map V.str)) ∧ TabOk zs e tb ∧ zs.length ≤ 100 ∧ ∀ H', Evl.Ex H H' → Q (.bl true) H'
abbrev nIsTable : List Str := ["table", "nodes", "goal", "node"]
theorem sc_is_table : FnScope nIsTable ["table", "nodes", "goal"] (defScope p_is_table) := ⟨rfl, rfl, rfl, by decide +kernel, rfl, by decide +kernel, by decide +kernel⟩
theorem ok_is_table {f fI : Addr} {fd fdI : FuncData} (F : Fun K "is_table" "is_table" p_is_table f fd) (I_ : FnOk P w K mg base CX0 1 fI fdI ["value", "node", "nodes", "goal"] (spPlace K)) (kI : PySem.W.keepIn K (.ref fI) = true) (bI : Binds K fdI ["value", "node", "nodes", "goal"] []) (gI : mg "is_place" = some (.ref fI))
    (mLen : mg "len" = none) (mAll : mg "all" = none) : FnOk P w K mg base CX0 2 f fd ["table", "nodes", "goal"] spTable := by
  refine F.ok sc_is_table (fun vs H Q E h => ?_) (fun cdv A outer s H vs Q E hr h => ?_)
  · obtain ⟨t, a, e, zs, tb, rfl, _⟩ := h
    rfl
  · obtain ⟨t, a, e, zs, tb, rfl, ht, ha, hT, hzl, k⟩ := h
    have nd := sc_is_table.nd
    have hu := hu_of hr
    refine ⟨_, pss_cons (ps_if (pt_cmpR op_ne (pe_callB call_lenD (by rfl) mLen PySem.boot_len (pa_cons (pv 0) pa_nil)) (pe_callB call_len (by rfl) mLen PySem.boot_len (pa_cons (pv 1) pa_nil)) (nomark _)) (pss_one (ps_ret pe_bl)) pss_nil)
      (pss_one (ps_ret (pe_callB (cr_all rfl) (by rfl) mAll (by decide +kernel) (pa_cons (pe_lc (own := [("node", 3)]) (g := gName 3) (tt := tYes) (te := tAndV (tDIn (tVar 3) (tVar 0)) (tCall (spPlace K) [] E0 (tCons (tDGet (tVar 0) (tVar 3)) (tCons (tVar 3) (tCons (tVar 1) (tCons (tVar 2) tNil)))))) rfl nd (pi_list (pv 1)) (blkOk_by (own := [("node", 3)]) (N := nIsTable) (sc := defScope p_is_table) (by decide +kernel))
        (fun _ _ _ _ _ => pg_name (i := 3) nd rfl (Or.inl rfl)) (fun _ _ _ _ _ => pts_nil)
        (fun _ _ _ _ _ => pe_and (pe_cmp (pc_din hu (pv 3) (pv 0)) rfl) (pe_one (pe_call I_ hr rfl gI kI bI .nil pass0 (pa_cons (pe_dget hu (pv 0) (pv 3) (fun _ _ => rfl)) (pa_cons (pv 3) (pa_cons (pv 1) (pa_cons (pv 2) pa_nil)))))))) pa_nil)))), ?_⟩
    refine ⟨.ref t, rfl, t, _, rfl, ht, .ref a, rfl, .ref a, (zs.map V.str).length, rfl, .inl ⟨_, Evl.sq_of ha, rfl⟩, rfl, _, rfl, ?_⟩
    have el : (tkv tb).length = (zs.map V.str).length := by rw [tkv_len, List.length_map, ← hT.ks.length_eq, List.length_map]
    refine iteNS (by rw [el]) ?_
    refine ⟨.ref a, rfl, a, rfl, ⟨_, Evl.sq_of ha⟩, fun D hD => lc_trues (Evl.sq_of ha) hD (by rw [List.length_map]; omega) (fun i x H1 Q1 R hi e1 go => ?_) (fun H1 e1 d1 => ?_)⟩
    · obtain ⟨z, hz, rfl⟩ := str_at hi
      obtain ⟨v, hv1, hv2⟩ := tkv_some (tb := tb) (z := z) (hT.ks.mem_iff.mpr (List.mem_of_getElem? hz))
      refine ⟨rfl, ?_⟩
      refine yes_if ?_
      have gt : DGet H1 t (.str z) (some v) := by
        have q := DGet.k (k := Sum.inr z) (e1 _ _ ht)
        rw [hv1] at q
        exact q
      refine ⟨.str z, rfl, .ref t, rfl, t, some v, rfl, gt, true, rfl, ?_⟩
      refine ⟨.ref t, rfl, .str z, rfl, t, v, rfl, gt, .str z, rfl, .ref a, rfl, .str e, rfl, v, z, e, a, zs, rfl, .inl (Evl.sq_of (e1 _ _ ha)), hT.ps (z, v) hv2, fun H2 e2 => go H2 e2⟩
    · refine ⟨D, _, rfl, Evl.sq_of d1, ?_⟩
      rw [all_trues]
      exact k _ e1
end
end Rw
end T_P2

section T_N3
set_option Elab.async false
set_option linter.all false
set_option maxRecDepth 100000
set_option maxHeartbeats 4000000
namespace Rw
open PySem L2 PyProof.Rows
/-- the way of z by a table -/
def look (tb : List (Str × V)) (z : Str) : V := (valV (tkv tb) (Sum.inr z)).getD .non
/-- where old and new ways of z differ -/
def diffB (ends : List Str) (o n : Str → List (Str × V)) (z : Str) : List Bool := ends.map fun e => !decide (look (o e) z = look (n e) z)
/-- the nodes that change -/
def moving (ends dots : List Str) (o n : Str → List (Str × V)) : List Str := dots.filter fun z => (diffB ends o n z).any id
theorem look_ok {zs : List Str} {e z : Str} {tb : List (Str × V)} (h : TabOk zs e tb) (hz : z ∈ zs) : PlaceOk zs e z (look tb z) ∧ valV (tkv tb) (Sum.inr z) = some (look tb z) := by
  obtain ⟨v, h1, h2⟩ := tkv_some (tb := tb) (z := z) (h.ks.mem_iff.mpr hz)
  unfold look
  rw [h1]
  exact ⟨h.ps _ h2, rfl⟩
theorem look_canon {dots : List Str} {tb : List (Str × V)} {z : Str} (hz : z ∈ dots) : look (canon dots tb) z = look tb z := by
  unfold look
  rw [canon_get hz]
  rfl
theorem scal_place {zs ys : List Str} {e f z y : Str} {u v : V} (h1 : PlaceOk zs e z u) (h2 : PlaceOk ys f y v) : scal u v = true := by
  rcases h1 with rfl | rfl | ⟨_, _, _, rfl⟩ <;> rcases h2 with rfl | rfl | ⟨_, _, _, rfl⟩ <;> rfl
abbrev scOuter : Scope := { kind := .function, names := [(".0", .local), ("node", .cell), ("any", .globalImplicit), ("pairs", .cell)], isGenerator := false, isCoroutine := false }
theorem tkv_at : ∀ {rows : List (Str × V)} {ends : List Str} {i : Nat} {e : Str} {v : V}, rows.map (·.1) = ends → ends.Nodup → ends[i]? = some e → valV (tkv rows) (Sum.inr e) = some v → ((tkv rows).map (·.2))[i]? = some v := by
  intro rows ends i e v hk nd he hv
  have hi : i < rows.length := by
    have := (List.getElem?_eq_some_iff.mp he).1
    rw [← hk, List.length_map] at this
    exact this
  obtain ⟨u, hu, hm⟩ := tkv_some (tb := rows) (z := e) (by rw [hk]; exact List.mem_of_getElem? he)
  rw [hv] at hu
  obtain ⟨j, hj, hj'⟩ := List.getElem_of_mem hm
  have ej : ends[j]? = some e := by rw [← hk, List.getElem?_map, List.getElem?_eq_getElem hj, hj']; rfl
  have hie : i < ends.length := (List.getElem?_eq_some_iff.mp he).1
  have ij : i = j := (List.getElem?_inj hie nd).mp (he.trans ej.symm)
  subst ij
  unfold tkv
  rw [List.map_map, List.getElem?_map, List.getElem?_eq_getElem hj, hj', Option.some.inj hu]
  rfl
theorem diffB_snoc (l : List Str) (e : Str) (o n : Str → List (Str × V)) (z : Str) : diffB (l ++ [e]) o n z = diffB l o n z ++ [!decide (look (o e) z = look (n e) z)] := by
  unfold diffB
  rw [List.map_append]
  rfl
section
variable {P : Program} {w : World} {K : PySem.W.Frag} {mg : Str → Option Value} {base : Heap}
def spChanging (C : Addr) : Sp := fun vs H Q _ => ∃ (m : Addr) (ends dots ss ps : List Str) (o n : Str → List (Str × V)), vs = [.ref m] ∧ NetAt C H m ends dots ss ps o n ∧ ends.length ≤ 100 ∧ dots.length ≤ 100 ∧ ends.Nodup ∧
  ∀ p H', Evl.Ex H H' → H p = none → H' p = some (.tup ((moving ends dots o n).map V.str)) → Q (.ref p) H'
abbrev nChanging : List Str := ["self", "pairs", "node", "old", "new"]
theorem sc_changing : FnScope nChanging ["self"] (defScope c_Net_changing) := ⟨rfl, rfl, rfl, by decide +kernel, rfl, by decide +kernel, by decide +kernel⟩
theorem ok_changing {f C : Addr} {fd : FuncData} (F : Fun K "changing" "Net.changing" c_Net_changing f fd) (T : NetTxt K C) (mTup : mg "tuple" = none) (mList : mg "list" = none) (mAny : mg "any" = none) : FnOk P w K mg base CX0 2 f fd ["self"] (spChanging C) := by
  refine F.ok sc_changing (fun vs H Q E h => ?_) (fun cdv A outer s H vs Q E hr h => ?_)
  · obtain ⟨m, ends, dots, ss, ps, o, n, rfl, _⟩ := h
    rfl
  · obtain ⟨m, ends, dots, ss, ps, o, n, rfl, N, few, few2, en, k⟩ := h
    have nd := sc_changing.nd
    have hu := hu_of hr
    refine ⟨_, pss_cons (ps_set (i := 1) nd rfl (.inr rfl) (pe_listVals rfl (pe_fld (pv 0) rfl) (by rfl) mList))
      (pss_one (ps_ret (pe_callTy call_tuple_of (by rfl) mTup (by decide +kernel) (pa_cons
        (pe_lc (own := [("node", 2)]) (g := gName 2) (tt := tB (tCB (rAny K) (tCons (tLc (iList K (tVar 1)) (gTup K 2 (gCons (gName 3) (gCons (gName 4) gNil))) tYes (tOp rNe (tDGet (tVar 3) (tVar 2)) (tDGet (tVar 4) (tVar 2))) [3, 4]) tNil))) rfl nd (pi_tup (pe_fld (pv 0) rfl)) (blkOk_by (own := [("node", 2)]) (N := nChanging) (sc := defScope c_Net_changing) (by decide +kernel))
          (fun _ _ _ _ _ => pg_name (i := 2) nd rfl (Or.inr rfl))
          (fun _ _ _ _ _ => pts_one (pt_val (pe_callB (cr_any rfl) (by rfl) mAny (by decide +kernel) (pa_cons
            (pe_lc (own := [("old", 3), ("new", 4)]) (g := gTup K 2 (gCons (gName 3) (gCons (gName 4) gNil))) (tt := tYes) (te := tOp rNe (tDGet (tVar 3) (tVar 2)) (tDGet (tVar 4) (tVar 2))) rfl nd (pi_list (pv 1)) (by
              have q : ∀ {sc : Scope}, blkC nChanging scOuter sc [("old", 3), ("new", 4)] = true → BlkOk nChanging scOuter sc [("old", 3), ("new", 4)] := fun h => blkOk_by h
              refine q ?_
              decide +kernel)
              (fun _ _ _ _ _ => pg_tup rfl (pgs_cons (pg_name (i := 3) nd rfl (Or.inl rfl)) (pgs_cons (pg_name (i := 4) nd rfl (Or.inl rfl)) pgs_nil))) (fun _ _ _ _ _ => pts_nil) (fun _ _ _ _ _ => pe_cmpR op_ne (pe_dget hu (pv 3) (pv 2) (fun _ _ => rfl)) (pe_dget hu (pv 4) (pv 2) (fun _ _ => rfl)) (nomark _))) pa_nil))))
          (fun _ _ _ _ _ => pv 2)) pa_nil)))), ?_⟩
    obtain ⟨dx, T', N', S, Po, rows, h1, h2, h3, h4, h5, h6, h7⟩ := N.ex
    have rl : rows.length = ends.length := by rw [← h6, List.length_map]
    refine ⟨.ref m, rfl, m, C, dx, _, .ref T', rfl, h1, T.cl, T.nT, nflds_tables _ _ _ _, T', _, rfl, .inl h2, fun l hl => ?_⟩
    have x1 : Evl.Ex H (upd H l (.lst ((tkv rows).map (·.2)))) := Evl.Ex.new hl
    have el : (upd H l (.lst ((tkv rows).map (·.2)))) l = some (.lst ((tkv rows).map (·.2))) := upd_same
    generalize upd H l (.lst ((tkv rows).map (·.2))) = H1 at x1 el
    refine ⟨.ref m, rfl, m, C, dx, _, .ref N', rfl, x1 _ _ h1, T.cl, T.nN, nflds_nodes _ _ _ _, N', rfl, ⟨_, Evl.st_of (x1 _ _ h3)⟩, fun D hD => lc_tup (K := K) (a := N') (xs := dots.map V.str)
      (fun i H' => i ≤ dots.length ∧ Evl.Ex H1 H' ∧ H' D = some (.lst ((moving ends (dots.take i) o n).map V.str))) ⟨Nat.zero_le _, Evl.Ex.new hD, upd_same⟩ (fun i H' _ h => Evl.st_of (h.2.1 _ _ (x1 _ _ h3))) ?_ ?_⟩
    · rintro j x H3 hj ⟨_, x3, d3⟩
      obtain ⟨z, hz, rfl⟩ := str_at hj
      have hjl : j < dots.length := (List.getElem?_eq_some_iff.mp hz).1
      have zd := List.mem_of_getElem? hz
      have et : moving ends (dots.take (j + 1)) o n = moving ends (dots.take j) o n ++ if (diffB ends o n z).any id then [z] else [] := by
        unfold moving
        rw [List.take_add_one, hz, List.filter_append]
        show _ ++ List.filter _ [z] = _
        rw [List.filter_cons]
        rfl
      have dl : (moving ends (dots.take j) o n).length ≤ 100 := Nat.le_trans (List.length_filter_le _ _) (by rw [List.length_take]; omega)
      refine ⟨rfl, ?_⟩
      refine ⟨.ref l, rfl, l, rfl, ⟨_, Evl.sq_of (x3 _ _ el)⟩, fun D2 hD2 => lc_list (K := K) (a := l) (xs := (tkv rows).map (·.2))
        (fun i H' => i ≤ ends.length ∧ Evl.Ex H3 H' ∧ H' D2 = some (.lst ((diffB (ends.take i) o n z).map V.bl))) ⟨Nat.zero_le _, Evl.Ex.new hD2, upd_same⟩ (fun i H' _ h => Evl.sq_of (h.2.1 _ _ (x3 _ _ el))) ?_ ?_⟩
      · rintro i y H4 hi ⟨_, x4, d4⟩
        have hil : i < ends.length := by
          have := (List.getElem?_eq_some_iff.mp hi).1
          rw [List.length_map, tkv_len] at this
          omega
        have gi : ends[i]? = some ends[i] := List.getElem?_eq_getElem hil
        obtain ⟨p, po, pn, hv, pa⟩ := h7 ends[i] (List.getElem_mem hil)
        have ey : y = .ref p := Option.some.inj (hi.symm.trans (tkv_at h6 en gi hv))
        subst ey
        have pa4 := pa.ex (x1.trans (x3.trans x4))
        have c1 := (look_ok pa.o1 zd)
        have c2 := (look_ok pa.o2 zd)
        have g1 : DGet H4 po (.str z) (some (look (o ends[i]) z)) := by
          have q := DGet.k (k := Sum.inr z) pa4.ho
          rw [c1.2, look_canon zd] at q
          exact q
        have g2 : DGet H4 pn (.str z) (some (look (n ends[i]) z)) := by
          have q := DGet.k (k := Sum.inr z) pa4.hn
          rw [c2.2, look_canon zd] at q
          exact q
        have sc := scal_place c1.1 c2.1
        rw [look_canon zd, look_canon zd] at sc
        refine ⟨p, _, rfl, Evl.st_of pa4.hp, rfl, _, _, rfl, _, [], rfl, rfl, rfl, ?_⟩
        refine yes_if ?_
        refine ⟨.ref po, rfl, .str z, rfl, po, _, rfl, g1, .ref pn, rfl, .str z, rfl, pn, _, rfl, g2, sc, _, d4, ?_, hil, x4.mut hD2, ?_⟩
        · rw [List.length_map]
          unfold diffB
          rw [List.length_map, List.length_take]
          exact small1000 (by omega)
        · rw [upd_same, List.take_add_one, gi]
          show some (HO.lst _) = some (HO.lst (List.map V.bl (diffB (_ ++ [_]) o n z)))
          rw [diffB_snoc, List.map_append]
          rfl
      · rintro H4 ⟨_, x4, d4⟩
        rw [List.length_map, tkv_len, rl, List.take_length] at d4
        refine ⟨D2, _, rfl, Evl.sq_of d4, _, rfl, ?_⟩
        by_cases q : (diffB ends o n z).any id = true
        · rw [if_pos q] at et ⊢
          refine ⟨.str z, rfl, _, x4 _ _ d3, by rw [List.length_map]; exact small1000 (by omega), hjl, (x3.trans x4).mut hD, ?_⟩
          rw [upd_same, et, List.map_append]
          rfl
        · rw [if_neg q] at et ⊢
          refine ⟨hjl, x3.trans x4, ?_⟩
          rw [et, List.append_nil]
          exact x4 _ _ d3
    · rintro H3 ⟨_, x3, d3⟩
      rw [List.length_map, List.take_length] at d3
      refine ⟨D, _, rfl, .inl ⟨Evl.sq_of d3, fun p hp => k p _ ((x1.trans x3).trans (Evl.Ex.new hp)) ?_ upd_same⟩⟩
      cases q : H p with
      | none => rfl
      | some u => rw [(x1.trans x3) _ _ q] at hp; cases hp
end
end Rw
end T_N3

section T_N4
set_option Elab.async false
set_option linter.all false
set_option maxRecDepth 100000
set_option maxHeartbeats 4000000
namespace Rw
open PySem L2 PyProof.Rows
/-- a lot of these names stands at a -/
structure LotAt (H : Hp) (a : Addr) (zs ys : List Str) : Prop where
  ha : H a = some (.tup (zs.map V.str))
  sub : ∀ z ∈ zs, z ∈ ys
  nd : zs.Nodup
  so : sortedS zs = true
  nm : ∀ z ∈ zs, Nm z
  few : zs.length ≤ 60
theorem LotAt.ex {H H' : Hp} {a : Addr} {zs ys : List Str} (h : LotAt H a zs ys) (e : Evl.Ex H H') : LotAt H' a zs ys := ⟨e _ _ h.ha, h.sub, h.nd, h.so, h.nm, h.few⟩
theorem shaped_tup {ds : List PyData} (h1 : PyData.canLayAll0 ds = true) (h2 : PyData.depthAll ds ≤ 60) : SeqAt.shaped (.tuple ds) = true := by
  unfold SeqAt.shaped
  rw [show PyData.canLay0 (.tuple ds) = PyData.canLayAll0 ds from rfl, h1, show PyData.depth (.tuple ds) = PyData.depthAll ds + 1 from rfl]
  exact decide_eq_true (show PyData.depthAll ds + 1 ≤ 64 by omega)
theorem any_falses (n : Nat) : (List.replicate n false).any id = false := by
  induction n with
  | zero => rfl
  | succ n ih => rw [List.replicate_succ, List.any_cons, ih]; rfl
section
variable {P : Program} {w : World} {K : PySem.W.Frag} {mg : Str → Option Value} {base : Heap}
def spLotOf : Sp := fun vs H Q _ => ∃ (a b : Addr) (zs ys : List Str), vs = [.ref a, .ref b] ∧ LotAt H a zs ys ∧ H b = some (.tup (ys.map V.str)) ∧ ∀ H', Evl.Ex H H' → Q (.bl true) H'
abbrev nLotOf : List Str := ["value", "nodes", "node"]
theorem sc_lot_of : FnScope nLotOf ["value", "nodes"] (defScope p_is_lot_of) := ⟨rfl, rfl, rfl, by decide +kernel, rfl, by decide +kernel, by decide +kernel⟩
theorem ok_lot_of {f : Addr} {fd : FuncData} (F : Fun K "is_lot_of" "is_lot_of" p_is_lot_of f fd) (mIsi : mg "isinstance" = none) (mTup : mg "tuple" = none) (mAll : mg "all" = none) (mSorted : mg "sorted" = none) (mSet : mg "set" = none) : FnOk P w K mg base CX0 1 f fd ["value", "nodes"] spLotOf := by
  refine F.ok sc_lot_of (fun vs H Q E h => ?_) (fun cdv A outer s H vs Q E hr h => ?_)
  · obtain ⟨a, b, zs, ys, rfl, _⟩ := h
    rfl
  · obtain ⟨a, b, zs, ys, rfl, L, hb, k⟩ := h
    have nd := sc_lot_of.nd
    refine ⟨_, pss_cons (ps_if (PW.pt (pw_or (pt_not (pt_val (pe_callB call_isi (by rfl) mIsi (by decide +kernel) (pa_cons (pv 0) (pa_cons (pe_bltn (v := .ty "tuple") (by rfl) mTup (by decide +kernel) rfl) pa_nil)))))
          (pw_or1 (pt_not (pt_val (pe_callB (cr_all rfl) (by rfl) mAll (by decide +kernel) (pa_cons (pe_lc (own := [("node", 2)]) (g := gName 2) (tt := tYes) (te := tOp (rIn K false) (tVar 2) (tVar 1)) rfl nd (pi_tup (pv 0)) (blkOk_by (own := [("node", 2)]) (N := nLotOf) (sc := defScope p_is_lot_of) (by decide +kernel))
            (fun _ _ _ _ _ => pg_name (i := 2) nd rfl (Or.inl rfl)) (fun _ _ _ _ _ => pts_nil) (fun _ _ _ _ _ => pe_cmpR op_in_seq (pv 2) (pv 1) rfl)) pa_nil))))))) (pss_one (ps_ret pe_bl)) pss_nil)
      (pss_one (ps_ret (pe_cmpR (op_eqD hr.units) (pv 0) (pe_callTy call_tuple_of (by rfl) mTup (by decide +kernel) (pa_cons (pe_callB (cr_sortedX rfl) (by rfl) mSorted (by decide +kernel) (pa_cons (pe_callTy (cr_setX rfl) (by rfl) mSet (by decide +kernel) (pa_cons (pv 0) pa_nil)) pa_nil)) pa_nil)) (nomark _)))), ?_⟩
    have few := L.few
    refine ⟨.ref a, rfl, .ref a, .ty "tuple", _, _, true, rfl, .ty _, .base (.tup L.ha), kit_ty (by decide +kernel), true, rfl, ?_⟩
    refine ⟨.ref a, rfl, a, rfl, ⟨_, Evl.st_of L.ha⟩, fun D hD => lc_truesT (Evl.st_of L.ha) hD (by rw [List.length_map]; omega) (fun i x H1 Q1 R hi e1 go => ?_) (fun H1 e1 d1 => ?_)⟩
    · obtain ⟨z, hz, rfl⟩ := str_at hi
      refine ⟨rfl, ?_⟩
      refine yes_if ?_
      refine ⟨.str z, rfl, .ref b, rfl, b, ys.map V.str, rfl, .inr (Evl.st_of (e1 _ _ hb)), rfl, flat_strs ys, ?_⟩
      rw [inV_str, decide_eq_true (L.sub z (List.mem_of_getElem? hz))]
      exact go _ (Evl.Ex.refl _)
    · refine ⟨D, _, rfl, Evl.sq_of d1, ?_⟩
      rw [all_trues]
      refine ⟨true, rfl, ?_⟩
      -- value == tuple(sorted(set(value)))
      refine ⟨.ref a, rfl, .ref a, rfl, a, zs, rfl, .inr (Evl.st_of (e1 _ _ L.ha)), by omega, fun p hp => ?_⟩
      have e3 := Evl.Ex.new (o := SetXO w p (seen zs)) hp
      refine ⟨p, seen zs, rfl, upd_same, by rw [seen_len L.nd]; omega, fun ws l hws hso hl => ?_⟩
      have ew : ws = zs := sorted_uniq hso L.so (hws.trans (seen_perm L.nd))
      subst ew
      have e4 := Evl.Ex.new (o := HO.lst (ws.map V.str)) hl
      refine ⟨l, _, rfl, .inl ⟨Evl.sq_of upd_same, fun t ht => ?_⟩⟩
      have e5 := Evl.Ex.new (o := HO.tup (ws.map V.str)) ht
      have x := e1.trans (e3.trans (e4.trans e5))
      obtain ⟨ds, g1, g2, g3, _⟩ := data_all (K := K) (H := H) (ws.map V.str) fun v hv => by
        obtain ⟨z, hz, rfl⟩ := List.mem_map.mp hv
        exact strV_data (nm_ok (L.nm z hz))
      refine ⟨.tuple ds, .tuple ds, .tup (Evl.st_of (x _ _ L.ha)) (dpa_ex x ds _ g1), .tup (Evl.st_of upd_same) (dpa_ex x ds _ g1), shaped_tup g2 g3, shaped_tup g2 g3, ?_⟩
      rw [show PyData.eqv (.tuple ds) (.tuple ds) = true from PySem.SeqAt.eqv_refl _ g2]
      exact k _ x
/-! ### check_lot, check_round -/
def spCheckLot (C : Addr) : Sp := fun vs H Q _ => ∃ (m a : Addr) (t : V) (zs ends dots ss ps : List Str) (o n : Str → List (Str × V)), vs = [.ref m, .ref a, t] ∧ NetAt C H m ends dots ss ps o n ∧ ends.length ≤ 100 ∧ dots.length ≤ 100 ∧ ends.Nodup ∧ LotAt H a zs (moving ends dots o n) ∧ ∀ H', Evl.Ex H H' → Q .non H'
theorem sc_check_lot : FnScope ["net", "lot", "part"] ["net", "lot", "part"] (defScope p_check_lot) := ⟨rfl, rfl, rfl, by decide +kernel, rfl, by decide +kernel, by decide +kernel⟩
theorem ok_check_lot {f C : Addr} {fd : FuncData} (F : Fun K "check_lot" "check_lot" p_check_lot f fd) (T : NetTxt K C) (Pg : Prp P w K mg base C 2 "changing" (spChanging C)) (Cl : Cal P w K mg base 1 "is_lot_of" ["value", "nodes"] spLotOf) : FnOk P w K mg base CX0 4 f fd ["net", "lot", "part"] (spCheckLot C) := by
  obtain ⟨p1, g1, fd1, at1, F1, b1⟩ := Pg.ex
  obtain ⟨f2, fd2, F2, k2, b2, g2⟩ := Cl.ex
  refine F.ok sc_check_lot (fun vs H Q E h => ?_) (fun cdv A outer s H vs Q E hr h => ?_)
  · obtain ⟨m, a, t, zs, ends, dots, ss, ps, o, n, rfl, _⟩ := h
    rfl
  · obtain ⟨m, a, t, zs, ends, dots, ss, ps, o, n, rfl, N, l1, l2, en, L, k⟩ := h
    have hr1 : Room 1 _ := hr.mono (by decide)
    refine ⟨_, pss_one (ps_if (pt_not (pt_val (pe_call F2 hr1 rfl g2 k2 b2 .nil pass0 (pa_cons (pv 1) (pa_cons (pe_prop (pv 0) T.cl at1 F1 hr b1 .nil pass0 rfl) pa_nil))))) (pss_one ps_never) pss_nil), ?_⟩
    have N2 := N
    obtain ⟨dx, T', N', S, Po, rows, h1, h2, h3, h4, h5, h6, h7⟩ := N.ex
    refine ⟨.ref a, rfl, .ref m, rfl, m, dx, _, rfl, h1, m, ends, dots, ss, ps, o, n, rfl, N2, l1, l2, en, fun p H1 x1 hp hp1 => ?_⟩
    exact ⟨a, p, zs, _, rfl, L.ex x1, hp1, fun H2 x2 => ⟨true, rfl, k _ (x1.trans x2)⟩⟩
def spRound (C : Addr) : Sp := fun vs H Q _ => ∃ (m a b : Addr) (t : Str) (zs ys ends dots ss ps : List Str) (o n : Str → List (Str × V)), vs = [.ref m, .ref a, .ref b, .str t] ∧ NetAt C H m ends dots ss ps o n ∧ ends.length ≤ 100 ∧ dots.length ≤ 100 ∧ ends.Nodup ∧
  LotAt H a zs (moving ends dots o n) ∧ LotAt H b ys (moving ends dots o n) ∧ (∀ y ∈ ys, y ∉ zs) ∧ ∀ H', Evl.Ex H H' → Q .non H'
abbrev nRound : List Str := ["net", "done", "lot", "part", "node"]
theorem sc_round : FnScope nRound ["net", "done", "lot", "part"] (defScope p_check_round) := ⟨rfl, rfl, rfl, by decide +kernel, rfl, by decide +kernel, by decide +kernel⟩
theorem ok_check_round {f C : Addr} {fd : FuncData} (F : Fun K "check_round" "check_round" p_check_round f fd) (C1 : Cal P w K mg base 1 "check_net" ["net"] (spCheckNet C)) (C2 : Cal P w K mg base 4 "check_lot" ["net", "lot", "part"] (spCheckLot C)) (mAny : mg "any" = none) : FnOk P w K mg base CX0 5 f fd ["net", "done", "lot", "part"] (spRound C) := by
  obtain ⟨f1, fd1, F1, k1, b1, g1⟩ := C1.ex
  obtain ⟨f2, fd2, F2, k2, b2, g2⟩ := C2.ex
  refine F.ok sc_round (fun vs H Q E h => ?_) (fun cdv A outer s H vs Q E hr h => ?_)
  · obtain ⟨m, a, b, t, zs, ys, ends, dots, ss, ps, o, n, rfl, _⟩ := h
    rfl
  · obtain ⟨m, a, b, t, zs, ys, ends, dots, ss, ps, o, n, rfl, N, l1, l2, en, La, Lb, dis, k⟩ := h
    have nd := sc_round.nd
    have hr1 : Room 1 _ := hr.mono (by decide)
    refine ⟨_, pss_cons (ps_expr (pe_call F1 hr1 rfl g1 k1 b1 .nil pass0 (pa_cons (pv 0) pa_nil)))
      (pss_cons (ps_expr (pe_call F2 hr rfl g2 k2 b2 .nil pass0 (pa_cons (pv 0) (pa_cons (pv 1) (pa_cons pe_str pa_nil)))))
      (pss_cons (ps_expr (pe_call F2 hr rfl g2 k2 b2 .nil pass0 (pa_cons (pv 0) (pa_cons (pv 2) (pa_cons (pv 3) pa_nil)))))
      (pss_one (ps_if (pt_val (pe_callB (cr_any rfl) (by rfl) mAny (by decide +kernel) (pa_cons (pe_lc (own := [("node", 4)]) (g := gName 4) (tt := tYes) (te := tOp (rIn K false) (tVar 4) (tVar 1)) rfl nd (pi_tup (pv 2)) (blkOk_by (own := [("node", 4)]) (N := nRound) (sc := defScope p_check_round) (by decide +kernel))
            (fun _ _ _ _ _ => pg_name (i := 4) nd rfl (Or.inl rfl)) (fun _ _ _ _ _ => pts_nil) (fun _ _ _ _ _ => pe_cmpR op_in_seq (pv 4) (pv 1) rfl)) pa_nil))) (pss_one ps_never) pss_nil)))), ?_⟩
    have few := Lb.few
    refine ⟨.ref m, rfl, m, ends, dots, ss, ps, o, n, rfl, N, ?_⟩
    refine ⟨.ref m, rfl, .ref a, rfl, m, a, _, zs, ends, dots, ss, ps, o, n, rfl, N, l1, l2, en, La, fun H1 x1 => ?_⟩
    refine ⟨.ref m, rfl, .ref b, rfl, .str t, rfl, m, b, _, ys, ends, dots, ss, ps, o, n, rfl, N.to x1, l1, l2, en, Lb.ex x1, fun H2 x2 => ?_⟩
    have x12 := x1.trans x2
    refine ⟨.ref b, rfl, b, rfl, ⟨_, Evl.st_of (x12 _ _ Lb.ha)⟩, fun D hD => lc_tup (K := K) (a := b) (xs := ys.map V.str) (fun i H' => i ≤ ys.length ∧ Evl.Ex H2 H' ∧ H' D = some (.lst ((List.replicate i false).map V.bl)))
      ⟨Nat.zero_le _, Evl.Ex.new hD, upd_same⟩ (fun i H' _ h => Evl.st_of (h.2.1 _ _ (x12 _ _ Lb.ha))) ?_ ?_⟩
    · rintro i x H3 hi ⟨_, x3, d3⟩
      obtain ⟨y, hy, rfl⟩ := str_at hi
      have hil : i < ys.length := (List.getElem?_eq_some_iff.mp hy).1
      refine ⟨rfl, ?_⟩
      refine yes_if ?_
      refine ⟨.str y, rfl, .ref a, rfl, a, zs.map V.str, rfl, .inr (Evl.st_of ((x12.trans x3) _ _ La.ha)), rfl, flat_strs zs, _, d3, by rw [List.length_map, List.length_replicate]; exact small1000 (by omega), hil, x3.mut hD, ?_⟩
      rw [inV_str, decide_eq_false (dis y (List.mem_of_getElem? hy)), upd_same, List.replicate_succ', List.map_append]
      rfl
    · rintro H3 ⟨_, x3, d3⟩
      refine ⟨D, _, rfl, Evl.sq_of d3, ?_⟩
      rw [any_falses]
      exact ⟨false, rfl, k _ (x12.trans x3)⟩
end
end Rw
end T_N4

section T_S4
set_option Elab.async false
set_option linter.all false
set_option maxRecDepth 100000
set_option maxHeartbeats 4000000
namespace Rw
open PySem PySem.Spec L2 PyProof.Rows
/-! ### sorted(a tuple of texts) -/
section
variable {prog : Program} {w : World} {A : Around} {E : Value → Shared → Prop} {s : Shared}
theorem gather_tup {p : Addr} {us : List Value} {Q : List Value → Shared → Prop} (tup : IsTup s.heap p us.toArray) (fits : us.length ≤ sizeLine)
    (go : Q us { s with heap := (s.heap.push (seqObj "list" #[] 0)).update s.heap.objs.size (Obj.mapSeq fun x => x ++ us.toArray) }) : wpAny (model prog w) A (collect (.ref p)) Q E s := by
  obtain ⟨ob, at_p, is_t, k, dat⟩ := id tup
  unfold collect; refine wpAny_bind (wpAny_runValue (codeAny_builtin entry_proto_collect' ?_))
  show wpAny (model prog w) _ (do again (.builtin "list.__iadd__" ⟨[← newList [], .ref p], []⟩)) _ E s
  refine wpAny_bind (wpAny_newList (wpAny_pure (And.intro (Code.quiet_builtin _ (by decide +kernel)) (codeAny_builtin entry_list_iadd' ?_))))
  show wpAny (model prog w) _ (Builtin.List.listExtendWith (.ref s.heap.objs.size) (.ref p) (.ref s.heap.objs.size)) _ E { s with heap := s.heap.push (seqObj "list" #[] 0) }
  unfold Builtin.List.listExtendWith
  have at_p2 : (s.heap.push (seqObj "list" #[] 0)).get? p = some ob := Heap.get?_push_of_some _ at_p
  have at_new : (s.heap.push (seqObj "list" #[] 0)).get? s.heap.objs.size = some (seqObj "list" #[] 0) := Heap.get?_push_size _ rfl
  refine wpAny_bind (wpAny_typeOf (T := "tuple") ⟨ob, at_p2, is_t⟩ ?_)
  rw [if_pos (by rw [show (Value.type "tuple" == Value.type "tuple") = true by rfl]; simp)]
  refine wpAny_bind (listItems_at at_p2 dat (wpAny_bind (listItems_at (xs := #[]) (n := 0) at_new rfl ?_)))
  rw [if_neg (by simp)]
  refine wpAny_bind (listUpdate_at (xs := #[]) (n := 0) at_new rfl ?_ (Nat.zero_le _) (by show (#[] ++ us.toArray).size ≤ _; simp only [Array.size_append, List.size_toArray, List.length_nil]; omega))
  refine wpAny_pure (wpAny_bind (wpAny_load (get?_update_seq at_new _) ?_))
  show wpAny (model prog w) A (pure ((#[] : Array Value) ++ us.toArray).toList) Q E _
  rw [show ((#[] : Array Value) ++ us.toArray).toList = us by simp]
  exact wpAny_pure go
end
section
variable {X : Cx}
def rSortedU (K : PySem.W.Frag) : List V → Hp → VK → Prop := fun vs H Q => ∃ (a : Addr) (ks : List Str), vs = [.ref a] ∧ SqT K H a (ks.map V.str) ∧ ks.length < 64 ∧
  ∀ (ys : List Str) (p : Addr), ys.Perm ks → sortedS ys = true → H p = none → Q (.ref p) (upd H p (.lst (ys.map V.str)))
theorem cr_sortedU : CallR X (.builtin "sorted") (rSortedU X.K) := by
  intro pins s σ H vs us Q I r reading
  obtain ⟨a, ks, rfl, ha, h64, q⟩ := reading
  rw [Vals.ref1 r]
  obtain ⟨out, rel, tup, hz⟩ := I.tuple ha
  have texts : StrsAre out ks := Vals.strs rel
  have len : out.length = ks.length := texts.len_eq
  refine Calls.call_function_entry kind_sorted plain_sorted entry_sorted (args_sorted1 _) ?_
  unfold Builtin.«sorted»; refine wpAny_bind (m := checkCount "sorted" 1 1 _) (wpAny_pure ?_)
  refine wpAny_bind (gather_tup tup (by rw [len, sizeLine_eq]; omega) ?_)
  have grown : ((s.heap.push (seqObj "list" #[] 0)).update s.heap.objs.size (Obj.mapSeq fun x => x ++ out.toArray)).objs.size = s.heap.objs.size + 1 := by rw [Heap.size_update, size_push']
  have keep : ∀ b u, s.heap.get? b = some u → ((s.heap.push (seqObj "list" #[] 0)).update s.heap.objs.size (Obj.mapSeq fun x => x ++ out.toArray)).get? b = some u := fun b u e => by
    rw [Heap.get?_update_ne _ _ _ _ (Nat.ne_of_lt (Heap.lt_size e))]
    exact Heap.get?_push_of_some _ e
  generalize (s.heap.push (seqObj "list" #[] 0)).update s.heap.objs.size (Obj.mapSeq fun x => x ++ out.toArray) = h1 at grown keep
  refine wpAny_bind (wpAny_newList ?_ (by rw [len, sizeLine_eq]; omega))
  have at_l : (h1.push (seqObj "list" out.toArray 0)).get? h1.objs.size = some (seqObj "list" out.toArray 0) := Heap.get?_push_size _ rfl
  refine wpAny_bind (wpAny_holding (wpAny_call_entry slot_list_sort ⟨_, at_l, rfl⟩ entry_list_sort
    (list_sort_treeK strKind_oneLt (s := { s with heap := h1.push (seqObj "list" out.toArray 0) }) at_l texts.keysOf (fun v₁ v₂ rest e => keyKind_strs (by rw [← e]; exact texts)) (by rw [len]; exact h64) fun st' hp hs => ⟨_, rfl, ?_⟩)
    (args_list_sort _)))
  obtain ⟨ys, g1, g2, g3⟩ := sorted_out_str texts hp hs
  obtain ⟨c, at_out⟩ := sortedHeap_at (vs := out) (out := (arrOf st').map (·.2)) at_l
  have lenys : (ys.map V.str).length ≤ sizeLine := by rw [List.length_map, g2.length_eq, sizeLine_eq]; omega
  have keep2 : ∀ b u, s.heap.get? b = some u → (sortedHeap (h1.push (seqObj "list" out.toArray 0)) h1.objs.size out ((arrOf st').map (·.2))).get? b = some u := fun b u e => by
    have e1 := keep b u e
    have lt := Heap.lt_size e1
    rw [sortedHeap_old (Nat.ne_of_lt lt) (by rw [size_push']; exact Nat.lt_succ_of_lt lt)]
    exact Heap.get?_push_of_some _ e1
  have grow : s.heap.objs.size ≤ h1.objs.size := by omega
  have fresh : H h1.objs.size = none := I.hok.fresh grow
  exact wpAny_pure ⟨_, rfl, .ref h1.objs.size, upd H h1.objs.size (.lst (ys.map V.str)), I.laid (t' := s.toks) keep2 grow ⟨lenys, ((arrOf st').map (·.2)).toList, c, vals_of_strs g1, by rw [Array.toArray_toList]; exact at_out⟩, rfl, q ys _ g2 g3 fresh⟩
/-- of a list or a tuple -/
def rSortedLU (K : PySem.W.Frag) : List V → Hp → VK → Prop := fun vs H Q => ∃ (a : Addr) (ks : List Str), vs = [.ref a] ∧ (SqL K H a (ks.map V.str) ∨ SqT K H a (ks.map V.str)) ∧ ks.length < 64 ∧
  ∀ (ys : List Str) (p : Addr), ys.Perm ks → sortedS ys = true → H p = none → Q (.ref p) (upd H p (.lst (ys.map V.str)))
theorem cr_sortedLU : CallR X (.builtin "sorted") (rSortedLU X.K) := by
  intro pins s σ H vs us Q I r reading
  obtain ⟨a, ks, rfl, ha, h64, q⟩ := reading
  rcases ha with ha | ha
  · exact cr_sortedS pins s σ H _ us Q I r ⟨a, ks, rfl, ha, h64, q⟩
  · exact cr_sortedU pins s σ H _ us Q I r ⟨a, ks, rfl, ha, h64, q⟩
end
end Rw
end T_S4

section T_P3
set_option Elab.async false
set_option linter.all false
set_option maxRecDepth 100000
set_option maxHeartbeats 4000000
namespace Rw
open PySem L2 PyProof.Rows
section
variable {P : Program} {w : World} {K : PySem.W.Frag} {mg : Str → Option Value} {base : Heap}
/-! ### are_different, of a list -/
def spDiff (K : PySem.W.Frag) : Sp := fun vs H Q _ => ∃ (a n : Addr) (ss zs : List Str), vs = [.ref a, .ref n] ∧ SqS K H a ss ∧ SqS K H n zs ∧ ss.Nodup ∧ (∀ z ∈ ss, z ∈ zs) ∧ ss.length ≤ 100 ∧ ∀ H', Evl.Ex H H' → Q (.bl true) H'
abbrev nDiff : List Str := ["value", "nodes", "item"]
theorem sc_diff : FnScope nDiff ["value", "nodes"] (defScope p_are_different) := ⟨rfl, rfl, rfl, by decide +kernel, rfl, by decide +kernel, by decide +kernel⟩
theorem ok_diff {f fI : Addr} {fd fdI : FuncData} (F : Fun K "are_different" "are_different" p_are_different f fd) (I_ : FnOk P w K mg base CX0 1 fI fdI ["value"] (spIsList K)) (kI : PySem.W.keepIn K (.ref fI) = true) (bI : Binds K fdI ["value"] []) (gI : mg "is_list" = some (.ref fI))
    (mLen : mg "len" = none) (mAll : mg "all" = none) (mSet : mg "set" = none) : FnOk P w K mg base CX0 2 f fd ["value", "nodes"] (spDiff K) := by
  refine F.ok sc_diff (fun vs H Q E h => ?_) (fun cdv A outer s H vs Q E hr h => ?_)
  · obtain ⟨a, n, ss, zs, rfl, _⟩ := h
    rfl
  · obtain ⟨a, n, ss, zs, rfl, ha, hn, hnd, hsub, hl, k⟩ := h
    have nd := sc_diff.nd
    rcases ha with ha | ha
    · refine ⟨_, pss_one (ps_ret (pe_and (pe_call I_ hr rfl gI kI bI .nil pass0 (pa_cons (pv 0) pa_nil))
        (pe_and (pe_callB (cr_all rfl) (by rfl) mAll (by decide +kernel) (pa_cons (pe_lc (own := [("item", 2)]) (g := gName 2) (tt := tYes) (te := tOp (rIn K false) (tVar 2) (tVar 1)) rfl nd (pi_list (pv 0)) (blkOk_by (own := [("item", 2)]) (N := nDiff) (sc := defScope p_are_different) (by decide +kernel))
            (fun _ _ _ _ _ => pg_name (i := 2) nd rfl (Or.inl rfl)) (fun _ _ _ _ _ => pts_nil) (fun _ _ _ _ _ => pe_cmpR op_in_seq (pv 2) (pv 1) rfl)) pa_nil))
          (pe_one (pe_cmpR op_eq (pe_callB cr_lenX (by rfl) mLen PySem.boot_len (pa_cons (pe_callTy (cr_setX rfl) (by rfl) mSet (by decide +kernel) (pa_cons (pv 0) pa_nil)) pa_nil)) (pe_callB call_len (by rfl) mLen PySem.boot_len (pa_cons (pv 0) pa_nil)) (nomark _)))))), ?_⟩
      refine ⟨.ref a, rfl, a, _, rfl, .inl ha, fun H1 e1 => ⟨true, rfl, ?_⟩⟩
      refine iteT ?_
      refine ⟨.ref a, rfl, a, rfl, ⟨_, Evl.ex_l e1 ha⟩, fun D hD => lc_trues (Evl.ex_l e1 ha) hD (by rw [List.length_map]; omega) (fun i x H2 Q1 R hi e2 go => ?_) (fun H2 e2 d2 => ?_)⟩
      · obtain ⟨z, hz, rfl⟩ := str_at hi
        refine ⟨rfl, ?_⟩
        refine yes_if ?_
        refine ⟨.str z, rfl, .ref n, rfl, n, zs.map V.str, rfl, (hn.ex (e1.trans e2)).sq, rfl, flat_strs zs, ?_⟩
        rw [inV_str, decide_eq_true (hsub z (List.mem_of_getElem? hz))]
        exact go _ (Evl.Ex.refl _)
      · refine ⟨D, _, rfl, Evl.sq_of d2, ?_⟩
        rw [all_trues]
        refine ⟨true, rfl, ?_⟩
        refine iteT ?_
        have e12 := e1.trans e2
        refine ⟨.ref a, rfl, a, ss, rfl, .inl (Evl.ex_l e12 ha), by omega, fun p hp => ?_⟩
        have e3 := Evl.Ex.new (o := SetXO w p (seen ss)) hp
        refine ⟨p, seen ss, rfl, upd_same, .ref a, rfl, .ref a, (ss.map V.str).length, rfl, .inl ⟨_, Evl.ex_l (e12.trans e3) ha, rfl⟩, rfl, ?_⟩
        rw [seen_len hnd, List.length_map, decide_eq_true rfl]
        exact k _ (e12.trans e3)
    · refine ⟨_, pss_one (ps_ret (pe_and (pe_call I_ hr rfl gI kI bI .nil pass0 (pa_cons (pv 0) pa_nil))
        (pe_and (pe_callB (cr_all rfl) (by rfl) mAll (by decide +kernel) (pa_cons (pe_lc (own := [("item", 2)]) (g := gName 2) (tt := tYes) (te := tOp (rIn K false) (tVar 2) (tVar 1)) rfl nd (pi_tup (pv 0)) (blkOk_by (own := [("item", 2)]) (N := nDiff) (sc := defScope p_are_different) (by decide +kernel))
            (fun _ _ _ _ _ => pg_name (i := 2) nd rfl (Or.inl rfl)) (fun _ _ _ _ _ => pts_nil) (fun _ _ _ _ _ => pe_cmpR op_in_seq (pv 2) (pv 1) rfl)) pa_nil))
          (pe_one (pe_cmpR op_eq (pe_callB cr_lenX (by rfl) mLen PySem.boot_len (pa_cons (pe_callTy (cr_setX rfl) (by rfl) mSet (by decide +kernel) (pa_cons (pv 0) pa_nil)) pa_nil)) (pe_callB call_len (by rfl) mLen PySem.boot_len (pa_cons (pv 0) pa_nil)) (nomark _)))))), ?_⟩
      refine ⟨.ref a, rfl, a, _, rfl, .inr ha, fun H1 e1 => ⟨true, rfl, ?_⟩⟩
      refine iteT ?_
      refine ⟨.ref a, rfl, a, rfl, ⟨_, Evl.ex_t e1 ha⟩, fun D hD => lc_truesT (Evl.ex_t e1 ha) hD (by rw [List.length_map]; omega) (fun i x H2 Q1 R hi e2 go => ?_) (fun H2 e2 d2 => ?_)⟩
      · obtain ⟨z, hz, rfl⟩ := str_at hi
        refine ⟨rfl, ?_⟩
        refine yes_if ?_
        refine ⟨.str z, rfl, .ref n, rfl, n, zs.map V.str, rfl, (hn.ex (e1.trans e2)).sq, rfl, flat_strs zs, ?_⟩
        rw [inV_str, decide_eq_true (hsub z (List.mem_of_getElem? hz))]
        exact go _ (Evl.Ex.refl _)
      · refine ⟨D, _, rfl, Evl.sq_of d2, ?_⟩
        rw [all_trues]
        refine ⟨true, rfl, ?_⟩
        refine iteT ?_
        have e12 := e1.trans e2
        refine ⟨.ref a, rfl, a, ss, rfl, .inr (Evl.ex_t e12 ha), by omega, fun p hp => ?_⟩
        have e3 := Evl.Ex.new (o := SetXO w p (seen ss)) hp
        refine ⟨p, seen ss, rfl, upd_same, .ref a, rfl, .ref a, (ss.map V.str).length, rfl, .inr ⟨_, Evl.ex_t (e12.trans e3) ha, rfl⟩, rfl, ?_⟩
        rw [seen_len hnd, List.length_map, decide_eq_true rfl]
        exact k _ (e12.trans e3)
/-! ### are_nodes -/
def spNodes : Sp := fun vs H Q _ => ∃ (a b : Addr) (zs es : List Str), vs = [.ref a, .ref b] ∧ H a = some (.lst (zs.map V.str)) ∧ H b = some (.lst (es.map V.str)) ∧ 1 ≤ zs.length ∧ zs.length ≤ 6 ∧ (∀ z ∈ zs, Nm z ∧ z ∉ es) ∧ ∀ H', Evl.Ex H H' → Q (.bl true) H'
abbrev nNodes : List Str := ["names", "goals", "name"]
theorem sc_nodes : FnScope nNodes ["names", "goals"] (defScope p_are_nodes) := ⟨rfl, rfl, rfl, by decide +kernel, rfl, by decide +kernel, by decide +kernel⟩
theorem ok_nodes {f fI : Addr} {fd fdI : FuncData} {tk : Tok} (F : Fun K "are_nodes" "are_nodes" p_are_nodes f fd) (I_ : FnOk P w K mg base CX0 1 fI fdI ["value"] spIsName) (kI : PySem.W.keepIn K (.ref fI) = true) (bI : Binds K fdI ["value"] []) (gI : mg "is_name" = some (.ref fI))
    (mLen : mg "len" = none) (mAll : mg "all" = none) (mMost : mg "MOST_NODES" = some (.int 6 tk)) : FnOk P w K mg base CX0 2 f fd ["names", "goals"] spNodes := by
  refine F.ok sc_nodes (fun vs H Q E h => ?_) (fun cdv A outer s H vs Q E hr h => ?_)
  · obtain ⟨a, b, zs, es, rfl, _⟩ := h
    rfl
  · obtain ⟨a, b, zs, es, rfl, ha, hb, h1, h6, hz, k⟩ := h
    have nd := sc_nodes.nd
    refine ⟨_, pss_one (ps_ret (pe_and (pe_chain op_le op_le pe_int (pe_callB call_len (by rfl) mLen PySem.boot_len (pa_cons (pv 0) pa_nil)) (pe_glob (v := .int 6) (by rfl) mMost ⟨_, rfl⟩))
      (pe_one (pe_callB (cr_all rfl) (by rfl) mAll (by decide +kernel) (pa_cons (pe_lc (own := [("name", 2)]) (g := gName 2) (tt := tYes) (te := tAndV (tCall spIsName [] E0 (tCons (tVar 2) tNil)) (tOp (rIn K true) (tVar 2) (tVar 1))) rfl nd (pi_list (pv 0)) (blkOk_by (own := [("name", 2)]) (N := nNodes) (sc := defScope p_are_nodes) (by decide +kernel))
          (fun _ _ _ _ _ => pg_name (i := 2) nd rfl (Or.inl rfl)) (fun _ _ _ _ _ => pts_nil) (fun _ _ _ _ _ => pe_and (pe_call I_ hr rfl gI kI bI .nil pass0 (pa_cons (pv 2) pa_nil)) (pe_one (pe_cmpR op_notIn_seq (pv 2) (pv 1) rfl)))) pa_nil))))), ?_⟩
    refine ⟨.ref a, rfl, .ref a, (zs.map V.str).length, rfl, .inl ⟨_, Evl.sq_of ha, rfl⟩, 1, ((zs.map V.str).length : Int), rfl, rfl, true, congrArg V.bl (decide_eq_true (show (1 : Int) ≤ ((zs.map V.str).length : Int) by rw [List.length_map]; omega)), ?_⟩
    refine iteT ?_
    refine ⟨_, 6, rfl, rfl, true, congrArg V.bl (decide_eq_true (show ((zs.map V.str).length : Int) ≤ 6 by rw [List.length_map]; omega)), ?_⟩
    refine iteT ?_
    refine ⟨.ref a, rfl, a, rfl, ⟨_, Evl.sq_of ha⟩, fun D hD => lc_trues (Evl.sq_of ha) hD (by rw [List.length_map]; omega) (fun i x H2 Q1 R hi e2 go => ?_) (fun H2 e2 d2 => ?_)⟩
    · obtain ⟨z, hz', rfl⟩ := str_at hi
      have hh := hz z (List.mem_of_getElem? hz')
      refine ⟨rfl, ?_⟩
      refine yes_if ?_
      refine ⟨.str z, rfl, z, rfl, hh.1, fun H3 e3 => ⟨true, rfl, ?_⟩⟩
      refine iteT ?_
      refine ⟨.str z, rfl, .ref b, rfl, b, es.map V.str, rfl, .inl (Evl.sq_of ((e2.trans e3) _ _ hb)), rfl, flat_strs es, ?_⟩
      rw [inV_str, decide_eq_false hh.2]
      exact go _ e3
    · refine ⟨D, _, rfl, Evl.sq_of d2, ?_⟩
      rw [all_trues]
      exact k _ e2
/-! ### is_pair_of_dicts -/
def spPairD : Sp := fun vs H Q _ => ∃ (p po pn : Addr) (k1 k2 : List (Key × V)), vs = [.ref p] ∧ H p = some (.tup [.ref po, .ref pn]) ∧ H po = some (.dK k1) ∧ H pn = some (.dK k2) ∧ ∀ H', Evl.Ex H H' → Q (.bl true) H'
abbrev nPairD : List Str := ["value", "part"]
theorem sc_pairD : FnScope nPairD ["value"] (defScope p_is_pair_of_dicts) := ⟨rfl, rfl, rfl, by decide +kernel, rfl, by decide +kernel, by decide +kernel⟩
theorem ok_pairD {f : Addr} {fd : FuncData} (F : Fun K "is_pair_of_dicts" "is_pair_of_dicts" p_is_pair_of_dicts f fd) (mIsi : mg "isinstance" = none) (mTup : mg "tuple" = none) (mDict : mg "dict" = none) (mLen : mg "len" = none) (mAll : mg "all" = none) : FnOk P w K mg base CX0 1 f fd ["value"] spPairD := by
  refine F.ok sc_pairD (fun vs H Q E h => ?_) (fun cdv A outer s H vs Q E hr h => ?_)
  · obtain ⟨p, po, pn, k1, k2, rfl, _⟩ := h
    rfl
  · obtain ⟨p, po, pn, k1, k2, rfl, hp, ho, hn, k⟩ := h
    have nd := sc_pairD.nd
    refine ⟨_, pss_one (ps_ret (pe_and (pe_callB call_isi (by rfl) mIsi (by decide +kernel) (pa_cons (pv 0) (pa_cons (pe_bltn (v := .ty "tuple") (by rfl) mTup (by decide +kernel) rfl) pa_nil)))
      (pe_and (pe_cmpR op_eq (pe_callB call_len (by rfl) mLen PySem.boot_len (pa_cons (pv 0) pa_nil)) pe_int (nomark _))
        (pe_one (pe_callB (cr_all rfl) (by rfl) mAll (by decide +kernel) (pa_cons (pe_lc (own := [("part", 1)]) (g := gName 1) (tt := tYes) (te := tCB (rIsi K) (tCons (tVar 1) (tCons (tC (.ty "dict")) tNil))) rfl nd (pi_tup (pv 0)) (blkOk_by (own := [("part", 1)]) (N := nPairD) (sc := defScope p_is_pair_of_dicts) (by decide +kernel))
          (fun _ _ _ _ _ => pg_name (i := 1) nd rfl (Or.inl rfl)) (fun _ _ _ _ _ => pts_nil) (fun _ _ _ _ _ => pe_callB call_isi (by rfl) mIsi (by decide +kernel) (pa_cons (pv 1) (pa_cons (pe_bltn (v := .ty "dict") (by rfl) mDict (by decide +kernel) rfl) pa_nil)))) pa_nil)))))), ?_⟩
    refine ⟨.ref p, rfl, .ref p, .ty "tuple", _, _, true, rfl, .ty _, .base (.tup hp), kit_ty (by decide +kernel), true, rfl, ?_⟩
    refine iteT ?_
    refine ⟨.ref p, rfl, .ref p, 2, rfl, .inr ⟨_, Evl.st_of hp, rfl⟩, rfl, true, rfl, ?_⟩
    refine iteT ?_
    refine ⟨.ref p, rfl, p, rfl, ⟨_, Evl.st_of hp⟩, fun D hD => lc_truesT (Evl.st_of hp) hD (by show 2 < 1000; decide) (fun i x H2 Q1 R hi e2 go => ?_) (fun H2 e2 d2 => ?_)⟩
    · refine ⟨rfl, ?_⟩
      refine yes_if ?_
      match i, hi with
      | 0, hi =>
        cases hi
        exact ⟨.ref po, rfl, .ref po, .ty "dict", _, _, true, rfl, .ty _, .base (.dK (e2 _ _ ho)), kit_ty (by decide +kernel), go _ (Evl.Ex.refl _)⟩
      | 1, hi =>
        cases hi
        exact ⟨.ref pn, rfl, .ref pn, .ty "dict", _, _, true, rfl, .ty _, .base (.dK (e2 _ _ hn)), kit_ty (by decide +kernel), go _ (Evl.Ex.refl _)⟩
      | n + 2, hi => simp at hi
    · refine ⟨D, _, rfl, Evl.sq_of d2, ?_⟩
      rw [all_trues]
      exact k _ e2
end
end Rw
end T_P3

section T_P4
set_option Elab.async false
set_option linter.all false
set_option maxRecDepth 100000
set_option maxHeartbeats 4000000
namespace Rw
open PySem L2 PyProof.Rows
section
variable {P : Program} {w : World} {K : PySem.W.Frag} {mg : Str → Option Value} {base : Heap}
/-! ### are_tables -/
def spTables : Sp := fun vs H Q _ => ∃ (t : Addr) (ends dots : List Str) (rows : List (Str × V)), vs = [.ref t] ∧ H t = some (.dK (tkv rows)) ∧ rows.map (·.1) = ends ∧ RowsOk H dots rows ∧ 0 < ends.length ∧ ends.length ≤ 2 ∧ (∀ z ∈ ends, Nm z) ∧
  0 < dots.length ∧ dots.length ≤ 6 ∧ (∀ z ∈ dots, Nm z ∧ z ∉ ends) ∧ ∀ H', Evl.Ex H H' → Q (.bl true) H'
abbrev nTables : List Str := ["value", "goals", "nodes", "goal", "table"]
theorem sc_tables : FnScope nTables ["value"] (defScope p_are_tables) := ⟨rfl, rfl, rfl, by decide +kernel, rfl, by decide +kernel, by decide +kernel⟩
theorem ok_tables {f f1 f2 f3 f4 : Addr} {fd fd1 fd2 fd3 fd4 : FuncData} {tk : Tok} (F : Fun K "are_tables" "are_tables" p_are_tables f fd)
    (F1 : FnOk P w K mg base CX0 1 f1 fd1 ["value"] spIsName) (k1 : PySem.W.keepIn K (.ref f1) = true) (b1 : Binds K fd1 ["value"] []) (g1 : mg "is_name" = some (.ref f1))
    (F2 : FnOk P w K mg base CX0 1 f2 fd2 ["value"] spPairD) (k2 : PySem.W.keepIn K (.ref f2) = true) (b2 : Binds K fd2 ["value"] []) (g2 : mg "is_pair_of_dicts" = some (.ref f2))
    (F3 : FnOk P w K mg base CX0 2 f3 fd3 ["names", "goals"] spNodes) (k3 : PySem.W.keepIn K (.ref f3) = true) (b3 : Binds K fd3 ["names", "goals"] []) (g3 : mg "are_nodes" = some (.ref f3))
    (F4 : FnOk P w K mg base CX0 2 f4 fd4 ["table", "nodes", "goal"] spTable) (k4 : PySem.W.keepIn K (.ref f4) = true) (b4 : Binds K fd4 ["table", "nodes", "goal"] []) (g4 : mg "is_table" = some (.ref f4))
    (mIsi : mg "isinstance" = none) (mDict : mg "dict" = none) (mList : mg "list" = none) (mLen : mg "len" = none) (mAll : mg "all" = none) (mMost : mg "MOST_GOALS" = some (.int 2 tk)) :
    FnOk P w K mg base CX0 3 f fd ["value"] spTables := by
  refine F.ok sc_tables (fun vs H Q E h => ?_) (fun cdv A outer s H vs Q E hr h => ?_)
  · obtain ⟨t, ends, dots, rows, rfl, _⟩ := h
    rfl
  · obtain ⟨t, ends, dots, rows, rfl, ht, hk, hro, e0, e2, he, d0, d6, hd, k⟩ := h
    have nd := sc_tables.nd
    have hu := hu_of hr
    have hr1 : Room 1 _ := hr.mono (by decide)
    refine ⟨_, pss_cons (ps_if (PW.pt (pw_or (pt_not (pt_val (pe_callB call_isi (by rfl) mIsi (by decide +kernel) (pa_cons (pv 0) (pa_cons (pe_bltn (v := .ty "dict") (by rfl) mDict (by decide +kernel) rfl) pa_nil)))))
          (pw_or1 (pt_not (pt_chain op_le op_le pe_int (pe_callB call_lenD (by rfl) mLen PySem.boot_len (pa_cons (pv 0) pa_nil)) (pe_glob (v := .int 2) (by rfl) mMost ⟨_, rfl⟩)))))) (pss_one (ps_ret pe_bl)) pss_nil)
      (pss_cons (ps_if (pt_not (pt_val (pe_callB (cr_all rfl) (by rfl) mAll (by decide +kernel) (pa_cons (pe_lock (pe_lc (own := [("goal", 3)]) (g := gName 3) (tt := tYes) (te := tAndV (tCall spIsName [] E0 (tCons (tVar 3) tNil)) (tCall spPairD [] E0 (tCons (tDGet (tVar 0) (tVar 3)) tNil))) rfl nd (pi_keys (pv 0)) (blkOk_by (own := [("goal", 3)]) (N := nTables) (sc := defScope p_are_tables) (by decide +kernel))
          (fun _ _ _ _ _ => pg_name (i := 3) nd rfl (Or.inl rfl)) (fun _ _ _ _ _ => pts_nil) (fun _ _ _ _ _ => pe_and (pe_call F1 hr1 rfl g1 k1 b1 .nil pass0 (pa_cons (pv 3) pa_nil)) (pe_one (pe_call F2 hr1 rfl g2 k2 b2 .nil pass0 (pa_cons (pe_dget hu (pv 0) (pv 3) (fun _ _ => rfl)) pa_nil)))))) pa_nil)))) (pss_one (ps_ret pe_bl)) pss_nil)
      (pss_cons (ps_set (i := 1) nd rfl (.inl rfl) (pe_callTy (call_listD rfl) (by rfl) mList (by decide +kernel) (pa_cons (pv 0) pa_nil)))
      (pss_cons (ps_set (i := 2) nd rfl (.inr rfl) (pe_callTy (call_listD rfl) (by rfl) mList (by decide +kernel) (pa_cons (pe_ix ix_tup (pe_dget hu (pv 0) (pe_ix ix_list (pv 1) pe_int (fun _ _ => rfl)) (fun _ _ => rfl)) pe_int (fun _ _ => rfl)) pa_nil)))
      (pss_cons (ps_if (pt_not (pt_val (pe_call F3 hr rfl g3 k3 b3 .nil pass0 (pa_cons (pv 2) (pa_cons (pv 1) pa_nil))))) (pss_one (ps_ret pe_bl)) pss_nil)
      (pss_one (ps_ret (pe_callB (cr_all rfl) (by rfl) mAll (by decide +kernel) (pa_cons
        (pe_lc2 (own := [("goal", 3), ("table", 4)]) (vs1 := [4]) (g := gName 3) (tt := tYes) (g1 := gName 4) (tt1 := tYes) (wi1 := iTup K (tDGet (tVar 0) (tVar 3))) (te := tCall spTable [] E0 (tCons (tVar 4) (tCons (tVar 2) (tCons (tVar 3) tNil)))) rfl nd (pi_list (pv 1)) (blkOk_by (own := [("goal", 3), ("table", 4)]) (N := nTables) (sc := defScope p_are_tables) (by decide +kernel)) (by decide)
          (fun _ _ _ _ _ => pg_name (i := 3) nd rfl (Or.inl rfl)) (fun _ _ _ _ _ => pts_nil) (fun _ _ _ _ _ => pi_tup (pe_dget hu (pv 0) (pv 3) (fun _ _ => rfl))) (fun _ _ _ _ _ => pg_name (i := 4) nd rfl (Or.inl rfl)) (fun _ _ _ _ _ => pts_nil)
          (fun _ _ _ _ _ => pe_call F4 hr rfl g4 k4 b4 .nil pass0 (pa_cons (pv 4) (pa_cons (pv 2) (pa_cons (pv 3) pa_nil))))) pa_nil)))))))), ?_⟩
    have rl : rows.length = ends.length := by rw [← hk, List.length_map]
    have rne : rows ≠ [] := fun z => by rw [z] at rl; simp at rl; omega
    have tl : (tkv rows).length = ends.length := by rw [tkv_len, rl]
    -- a row by its goal, where t may be locked
    have row : ∀ z ∈ ends, ∃ (p po pn : Addr) (t1 t2 : List (Str × V)), valV (tkv rows) (Sum.inr z) = some (.ref p) ∧ PairAt H dots z p po pn t1 t2 ∧ p ≠ t ∧ po ≠ t ∧ pn ≠ t := fun z hz => by
      obtain ⟨v, hv1, hv2⟩ := tkv_some (tb := rows) (z := z) (by rw [hk]; exact hz)
      obtain ⟨p, po, pn, t1, t2, e1, pa⟩ := hro _ hv2
      have e1' : v = .ref p := e1
      subst e1'
      exact ⟨p, po, pn, t1, t2, hv1, pa, ne_of pa.hp ht (by intro z; cases z), tab_ne ht hro rne pa.ho pa.o1, tab_ne ht hro rne pa.hn pa.o2⟩
    -- if not isinstance(value, dict) or not ..
    refine ⟨.ref t, rfl, .ref t, .ty "dict", _, _, true, rfl, .ty _, .base (.dK ht), kit_ty (by decide +kernel), true, rfl, ?_⟩
    refine ⟨.ref t, rfl, t, _, rfl, ht, 1, ((tkv rows).length : Int), rfl, rfl, true, congrArg V.bl (decide_eq_true (show (1 : Int) ≤ ((tkv rows).length : Int) by omega)), ?_⟩
    refine ⟨_, 2, rfl, rfl, true, congrArg V.bl (decide_eq_true (show ((tkv rows).length : Int) ≤ 2 by omega)), ?_⟩
    -- if not all([.. for goal in value])
    refine ⟨t, .dK (tkv rows), ht, trivial, fun od => ⟨.ref t, rfl, t, od, rfl, .inl ⟨tkv rows, upd_same, fun D hD => lc_truesW (Yx := fun i x => ∃ k v, (tkv rows)[i]? = some (k, v) ∧ x = kV k) walk_keys (fun H1 e1 => e1 _ _ upd_same) hD (by omega) (fun i x H1 Q1 R hi hx e1 go => ?_) (fun H1 e1 d1 => ?_)⟩⟩⟩
    · obtain ⟨kk, v, hkv, rfl⟩ := hx
      obtain ⟨z, rfl, hz⟩ : ∃ z : Str, kk = Sum.inr z ∧ z ∈ ends := by
        unfold tkv at hkv
        rw [List.getElem?_map] at hkv
        cases q : rows[i]? with
        | none => rw [q] at hkv; cases hkv
        | some q' =>
          rw [q] at hkv
          have := congrArg Prod.fst (Option.some.inj hkv)
          refine ⟨q'.1, this.symm, ?_⟩
          rw [← hk]
          exact List.mem_map_of_mem (List.mem_of_getElem? q)
      obtain ⟨p, po, pn, t1, t2, hv, pa, n1, n2, n3⟩ := row z hz
      refine ⟨rfl, ?_⟩
      refine yes_if ?_
      refine ⟨.str z, rfl, z, rfl, he z hz, fun H2 e2' => ⟨true, rfl, ?_⟩⟩
      refine iteT ?_
      have e12 := e1.trans e2'
      have gt : DGet H2 t (.str z) (some (.ref p)) := .inl ⟨tkv rows, Sum.inr z, .inr ⟨od, e12 _ _ upd_same⟩, rfl, hv.symm⟩
      have up : ∀ {a : Addr} {o : HO}, H a = some o → a ≠ t → H2 a = some o := fun {a o} h ne => e12 _ _ (by rw [upd_ne ne]; exact h)
      exact ⟨.ref t, rfl, .str z, rfl, t, .ref p, rfl, gt, p, po, pn, _, _, rfl, up pa.hp n1, up pa.ho n2, up pa.hn n3, fun H3 e3 => go H3 (e2'.trans e3)⟩
    · have ft : H1 t = some (.frz od (.dK (tkv rows))) := e1 _ _ upd_same
      have nDt : D ≠ t := (ne_of_none (show (upd H t (.frz od (.dK (tkv rows)))) t = some _ from upd_same) hD).symm
      refine ⟨ft, ?_⟩
      have x1 : Evl.Ex H (upd H1 t (.dK (tkv rows))) := fun a o h => by
        by_cases e : a = t
        · subst e
          rw [upd_same, ← ht, h]
        · rw [upd_ne e]
          exact e1 _ _ (by rw [upd_ne e]; exact h)
      have d2 : (upd H1 t (.dK (tkv rows))) D = some (.lst ((List.replicate (tkv rows).length true).map V.bl)) := by rw [upd_ne nDt]; exact d1
      generalize upd H1 t (.dK (tkv rows)) = H2 at x1 d2
      refine ⟨D, _, rfl, Evl.sq_of d2, ?_⟩
      rw [all_trues]
      refine ⟨true, rfl, ?_⟩
      -- goals = list(value)
      refine ⟨.ref t, rfl, t, _, rfl, .inl (x1 _ _ ht), fun gl hgl => ?_⟩
      rw [tkv_keysV, hk]
      have x2 : Evl.Ex H (upd H2 gl (.lst (ends.map V.str))) := x1.trans (Evl.Ex.new hgl)
      have eg : (upd H2 gl (.lst (ends.map V.str))) gl = some (.lst (ends.map V.str)) := upd_same
      generalize upd H2 gl (.lst (ends.map V.str)) = H3 at x2 eg
      -- nodes = list(value[goals[0]][0])
      obtain ⟨z0, r0, ez0⟩ : ∃ z0 r0, ends = z0 :: r0 := by
        cases q : ends with
        | nil => rw [q] at e0; simp at e0
        | cons z0 r0 => exact ⟨z0, r0, rfl⟩
      obtain ⟨p, po, pn, t1, t2, hv, pa, n1, n2, n3⟩ := row z0 (by rw [ez0]; exact List.mem_cons_self)
      have at0 : (ends.map V.str)[0]? = some (.str z0) := by rw [ez0]; rfl
      have dg : ∀ {Hx : Hp} {z : Str} {p : Addr}, Evl.Ex H Hx → valV (tkv rows) (Sum.inr z) = some (.ref p) → DGet Hx t (.str z) (some (.ref p)) := fun {Hx z p} x hv => by
        have q := DGet.k (k := Sum.inr z) (x _ _ ht)
        rw [hv] at q
        exact q
      refine ⟨.ref t, rfl, .ref gl, rfl, gl, _, 0, .str z0, rfl, rfl, Evl.sq_of eg, atI_nat (j := 0) at0, t, .ref p, rfl, dg x2 hv, p, _, 0, .ref po, rfl, rfl, Evl.st_of (x2 _ _ pa.hp), atI_nat (j := 0) rfl, po, _, rfl, .inl (x2 _ _ pa.ho), fun nl hnl => ?_⟩
      rw [tkv_keysV]
      have x3 : Evl.Ex H3 (upd H3 nl (.lst ((t1.map (·.1)).map V.str))) := Evl.Ex.new hnl
      have en : (upd H3 nl (.lst ((t1.map (·.1)).map V.str))) nl = some (.lst ((t1.map (·.1)).map V.str)) := upd_same
      generalize upd H3 nl (.lst ((t1.map (·.1)).map V.str)) = H4 at x3 en
      have pk := pa.o1.ks
      -- if not are_nodes(nodes, goals)
      refine ⟨.ref nl, rfl, .ref gl, rfl, nl, gl, t1.map (·.1), ends, rfl, en, x3 _ _ eg, by rw [pk.length_eq]; omega, by rw [pk.length_eq]; exact d6, fun z hz => hd z (pk.subset hz), fun H5 x4 => ⟨true, rfl, ?_⟩⟩
      have x5 : Evl.Ex H H5 := (x2.trans x3).trans x4
      have en5 := x4 _ _ en
      have eg5 := (x3.trans x4) _ _ eg
      -- the tables
      refine ⟨.ref gl, rfl, gl, rfl, ⟨_, Evl.sq_of eg5⟩, fun D2 hD2 => ⟨fun i m H6 => m = ends.length - i ∧ i ≤ ends.length ∧ Evl.Ex H5 H6 ∧ ∃ n, n ≤ 2 * i ∧ H6 D2 = some (.lst ((List.replicate n true).map V.bl)), ⟨ends.length, rfl, Nat.zero_le _, Evl.Ex.new hD2, 0, Nat.le_refl _, upd_same⟩, ?_⟩⟩
      rintro i m H6 ⟨rfl, hi, x6, n, hn, d6'⟩
      by_cases hlt : i < ends.length
      · have gi : (ends.map V.str)[i]? = some (.str ends[i]) := by rw [List.getElem?_map, List.getElem?_eq_getElem hlt]; rfl
        refine .inr ⟨⟨_, _, Evl.sq_of (x6 _ _ eg5), gi⟩, fun H' => i + 1 ≤ ends.length ∧ Evl.Ex H5 H' ∧ ∃ n, n ≤ 2 * (i + 1) ∧ H' D2 = some (.lst ((List.replicate n true).map V.bl)), fun H' h => ⟨ends.length - (i + 1), by omega, rfl, h⟩, fun x H' hy => ?_⟩
        obtain ⟨rfl, fv⟩ := hy
        have ex : x = .str ends[i] := Option.some.inj ((fv _ (Evl.sq_of (x6 _ _ eg5))).symm.trans gi)
        subst ex
        obtain ⟨p2, po2, pn2, t3, t4, hv2, pa2, m1, m2, m3⟩ := row ends[i] (List.getElem_mem hlt)
        have pa6 := pa2.ex x5
        refine ⟨rfl, ?_⟩
        refine yes_if ?_
        refine ⟨.ref t, rfl, .str ends[i], rfl, t, .ref p2, rfl, dg (x5.trans x6) hv2, p2, rfl, ⟨_, Evl.st_of (x6 _ _ pa6.hp)⟩, fun j k' H7 => k' = 2 - j ∧ j ≤ 2 ∧ Evl.Ex H5 H7 ∧ ∃ n, n ≤ 2 * i + j ∧ H7 D2 = some (.lst ((List.replicate n true).map V.bl)), ⟨2, rfl, Nat.zero_le _, x6, n, hn, d6'⟩, ?_⟩
        rintro j k' H7 ⟨rfl, hj, x7, n', hn', d7⟩
        by_cases hjl : j < 2
        · obtain ⟨tt, tbx, gj, htx, otx⟩ : ∃ (tt : Addr) (tbx : List (Str × V)), ([V.ref po2, V.ref pn2] : List V)[j]? = some (.ref tt) ∧ H7 tt = some (.dK (tkv tbx)) ∧ TabOk dots ends[i] tbx := by
            match j, hjl with
            | 0, _ => exact ⟨po2, t3, rfl, x7 _ _ pa6.ho, pa6.o1⟩
            | 1, _ => exact ⟨pn2, t4, rfl, x7 _ _ pa6.hn, pa6.o2⟩
          refine .inr ⟨⟨_, _, Evl.st_of (x7 _ _ pa6.hp), gj⟩, fun H8 => j + 1 ≤ 2 ∧ Evl.Ex H5 H8 ∧ ∃ n, n ≤ 2 * i + (j + 1) ∧ H8 D2 = some (.lst ((List.replicate n true).map V.bl)), fun H8 h => ⟨2 - (j + 1), by omega, rfl, h⟩, fun x H8 hy => ?_⟩
          obtain ⟨rfl, fv2⟩ := hy
          have ex2 : x = .ref tt := Option.some.inj ((fv2 _ (Evl.st_of (x7 _ _ pa6.hp))).symm.trans gj)
          subst ex2
          refine ⟨rfl, ?_⟩
          refine yes_if ?_
          refine ⟨.ref tt, rfl, .ref nl, rfl, .str ends[i], rfl, tt, nl, ends[i], t1.map (·.1), tbx, rfl, htx, x7 _ _ en5, otx.perm pk.symm, by rw [pk.length_eq]; omega, fun H9 x9 => ?_⟩
          refine ⟨_, x9 _ _ d7, by rw [List.length_map, List.length_replicate]; exact small1000 (by omega), by omega, (x7.trans x9).mut hD2, n' + 1, by omega, ?_⟩
          · rw [upd_same, List.replicate_succ', List.map_append]
            rfl
        · refine .inl ⟨⟨_, Evl.st_of (x7 _ _ pa6.hp), by show 2 ≤ j; omega⟩, by omega, x7, n', by omega, d7⟩
      · refine .inl ⟨⟨_, Evl.sq_of (x6 _ _ eg5), by rw [List.length_map]; omega⟩, D2, _, rfl, Evl.sq_of d6', ?_⟩
        rw [all_trues]
        exact k _ (x5.trans x6)
end
end Rw
end T_P4

section T_N1
set_option Elab.async false
set_option linter.all false
set_option maxRecDepth 100000
set_option maxHeartbeats 4000000
namespace Rw
open PySem L2 PyProof.Rows
section
variable {P : Program} {w : World} {K : PySem.W.Frag} {mg : Str → Option Value} {base : Heap}
abbrev nInit : List Str := ["self", "tables", "sources", "posts", "first_old", "_", "nodes", "goal", "old", "new", "node"]
theorem sc_init : FnScope nInit ["self", "tables", "sources", "posts"] (defScope c_Net_init) := ⟨rfl, rfl, rfl, by decide +kernel, rfl, by decide +kernel, by decide +kernel⟩
theorem ok_init {f f1 f2 C : Addr} {fd fd1 fd2 : FuncData} {tk : Tok} {dvs : List V} (F : FunD K "__init__" "Net.__init__" (defArgs c_Net_init) (defBody c_Net_init) (defScope c_Net_init) dvs [] f fd) (T : NetTxt K C)
    (F1 : FnOk P w K mg base CX0 3 f1 fd1 ["value"] spTables) (k1 : PySem.W.keepIn K (.ref f1) = true) (b1 : Binds K fd1 ["value"] []) (g1 : mg "are_tables" = some (.ref f1))
    (F2 : FnOk P w K mg base CX0 2 f2 fd2 ["value", "nodes"] (spDiff K)) (k2 : PySem.W.keepIn K (.ref f2) = true) (b2 : Binds K fd2 ["value", "nodes"] []) (g2 : mg "are_different" = some (.ref f2))
    (mList : mg "list" = none) (mTup : mg "tuple" = none) (mSorted : mg "sorted" = none) (mLen : mg "len" = none) (mMost : mg "MOST_POSTS" = some (.int 2 tk)) :
    FnOk P w K mg base CX0 4 f fd ["self", "tables", "sources", "posts"] (spInit C) := by
  refine F.ok sc_init (fun vs H Q E h => ?_) (fun cdv A outer s H vs Q E hr h => ?_)
  · obtain ⟨Hb, m, dx, t, s, p, ends, dots, ss, ps, rows, o, n, rfl, _⟩ := h
    rfl
  · obtain ⟨Hb, m, dx, t, s', p, ends, dots, ss, ps, rows, o, n, rfl, hm0, x0, hm, ht, hk, hro, hra, hs, hp, ok, k⟩ := h
    have nd := sc_init.nd
    have hu := hu_of hr
    have hr2 : Room 2 _ := hr.mono (by decide)
    refine ⟨_, PSs.nox (pss_cons (ps_if (pt_not (pt_val (pe_call F1 hr rfl g1 k1 b1 .nil pass0 (pa_cons (pv 1) pa_nil)))) (pss_one ps_never) pss_nil)
      (pss_cons (ps_asg (pe_ix ix_list (pe_listVals rfl (pv 1) (by rfl) mList) pe_int (fun _ _ => rfl)) (pg_tup rfl (pgs_cons (pg_name (i := 4) nd rfl (.inl rfl)) (pgs_cons (pg_name (i := 5) nd rfl (.inl rfl)) pgs_nil))))
      (pss_cons (ps_set (i := 6) nd rfl (.inl rfl) (pe_callTy call_tuple_of (by rfl) mTup (by decide +kernel) (pa_cons (pe_callB (call_sortedD rfl) (by rfl) mSorted (by decide +kernel) (pa_cons (pv 4) pa_nil)) pa_nil)))
      (pss_cons (ps_if (pt_not (pt_val (pe_call F2 hr2 rfl g2 k2 b2 .nil pass0 (pa_cons (pv 2) (pa_cons (pv 6) pa_nil))))) (pss_one ps_never) pss_nil)
      (pss_cons (ps_if (PW.pt (pw_or (pt_not (pt_val (pe_call F2 hr2 rfl g2 k2 b2 .nil pass0 (pa_cons (pv 3) (pa_cons (pv 6) pa_nil))))) (pw_or1 (pt_cmpR op_gt (pe_callB call_len (by rfl) mLen PySem.boot_len (pa_cons (pv 3) pa_nil)) (pe_glob (v := .int 2) (by rfl) mMost ⟨_, rfl⟩) (nomark _))))) (pss_one ps_never) pss_nil)
      (pss_cons (ps_fld (pv 0) pe_dnewK rfl)
      (pss_cons (ps_for PassesOwn.never rfl (pi_list (pe_callB (call_sortedD rfl) (by rfl) mSorted (by decide +kernel) (pa_cons (pv 1) pa_nil))) (pg_name (i := 7) nd rfl (.inl rfl))
        (pss_cons (ps_asg (pe_dget hu (pv 1) (pv 7) (fun _ _ => rfl)) (pg_tup rfl (pgs_cons (pg_name (i := 8) nd rfl (.inr rfl)) (pgs_cons (pg_name (i := 9) nd rfl (.inr rfl)) pgs_nil))))
        (pss_one (ps_dput hu (pe_fld (pv 0) rfl) (pv 7) (pe_tup (pa_cons
            (pe_dc (own := [("node", 10)]) (g := gName 10) (tt := tYes) (tk := tVar 10) (tv := tDGet (tVar 8) (tVar 10)) rfl nd (pi_tup (pv 6)) (blkOk_by (own := [("node", 10)]) (N := nInit) (sc := defScope c_Net_init) (by decide +kernel)) (fun _ _ _ _ _ => pg_name (i := 10) nd rfl (Or.inl rfl)) (fun _ _ _ _ _ => pts_nil) (fun _ _ _ _ _ => pv 10) (fun _ _ _ _ _ => pe_dget hu (pv 8) (pv 10) (fun _ _ => rfl)))
            (pa_cons (pe_dc (own := [("node", 10)]) (g := gName 10) (tt := tYes) (tk := tVar 10) (tv := tDGet (tVar 9) (tVar 10)) rfl nd (pi_tup (pv 6)) (blkOk_by (own := [("node", 10)]) (N := nInit) (sc := defScope c_Net_init) (by decide +kernel)) (fun _ _ _ _ _ => pg_name (i := 10) nd rfl (Or.inl rfl)) (fun _ _ _ _ _ => pts_nil) (fun _ _ _ _ _ => pv 10) (fun _ _ _ _ _ => pe_dget hu (pv 9) (pv 10) (fun _ _ => rfl))) pa_nil))) rfl))))
      (pss_cons (ps_fld (pv 0) (pv 6) rfl)
      (pss_cons (ps_fld (pv 0) (pe_callTy call_tuple_of (by rfl) mTup (by decide +kernel) (pa_cons (pe_callB cr_sortedLU (by rfl) mSorted (by decide +kernel) (pa_cons (pv 2) pa_nil)) pa_nil)) rfl)
      (pss_one (ps_fld (pv 0) (pe_callTy call_tuple_of (by rfl) mTup (by decide +kernel) (pa_cons (pv 3) pa_nil)) rfl))))))))))), ?_⟩
    have rl : rows.length = ends.length := by rw [← hk.length_eq, List.length_map]
    have rne : rows ≠ [] := fun z => by
      have := ok.e0
      rw [z] at rl
      simp at rl
      omega
    have d6 := ok.d6
    have e2 := ok.e2
    -- if not are_tables(tables)
    refine ⟨.ref t, rfl, t, rows.map (·.1), dots, rows, rfl, x0 _ _ ht, rfl, hro.ex x0, by rw [hk.length_eq]; exact ok.e0, by rw [hk.length_eq]; exact ok.e2, fun z hz => ok.em z (hk.mem_iff.mp hz), ok.d0, ok.d6, fun z hz => ⟨ok.dm z hz, fun he => ok.ed z (hk.mem_iff.mp he) hz⟩, fun H1 x1 => ⟨true, rfl, ?_⟩⟩
    have y1 := x0.trans x1
    have hm1 := x1 _ _ hm
    -- first_old, _ = list(tables.values())[0]
    refine ⟨.ref t, rfl, t, tkv rows, rfl, .inl (y1 _ _ ht), fun l hl => ?_⟩
    obtain ⟨q0, r0, er⟩ : ∃ q0 r0, rows = q0 :: r0 := by
      cases q : rows with
      | nil => exact absurd q rne
      | cons q0 r0 => exact ⟨q0, r0, rfl⟩
    obtain ⟨p0, po0, pn0, t1, t2, eq0, pa0⟩ := hro q0 (by rw [er]; exact List.mem_cons_self)
    have at0 : ((tkv rows).map (·.2))[0]? = some (.ref p0) := by rw [er, ← eq0]; rfl
    have x2 : Evl.Ex H1 (upd H1 l (.lst ((tkv rows).map (·.2)))) := Evl.Ex.new hl
    have el : (upd H1 l (.lst ((tkv rows).map (·.2)))) l = some (.lst ((tkv rows).map (·.2))) := upd_same
    generalize upd H1 l (.lst ((tkv rows).map (·.2))) = H2 at x2 el
    have y2 := y1.trans x2
    refine ⟨l, _, 0, .ref p0, rfl, rfl, Evl.sq_of el, atI_nat (j := 0) at0, p0, _, rfl, Evl.st_of (y2 _ _ pa0.hp), rfl, _, _, rfl, _, [], rfl, rfl, ?_⟩
    -- nodes = tuple(sorted(first_old))
    refine ⟨.ref po0, rfl, po0, tkv t1, t1.map (·.1), rfl, .inl (y2 _ _ pa0.ho), ?_, ?_, fun ys sl hys hsort hsl => ⟨sl, ys.map V.str, rfl, .inl ⟨Evl.sq_of upd_same, fun N hN => ?_⟩⟩⟩
    · unfold tkv
      rw [List.map_map, List.map_map]
      rfl
    · rw [pa0.o1.ks.length_eq]
      omega
    have eys : ys = dots := sorted_uniq hsort ok.ds (hys.trans pa0.o1.ks)
    subst eys
    have x3 : Evl.Ex H2 (upd (upd H2 sl (.lst (ys.map V.str))) N (.tup (ys.map V.str))) := (Evl.Ex.new hsl).trans (Evl.Ex.new hN)
    have eN : (upd (upd H2 sl (.lst (ys.map V.str))) N (.tup (ys.map V.str))) N = some (.tup (ys.map V.str)) := upd_same
    have fN : Hb N = none := by
      cases q : Hb N with
      | none => rfl
      | some o => rw [Evl.Ex.new hsl _ _ (y2 _ _ q)] at hN; cases hN
    generalize upd (upd H2 sl (.lst (ys.map V.str))) N (.tup (ys.map V.str)) = H3 at x3 eN
    have y3 := y2.trans x3
    have lss : ss.length ≤ ys.length := nodup_le ss ys ok.sn ok.sd
    have lps : ps.length ≤ ys.length := nodup_le ps ys ok.pn ok.pd
    -- if not are_different(sources, nodes)
    refine ⟨.ref s', rfl, .ref N, rfl, s', N, ss, ys, rfl, (hs.ex y3).k, .inr (Evl.st_of eN), ok.sn, ok.sd, by omega, fun H4 x4 => ⟨true, rfl, ?_⟩⟩
    have y4 := y3.trans x4
    -- if not are_different(posts, nodes) or ..
    refine ⟨.ref p, rfl, .ref N, rfl, p, N, ps, ys, rfl, (hp.ex y4).k, .inr (Evl.st_of (x4 _ _ eN)), ok.pn, ok.pd, by omega, fun H5 x5 => ⟨true, rfl, ?_⟩⟩
    have y5 := y4.trans x5
    have hp2 := ok.p2
    refine ⟨.ref p, rfl, .ref p, (ps.map V.str).length, rfl, (hp.ex y5).elim (fun q => .inl ⟨_, Evl.sq_of q, rfl⟩) (fun q => .inr ⟨_, Evl.st_of q, rfl⟩), ((ps.map V.str).length : Int), 2, rfl, rfl, false, congrArg V.bl (decide_eq_false (show ¬ (2 : Int) < ((ps.map V.str).length : Int) by rw [List.length_map]; omega)), ?_⟩
    have hm5 : H5 m = some (.ins C dx []) := (((x2.trans x3).trans x4).trans x5) _ _ hm1
    have eN5 : H5 N = some (.tup (ys.map V.str)) := (x4.trans x5) _ _ eN
    -- self._tables = {}
    refine fun T' hT => ⟨.ref m, rfl, m, C, dx, [], rfl, Evl.Ex.new hT _ _ hm5, T.cl, T.nT, by decide, ?_⟩
    rw [nf1]
    have nTm : T' ≠ m := (ne_of_none hm5 hT).symm
    have nNm : N ≠ m := ne_of eN5 hm5 (by intro z; cases z)
    have fT : Hb T' = none := by
      cases q : Hb T' with
      | none => rfl
      | some o => rw [y5 _ _ q] at hT; cases hT
    have y6 : Evl.Ex Hb (upd (upd H5 T' (.dK [])) m (.ins C dx [("_tables", .ref T')])) := (y5.trans (Evl.Ex.new hT)).mut hm0
    have hm6 : (upd (upd H5 T' (.dK [])) m (.ins C dx [("_tables", .ref T')])) m = some (.ins C dx [("_tables", .ref T')]) := upd_same
    have hT6 : (upd (upd H5 T' (.dK [])) m (.ins C dx [("_tables", .ref T')])) T' = some (.dK (tkv [])) := by rw [upd_ne nTm, upd_same]; rfl
    have hN6 : (upd (upd H5 T' (.dK [])) m (.ins C dx [("_tables", .ref T')])) N = some (.tup (ys.map V.str)) := by rw [upd_ne nNm]; exact Evl.Ex.new hT _ _ eN5
    generalize upd (upd H5 T' (.dK [])) m (.ins C dx [("_tables", .ref T')]) = H6 at y6 hm6 hT6 hN6
    -- for goal in sorted(tables)
    refine ⟨.ref t, rfl, t, tkv rows, rows.map (·.1), rfl, .inl (y6 _ _ ht), ?_, by rw [hk.length_eq]; omega, fun ys2 gl hys2 hsort2 hgl => ⟨gl, rfl, ⟨_, Evl.sq_of upd_same⟩, ?_⟩⟩
    · unfold tkv
      rw [List.map_map, List.map_map]
      rfl
    have eys2 : ys2 = ends := sorted_uniq hsort2 ok.es (hys2.trans hk)
    subst eys2
    have x7 : Evl.Ex H6 (upd H6 gl (.lst (ys2.map V.str))) := Evl.Ex.new hgl
    refine for_list (K := K) (a := gl) (xs := ys2.map V.str)
      (fun i σ H' => ∃ (x7 x8 x9 : Option V) (nr : List (Str × V)), σ = [some (.ref m), some (.ref t), some (.ref s'), some (.ref p), some (.ref po0), some (.ref pn0), some (.ref N), x7, x8, x9, none] ∧ nr.map (·.1) = ys2.take i ∧
        (∀ e ∈ ys2.take i, ∃ q qo qn : Addr, valV (tkv nr) (Sum.inr e) = some (.ref q) ∧ PairAt H' ys e q qo qn (canon ys (o e)) (canon ys (n e)) ∧ Hb q = none ∧ Hb qo = none ∧ Hb qn = none ∧ qo ≠ T' ∧ qn ≠ T') ∧
        H' m = some (.ins C dx [("_tables", .ref T')]) ∧ H' T' = some (.dK (tkv nr)) ∧ H' N = some (.tup (ys.map V.str)) ∧ H' gl = some (.lst (ys2.map V.str)) ∧ Evl.Ex Hb H')
      ⟨none, none, none, [], rfl, rfl, (fun e he => by cases he), x7 _ _ hm6, x7 _ _ hT6, x7 _ _ hN6, upd_same, y6.trans x7⟩ (fun i σ H' _ ⟨_, _, _, _, _, _, _, _, _, _, h, _⟩ => Evl.sq_of h) ?_ ?_
    · rintro i x σ H7 hi ⟨x7', x8', x9', nr, rfl, hnr, hpr, hm7, hT7, hN7, hg7, y7⟩
      obtain ⟨z, hz, rfl⟩ := str_at hi
      have hil : i < ys2.length := (List.getElem?_eq_some_iff.mp hz).1
      have hzm := List.mem_of_getElem? hz
      have etake : ys2.take (i + 1) = ys2.take i ++ [z] := by rw [List.take_add_one, hz]; rfl
      have zn : z ∉ ys2.take i := fun hm => by
        have h1 : (ys2.take (i + 1)).Nodup := ok.en.sublist (List.take_sublist _ _)
        rw [etake] at h1
        exact (List.nodup_append.mp h1).2.2 z hm z (List.mem_singleton.mpr rfl) rfl
      obtain ⟨p1, po1, pn1, hv1, pa1⟩ := hra z hzm
      have gt : DGet H7 t (.str z) (some (.ref p1)) := by
        have q := DGet.k (k := Sum.inr z) (y7 _ _ ht)
        rw [hv1] at q
        exact q
      -- old, new = tables[goal]
      refine ⟨.ref t, rfl, .str z, rfl, t, .ref p1, rfl, gt, p1, _, rfl, Evl.st_of (y7 _ _ pa1.hp), rfl, _, _, rfl, _, [], rfl, rfl, ?_⟩
      -- the two new dicts
      refine ⟨.ref N, rfl, N, rfl, ⟨_, Evl.st_of hN7⟩, fun D1 hD1 => dc_canon (e := z) hN7 (y7 _ _ pa1.ho) pa1.o1 ok.dn (by omega) hD1 (fun _ => rfl) (fun _ => rfl) (fun _ => rfl) ?_⟩
      have w1 : Evl.Ex H7 (upd H7 D1 (.dK (tkv (canon ys (o z))))) := Evl.Ex.new hD1
      have d1 : (upd H7 D1 (.dK (tkv (canon ys (o z))))) D1 = some (.dK (tkv (canon ys (o z)))) := upd_same
      have fr : ∀ {a : Addr}, H7 a = none → Hb a = none := fun {a} h => by
        cases q : Hb a with
        | none => rfl
        | some o => rw [y7 _ _ q] at h; cases h
      have fD1 := fr hD1
      have nD1 : D1 ≠ T' := (ne_of_none hT7 hD1).symm
      generalize upd H7 D1 (.dK (tkv (canon ys (o z)))) = H8 at w1 d1
      refine ⟨.ref N, rfl, N, rfl, ⟨_, Evl.st_of (w1 _ _ hN7)⟩, fun D2 hD2 => dc_canon (e := z) (w1 _ _ hN7) (w1 _ _ (y7 _ _ pa1.hn)) pa1.o2 ok.dn (by omega) hD2 (fun _ => rfl) (fun _ => rfl) (fun _ => rfl) ?_⟩
      have w2 : Evl.Ex H8 (upd H8 D2 (.dK (tkv (canon ys (n z))))) := Evl.Ex.new hD2
      have d2 : (upd H8 D2 (.dK (tkv (canon ys (n z))))) D2 = some (.dK (tkv (canon ys (n z)))) := upd_same
      have fr8 : ∀ {a : Addr}, H8 a = none → Hb a = none := fun {a} h => by
        cases q : Hb a with
        | none => rfl
        | some o => rw [w1 _ _ (y7 _ _ q)] at h; cases h
      have fD2 := fr8 hD2
      have nD2 : D2 ≠ T' := (ne_of_none (w1 _ _ hT7) hD2).symm
      generalize upd H8 D2 (.dK (tkv (canon ys (n z)))) = H9 at w2 d2
      have w12 := w1.trans w2
      refine ⟨by show 2 ≤ sizeLine; decide, fun q hq => ?_⟩
      have w3 : Evl.Ex H9 (upd H9 q (.tup [.ref D1, .ref D2])) := Evl.Ex.new hq
      have d3 : (upd H9 q (.tup [.ref D1, .ref D2])) q = some (.tup [.ref D1, .ref D2]) := upd_same
      have fq : Hb q = none := by
        cases q' : Hb q with
        | none => rfl
        | some o => rw [w12 _ _ (y7 _ _ q')] at hq; cases hq
      generalize upd H9 q (.tup [.ref D1, .ref D2]) = H10 at w3 d3
      have w := w12.trans w3
      have hT10 := w _ _ hT7
      have nrl : nr.length ≤ 2 := by
        have := congrArg List.length hnr
        rw [List.length_map, List.length_take] at this
        omega
      refine ⟨.ref m, rfl, m, C, dx, _, _, rfl, w _ _ hm7, T.cl, T.nT, nf1_get T', .str z, rfl, T', _, rfl, DPut.k (k := Sum.inr z) hT10 (by rw [tkv_len]; exact small1000 (by omega)), ?_⟩
      rw [tkv_new (by rw [hnr]; exact zn)]
      have keep : ∀ {a : Addr} {u : HO}, H10 a = some u → a ≠ T' → (upd H10 T' (.dK (tkv (nr ++ [(z, V.ref q)])))) a = some u := fun {a u} h ne => by rw [upd_ne ne]; exact h
      have mT : m ≠ T' := nTm.symm
      have gT : gl ≠ T' := ne_of hg7 hT7 (by intro z; cases z)
      have NT : N ≠ T' := ne_of hN7 hT7 (by intro z; cases z)
      refine ⟨_, _, _, nr ++ [(z, .ref q)], rfl, ?_, ?_, keep (w _ _ hm7) mT, upd_same, keep (w _ _ hN7) NT, keep (w _ _ hg7) gT, (y7.trans w).mut fT⟩
      · rw [List.map_append, hnr, etake]
        rfl
      · intro e he
        rw [etake] at he
        have vget : ∀ e', valV (tkv (nr ++ [(z, V.ref q)])) (Sum.inr e') = if (Sum.inr e' : Key) = Sum.inr z then some (.ref q) else valV (tkv nr) (Sum.inr e') := fun e' => by
          have h1 := tkv_none (tb := nr) (z := z) (by rw [hnr]; exact zn)
          have h2 := valV_snoc (Sum.inr z : Key) (Sum.inr e') (V.ref q) (tkv nr) h1
          unfold tkv at h2 ⊢
          rw [List.map_append]
          exact h2
        rcases List.mem_append.mp he with he | he
        · obtain ⟨q', qo, qn, v1, pa, f1, f2, f3, n2, n3⟩ := hpr e he
          have ne : e ≠ z := fun w => zn (w ▸ he)
          have pw := pa.ex w
          refine ⟨q', qo, qn, by rw [vget, if_neg (fun w => ne (Sum.inr.inj w))]; exact v1, ⟨keep pw.hp (ne_of pw.hp hT10 (by intro z; cases z)), keep pw.ho n2, keep pw.hn n3, pw.o1, pw.o2⟩, f1, f2, f3, n2, n3⟩
        · rw [List.mem_singleton.mp he]
          refine ⟨q, D1, D2, by rw [vget, if_pos rfl], ⟨keep d3 (ne_of d3 hT10 (by intro z; cases z)), keep (w3 _ _ (w2 _ _ d1)) nD1, keep (w3 _ _ d2) nD2, canon_ok pa1.o1, canon_ok pa1.o2⟩, fq, fD1, fD2, nD1, nD2⟩
    · rintro σ H7 ⟨x7', x8', x9', nr, rfl, hnr, hpr, hm7, hT7, hN7, hg7, y7⟩
      rw [List.length_map, List.take_length] at hnr hpr
      -- self._nodes = nodes
      refine ⟨.ref N, rfl, .ref m, rfl, m, C, dx, _, rfl, hm7, T.cl, T.nN, by show 1 < 1000; decide, ?_⟩
      rw [nf2]
      have up : ∀ {Hx : Hp} {a : Addr} {u v : HO}, Hx a = some u → a ≠ m → (upd Hx m v) a = some u := fun {Hx a u v} h ne => by rw [upd_ne ne]; exact h
      have y8 : Evl.Ex Hb (upd H7 m (.ins C dx [("_tables", .ref T'), ("_nodes", .ref N)])) := y7.mut hm0
      -- self._sources = tuple(sorted(sources))
      refine ⟨.ref s', rfl, s', ss, rfl, (hs.ex y8).k, by omega, fun ys3 sl3 hys3 hsort3 hsl3 => ⟨sl3, ys3.map V.str, rfl, .inl ⟨Evl.sq_of upd_same, fun S hS => ?_⟩⟩⟩
      have eys3 : ys3 = ss := sorted_uniq hsort3 ok.sss hys3
      subst eys3
      have w4 : Evl.Ex (upd H7 m (.ins C dx [("_tables", .ref T'), ("_nodes", .ref N)])) (upd (upd (upd H7 m (.ins C dx [("_tables", .ref T'), ("_nodes", .ref N)])) sl3 (.lst (ys3.map V.str))) S (.tup (ys3.map V.str))) := (Evl.Ex.new hsl3).trans (Evl.Ex.new hS)
      have hS8 : (upd (upd (upd H7 m (.ins C dx [("_tables", .ref T'), ("_nodes", .ref N)])) sl3 (.lst (ys3.map V.str))) S (.tup (ys3.map V.str))) S = some (.tup (ys3.map V.str)) := upd_same
      have fS : Hb S = none := by
        cases q : Hb S with
        | none => rfl
        | some o => rw [Evl.Ex.new hsl3 _ _ (y8 _ _ q)] at hS; cases hS
      have hm8 := w4 _ _ upd_same
      have old8 : ∀ {a : Addr} {u : HO}, H7 a = some u → a ≠ m → (upd (upd (upd H7 m (.ins C dx [("_tables", .ref T'), ("_nodes", .ref N)])) sl3 (.lst (ys3.map V.str))) S (.tup (ys3.map V.str))) a = some u := fun {a u} h ne => w4 _ _ (up h ne)
      have y9 := y8.trans w4
      generalize upd (upd (upd H7 m (.ins C dx [("_tables", .ref T'), ("_nodes", .ref N)])) sl3 (.lst (ys3.map V.str))) S (.tup (ys3.map V.str)) = H9 at hS8 hm8 old8 y9
      have nSm : S ≠ m := ne_of hS8 hm8 (by intro z; cases z)
      refine ⟨.ref m, rfl, m, C, dx, _, rfl, hm8, T.cl, T.nS, by show 2 < 1000; decide, ?_⟩
      rw [nf3]
      have y10 : Evl.Ex Hb (upd H9 m (.ins C dx [("_tables", .ref T'), ("_nodes", .ref N), ("_sources", .ref S)])) := y9.mut hm0
      -- self._posts = tuple(posts)
      have last : ∀ (Po : Addr) (H11 : Hp), Evl.Ex (upd H9 m (.ins C dx [("_tables", .ref T'), ("_nodes", .ref N), ("_sources", .ref S)])) H11 → H11 Po = some (.tup (ps.map V.str)) → (Hb Po = none ∨ (Po = p ∧ Hb p = some (.tup (ps.map V.str)))) →
          H11 m = some (.ins C dx [("_tables", .ref T'), ("_nodes", .ref N), ("_sources", .ref S)]) ∧ Q .non (upd H11 m (.ins C dx (nflds T' N S Po))) := by
        intro Po H11 w5 hP10 src
        have hm10 := w5 _ _ upd_same
        have old10 : ∀ {a : Addr} {u : HO}, H9 a = some u → a ≠ m → H11 a = some u := fun {a u} h ne => w5 _ _ (up h ne)
        have y11 := y10.trans w5
        have nPm : Po ≠ m := ne_of hP10 hm10 (by intro z; cases z)
        refine ⟨hm10, ?_⟩
        have y12 : Evl.Ex Hb (upd H11 m (.ins C dx (nflds T' N S Po))) := y11.mut hm0
        have fin : ∀ {a : Addr} {u : HO}, H7 a = some u → a ≠ m → Hb a = none → rest Hb (upd H11 m (.ins C dx (nflds T' N S Po))) a = some u := fun {a u} h ne f => rest_of f (up (old10 (old8 h ne) ne) ne)
        refine k _ y12 fun Hz xz pz => ⟨dx, T', N, S, Po, nr, xz _ _ (rest_of hm0 upd_same), xz _ _ (fin hT7 nTm fT), xz _ _ (fin hN7 nNm fN), xz _ _ (rest_of fS (up (old10 hS8 nSm) nSm)), ?_, hnr, fun e he => ?_⟩
        · rcases src with f | ⟨rfl, f⟩
          · exact xz _ _ (rest_of f (up hP10 nPm))
          · exact pz f
        · obtain ⟨q, qo, qn, v1, pa, f1, f2, f3, n2, n3⟩ := hpr e he
          exact ⟨q, qo, qn, v1, ⟨xz _ _ (fin pa.hp (ne_of pa.hp hm7 (by intro z; cases z)) f1), xz _ _ (fin pa.ho (ne_of pa.ho hm7 (by intro z; cases z)) f2), xz _ _ (fin pa.hn (ne_of pa.hn hm7 (by intro z; cases z)) f3), pa.o1, pa.o2⟩⟩
      rcases hp with hp | hp
      · refine ⟨.ref p, rfl, p, ps.map V.str, rfl, .inl ⟨Evl.sq_of (y10 _ _ hp), fun Po hPo => ?_⟩⟩
        have fP : Hb Po = none := by
          cases q : Hb Po with
          | none => rfl
          | some o => rw [y10 _ _ q] at hPo; cases hPo
        obtain ⟨h1, h2⟩ := last Po _ (Evl.Ex.new hPo) upd_same (.inl fP)
        refine ⟨.ref m, rfl, m, C, dx, _, rfl, h1, T.cl, T.nP, by show 3 < 1000; decide, ?_⟩
        rw [nf4]
        exact h2
      · refine ⟨.ref p, rfl, p, ps.map V.str, rfl, .inr ⟨Evl.st_of (y10 _ _ hp), ?_⟩⟩
        obtain ⟨h1, h2⟩ := last p _ (Evl.Ex.refl _) (y10 _ _ hp) (.inr ⟨rfl, hp⟩)
        refine ⟨.ref m, rfl, m, C, dx, _, rfl, h1, T.cl, T.nP, by show 3 < 1000; decide, ?_⟩
        rw [nf4]
        exact h2
end
end Rw
end T_N1

section T_D1
set_option Elab.async false
set_option linter.all false
set_option maxRecDepth 100000
set_option maxHeartbeats 4000000
namespace Rw
open PySem L2 PyProof.Rows
section
variable {P : Program} {w : World} {K : PySem.W.Frag} {mg : Str → Option Value} {base : Heap}
theorem sc_blend : FnScope ["draw", "turn", "found", "prime", "blend", "cell"] ["draw"] (defScope s_blend) := ⟨rfl, rfl, rfl, by decide +kernel, rfl, by decide +kernel, by decide +kernel⟩
theorem ok_blend {f : Addr} {fd : FuncData} (F : Fun K "_law_blend" "_law_blend" s_blend f fd) (mInt : mg "int" = none) : FnOk P w K mg base CX0 1 f fd ["draw"] spBlend := by
  refine F.ok sc_blend (fun vs H Q E h => ?_) (fun cdv A outer s H vs Q E hr h => ?_)
  · obtain ⟨d, g, c, rfl, _⟩ := h
    rfl
  · obtain ⟨d, g, c, rfl, D, k⟩ := h
    have hu := hu_of hr
    have nd := sc_blend.nd
    refine ⟨_, pss_cons (ps_set (i := 1) nd rfl (.inl rfl) (pe_op op_add (pe_dget hu (pv 0) pe_str (fun _ _ => rfl)) pe_int))
      (pss_cons (ps_dput hu (pv 0) pe_str (pv 1) rfl)
      (pss_cons (ps_set (i := 2) nd rfl (.inl rfl) pe_int)
      (pss_cons (ps_for PassesOwn.never rfl (pi_list (pe_lst (pa_cons pe_int (pa_cons pe_int (pa_cons pe_int (pa_cons pe_int pa_nil)))))) (pg_name (i := 3) nd rfl (.inl rfl))
        (pss_cons (ps_set (i := 4) nd rfl (.inl rfl) (pe_op op_mod (pe_callTy call_int1 (by rfl) mInt boot_int (pa_cons (pe_op op_add (pe_op op_mul (pv 1) pe_int) (pe_op op_fdiv (pv 3) pe_int)) pa_nil)) (pv 3)))
        (pss_cons (ps_for PassesOwn.never rfl (pi_list (pe_dget hu (pv 0) pe_str (fun _ _ => rfl))) (pg_name (i := 5) nd rfl (.inl rfl))
          (pss_one (ps_set (i := 4) nd rfl (.inl rfl) (pe_op op_mod (pe_callTy call_int1 (by rfl) mInt boot_int (pa_cons (pe_op op_add (pe_op op_mul (pv 4) pe_int) (pv 5)) pa_nil)) (pv 3)))))
        (pss_one (ps_set (i := 2) nd rfl (.inl rfl) (pe_op op_add (pe_op op_mul (pv 2) pe_int) (pe_op op_mod (pe_callTy call_int1 (by rfl) mInt boot_int (pa_cons (pe_op op_pow (pv 4) pe_int) pa_nil)) (pv 3))))))))
      (pss_one (ps_ret (pv 2)))))), ?_⟩
    obtain ⟨⟨r, t, hd⟩, ⟨gs, hg⟩, ⟨cs, hc⟩, ncg⟩ := id D
    have ndg : d ≠ g := ne_of hd hg (by intro z; cases z)
    have ndc : d ≠ c := ne_of hd hc (by intro z; cases z)
    -- turn = draw['turn'] + 1
    refine ⟨.ref d, rfl, d, _, rfl, by have := DGet.k (k := Sum.inr "turn") hd; rw [dkv_turn] at this; exact this, t, 1, rfl, rfl, ?_⟩
    -- draw['turn'] = turn
    refine ⟨_, rfl, _, rfl, d, _, rfl, DPut.k (k := Sum.inr "turn") hd (by show 4 < sizeLine; decide), ?_⟩
    rw [dkv_put_turn]
    have hc1 : SqL K (upd H d (.dK (dkv g c r (t + 1)))) c (cs.map V.int) := .inl (.inl (by rw [upd_ne ndc.symm]; exact hc))
    have hd1 : (upd H d (.dK (dkv g c r (t + 1)))) d = some (.dK (dkv g c r (t + 1))) := upd_same
    generalize hH1 : upd H d (.dK (dkv g c r (t + 1))) = H1 at hc1 hd1 ⊢
    have kp : ∀ a o, H a = some o → a ≠ d → H1 a = some o := fun a o e ne => by rw [← hH1, upd_ne ne]; exact e
    -- found = 0; the primes
    refine ⟨by show 4 ≤ sizeLine; decide, fun p hp => ?_⟩
    have npd : d ≠ p := ne_of_none hd1 hp
    have hp2 : (upd H1 p (.lst ([2147483629, 2147483587, 2147483579, 2147483563].map V.int))) p = some (.lst ([2147483629, 2147483587, 2147483579, 2147483563].map V.int)) := upd_same
    have hd2 : (upd H1 p (.lst ([2147483629, 2147483587, 2147483579, 2147483563].map V.int))) d = some (.dK (dkv g c r (t + 1))) := by rw [upd_ne npd]; exact hd1
    have s12 : Same H1 (upd H1 p (.lst ([2147483629, 2147483587, 2147483579, 2147483563].map V.int))) := fun b o e => by rw [upd_ne (ne_of_none e hp)]; exact e
    refine ⟨p, rfl, ⟨_, .inl (.inl hp2)⟩, for_list (K := K) (a := p) (xs := [2147483629, 2147483587, 2147483579, 2147483563].map V.int)
      (fun i σ H2 => H2 = upd H1 p (.lst ([2147483629, 2147483587, 2147483579, 2147483563].map V.int)) ∧ ∃ (fo : Int) (x3 x4 x5 : Option V), σ = [some (.ref d), some (.int (t + 1)), some (.int fo), x3, x4, x5])
      ⟨rfl, 0, none, none, none, rfl⟩ (fun i σ H2 _ h => h.1 ▸ .inl (.inl hp2)) ?_ ?_⟩
    · rintro i x σ H2 hi ⟨rfl, fo, x3, x4, x5, rfl⟩
      obtain ⟨q, rfl, hq0, hq1⟩ : ∃ q : Int, x = .int q ∧ 0 < q ∧ q < 2147483648 := by
        match i, hi with
        | 0, hi => exact ⟨_, (Option.some.inj hi).symm, by decide, by decide⟩
        | 1, hi => exact ⟨_, (Option.some.inj hi).symm, by decide, by decide⟩
        | 2, hi => exact ⟨_, (Option.some.inj hi).symm, by decide, by decide⟩
        | 3, hi => exact ⟨_, (Option.some.inj hi).symm, by decide, by decide⟩
        | n + 4, hi => exact absurd hi (by simp)
      refine ⟨_, rfl, t + 1, 69621, rfl, rfl, .inr ⟨by decide, by decide⟩, _, rfl, q, 7, rfl, rfl, ⟨by decide, by decide⟩, _, _, rfl, rfl, .inl ⟨_, rfl, ?_⟩⟩
      refine ⟨_, rfl, _, q, rfl, rfl, hq0, ?_⟩
      -- the cells
      refine ⟨.ref d, rfl, d, _, rfl, by have := DGet.k (k := Sum.inr "cells") hd2; rw [dkv_cells] at this; exact this, c, rfl, ⟨_, s12.seq hc1⟩, for_list (K := K) (a := c) (xs := cs.map V.int)
        (fun j σ H3 => H3 = upd H1 p (.lst ([2147483629, 2147483587, 2147483579, 2147483563].map V.int)) ∧ ∃ (bl : Int) (x5 : Option V), 0 ≤ bl ∧ bl < q ∧ σ = [some (.ref d), some (.int (t + 1)), some (.int fo), some (.int q), some (.int bl), x5])
        ⟨rfl, _, x5, Int.emod_nonneg _ (by omega), Int.emod_lt_of_pos _ hq0, rfl⟩ (fun j σ H3 _ h => h.1 ▸ s12.seq hc1) ?_ ?_⟩
      · rintro j y σ H3 hj ⟨rfl, bl, x5', hb0, hb1, rfl⟩
        obtain ⟨z, rfl⟩ : ∃ z, y = V.int z := by
          rw [List.getElem?_map] at hj
          cases e : cs[j]? with
          | none => rw [e] at hj; cases hj
          | some z => rw [e] at hj; exact ⟨z, (Option.some.inj hj).symm⟩
        refine ⟨_, rfl, bl, 48271, rfl, rfl, .inr ⟨by decide, by decide⟩, _, rfl, _, z, rfl, rfl, .inl ⟨_, rfl, ?_⟩⟩
        refine ⟨_, rfl, _, q, rfl, rfl, hq0, ?_⟩
        exact ⟨rfl, _, _, Int.emod_nonneg _ (by omega), Int.emod_lt_of_pos _ hq0, rfl⟩
      · rintro σ H3 ⟨rfl, bl, x5', hb0, hb1, rfl⟩
        refine ⟨_, rfl, fo, 2147483647, rfl, rfl, .inr ⟨by decide, by decide⟩, _, rfl, bl, 5, rfl, rfl, ⟨by decide, by decide, by omega⟩, .inl ⟨_, rfl, ?_⟩⟩
        refine ⟨_, rfl, _, q, rfl, rfl, hq0, _, _, rfl, rfl, ?_⟩
        exact ⟨rfl, _, _, _, _, rfl⟩
    · rintro σ H2 ⟨rfl, fo, x3, x4, x5, rfl⟩
      refine ⟨_, rfl, k fo _ ⟨⟨r, t + 1, hd2⟩, ⟨gs, s12 _ _ (kp _ _ hg ndg.symm)⟩, ⟨cs, s12 _ _ (kp _ _ hc ndc.symm)⟩, ncg⟩ (fun a o e n1 _ => s12 _ _ (kp a o e n1))⟩
theorem sc_take : FnScope ["draw", "size", "found"] ["draw", "size"] (defScope s_take) := ⟨rfl, rfl, rfl, by decide +kernel, rfl, by decide +kernel, by decide +kernel⟩
theorem ok_take {f fB : Addr} {fd fdB : FuncData} (F : Fun K "_law_take" "_law_take" s_take f fd) (FB : Fun K "_law_blend" "_law_blend" s_blend fB fdB) (bB : Binds K fdB ["draw"] []) (gB : mg "_law_blend" = some (.ref fB)) (mInt : mg "int" = none) :
    FnOk P w K mg base CX0 2 f fd ["draw", "size"] spTake := by
  have GB : FnOk P w K mg base CX0 1 fB fdB ["draw"] spBlend := ok_blend FB mInt
  refine F.ok sc_take (fun vs H Q E h => ?_) (fun cdv A outer s H vs Q E hr h => ?_)
  · obtain ⟨d, g, c, n, rfl, _⟩ := h
    rfl
  · obtain ⟨d, g, c, n, rfl, hn0, hn1, D, k⟩ := h
    have hu := hu_of hr
    have nd := sc_take.nd
    refine ⟨_, C8.pss_cut (ps_if (PW.pt (pw_and (pt_cmpR op_eq (pe_dget hu (pv 0) pe_str (fun _ _ => rfl)) pe_int (nomark _)) (pw_and1 (pt_cmpR (op_neD hr.units) (pe_dget hu (pv 0) pe_str (fun _ _ => rfl)) (pe_lst pa_nil) (nomark _)))))
        (pss_one (ps_dput hu (pv 0) pe_str (pe_bm PySem.F.plainAttrs_list PySem.F.slot_list_pop PySem.F.type_list_pop mt_popAt (pe_dget hu (pv 0) pe_str (fun _ _ => rfl)) (pa_cons pe_int pa_nil)) rfl)) pss_nil)
      (C8.pss_cut (ps_if (pt_cmpR op_eq (pe_dget hu (pv 0) pe_str (fun _ _ => rfl)) pe_int (nomark _))
        (pss_one (ps_dput hu (pv 0) pe_str (pe_call GB hr rfl gB FB.kp bB .nil pass0 (pa_cons (pv 0) pa_nil)) rfl)) pss_nil)
      (pss_cons (ps_set (i := 2) nd rfl (.inl rfl) (pe_op op_mod (pe_callTy call_int1 (by rfl) mInt boot_int (pa_cons (pe_dget hu (pv 0) pe_str (fun _ _ => rfl)) pa_nil)) (pv 1)))
      (pss_cons (ps_dput hu (pv 0) pe_str (pe_op op_fdiv (pe_dget hu (pv 0) pe_str (fun _ _ => rfl)) (pv 1)) rfl)
      (pss_one (ps_ret (pv 2)))))), ?_⟩
    have gr : ∀ {H1 : Hp} {r t : Int}, H1 d = some (.dK (dkv g c r t)) → DGet H1 d (.str "rest") (some (.int r)) := fun {H1 r t} e => by
      have := DGet.k (k := Sum.inr "rest") e
      rw [dkv_rest] at this
      exact this
    have gg : ∀ {H1 : Hp} {r t : Int}, H1 d = some (.dK (dkv g c r t)) → DGet H1 d (.str "great") (some (.ref g)) := fun {H1 r t} e => by
      have := DGet.k (k := Sum.inr "great") e
      rw [dkv_great] at this
      exact this
    have pr : ∀ {H1 : Hp} {r t : Int} (x : Int), H1 d = some (.dK (dkv g c r t)) → DPut H1 d (.str "rest") (.int x) (upd H1 d (.dK (dkv g c x t))) := fun {H1 r t} x e => by
      have := DPut.k (k := Sum.inr "rest") (v := .int x) e (by show 4 < sizeLine; decide)
      rw [dkv_put_rest] at this
      exact this
    -- what is stored at d leaves the draws
    have st : ∀ {H1 : Hp} {r t : Int}, DrawAt H1 d g c → SameD d g H H1 → DrawAt (upd H1 d (.dK (dkv g c r t))) d g c ∧ SameD d g H (upd H1 d (.dK (dkv g c r t))) := fun {H1 r t} D1 S1 => by
      obtain ⟨⟨r', t', hd'⟩, ⟨gs', hg'⟩, ⟨cs', hc'⟩, ncg'⟩ := D1
      exact ⟨⟨⟨r, t, upd_same⟩, ⟨gs', by rw [upd_ne (ne_of hd' hg' (by intro z; cases z)).symm]; exact hg'⟩, ⟨cs', by rw [upd_ne (ne_of hd' hc' (by intro z; cases z)).symm]; exact hc'⟩, ncg'⟩, fun a o e n1 n2 => by rw [upd_ne n1]; exact S1 a o e n1 n2⟩
    have s0 : SameD d g H H := fun a o e _ _ => e
    obtain ⟨⟨r, t, hd⟩, ⟨gs, hg⟩, ⟨cs, hc⟩, ncg⟩ := id D
    have ndg : d ≠ g := ne_of hd hg (by intro z; cases z)
    -- if draw['rest'] == 0 and draw['great'] != []
    refine ⟨fun σ' H' => σ' = [some (.ref d), some (.int n), none] ∧ DrawAt H' d g c ∧ SameD d g H H', ?_, ?_⟩
    · refine ⟨.ref d, rfl, d, _, rfl, gr hd, rfl, _, rfl, ite2 (fun _ => ?_) (fun _ => ?_)⟩
      · refine ⟨.ref d, rfl, d, _, rfl, gg hd, Nat.zero_le _, fun p hp => ?_⟩
        have npg : g ≠ p := ne_of_none hg hp
        have npd : d ≠ p := ne_of_none hd hp
        have hg1 : (upd H p (.lst [])) g = some (.lst (gs.map V.int)) := by rw [upd_ne npg]; exact hg
        have hd1 : (upd H p (.lst [])) d = some (.dK (dkv g c r t)) := by rw [upd_ne npd]; exact hd
        have hc1 : (upd H p (.lst [])) c = some (.lst (cs.map V.int)) := by rw [upd_ne (ne_of_none hc hp)]; exact hc
        have S1 : SameD d g H (upd H p (.lst [])) := fun a o e _ _ => by rw [upd_ne (ne_of_none e hp)]; exact e
        have D1 : DrawAt (upd H p (.lst [])) d g c := ⟨⟨r, t, hd1⟩, ⟨gs, hg1⟩, ⟨cs, hc1⟩, ncg⟩
        refine ⟨_, _, .lst (.inl (.inl hg1)) (dp_ints gs), .lst (.inl (.inl upd_same)) .nil, shaped_ints gs, shaped_ints [], _, rfl, ?_⟩
        rw [eqv_nil]
        cases gs with
        | nil => exact ⟨rfl, D1, S1⟩
        | cons x gs =>
          refine iteT ?_
          generalize upd H p (.lst []) = H1 at hg1 hd1 hc1 S1 D1
          refine ⟨.ref d, rfl, d, _, rfl, gg hd1, .inl ⟨rfl, _, .inl (.inl hg1)⟩, g, _, 0, 0, .int x, rfl, rfl, hg1, by decide, by decide, ?_, rfl, .ref d, rfl, d, _, rfl, pr x (r := r) (t := t) (by rw [upd_ne ndg]; exact hd1), ?_⟩
          · simp [seqIndex?]
          · have D2 : DrawAt (upd H1 g (.lst (((x :: gs).map V.int).eraseIdx 0))) d g c := ⟨⟨r, t, by rw [upd_ne ndg]; exact hd1⟩, ⟨gs, upd_same⟩, ⟨cs, by
              rw [upd_ne (show c ≠ g from fun z => ncg z)]
              exact hc1⟩, ncg⟩
            have S2 : SameD d g H (upd H1 g (.lst (((x :: gs).map V.int).eraseIdx 0))) := fun a o e n1 n2 => by rw [upd_ne n2]; exact S1 a o e n1 n2
            have z := st (r := x) (t := t) D2 S2
            exact ⟨rfl, z.1, z.2⟩
      · exact ⟨rfl, D, s0⟩
    · rintro σ' H' ⟨rfl, D1, S1⟩
      obtain ⟨⟨r1, t1, hd1⟩, _, _⟩ := id D1
      -- if draw['rest'] == 0
      refine ⟨fun σ' H' => σ' = [some (.ref d), some (.int n), none] ∧ DrawAt H' d g c ∧ SameD d g H H', ?_, ?_⟩
      · refine ⟨.ref d, rfl, d, _, rfl, gr hd1, rfl, _, rfl, ite2 (fun _ => ?_) (fun _ => ⟨rfl, D1, S1⟩)⟩
        refine ⟨.ref d, rfl, d, g, c, rfl, D1, fun x H2 D2 S2 => ?_⟩
        obtain ⟨⟨r2, t2, hd2⟩, _, _⟩ := id D2
        have S3 : SameD d g H H2 := fun a o e n1 n2 => S2 a o (S1 a o e n1 n2) n1 n2
        have z := st (r := x) (t := t2) D2 S3
        exact ⟨.ref d, rfl, d, _, rfl, pr x hd2, rfl, z.1, z.2⟩
      · rintro σ' H2 ⟨rfl, D2, S2⟩
        obtain ⟨⟨r2, t2, hd2⟩, _, _⟩ := id D2
        refine ⟨.ref d, rfl, d, _, rfl, gr hd2, .inl ⟨r2, rfl, _, rfl, r2, n, rfl, rfl, hn0, ?_⟩⟩
        refine ⟨.ref d, rfl, d, _, rfl, gr hd2, _, rfl, r2, n, rfl, rfl, ⟨hn0, hn1⟩, .ref d, rfl, d, _, rfl, pr _ hd2, _, rfl, ?_⟩
        have z := st (r := r2 / n) (t := t2) D2 S2
        exact k _ _ (Int.emod_nonneg _ (by omega)) (Int.emod_lt_of_pos _ hn0) z.1 (off_same z.2)
theorem sc_pick : FnScope ["draw", "some"] ["draw", "some"] (defScope s_pick) := ⟨rfl, rfl, rfl, by decide +kernel, rfl, by decide +kernel, by decide +kernel⟩
theorem ok_pickL {f fT : Addr} {fd fdT : FuncData} (F : Fun K "_law_pick" "_law_pick" s_pick f fd) (T : FnOk P w K mg base CX0 2 fT fdT ["draw", "size"] spTake) (kT : PySem.W.keepIn K (.ref fT) = true) (bT : Binds K fdT ["draw", "size"] []) (gT : mg "_law_take" = some (.ref fT)) (mLen : mg "len" = none) :
    FnOk P w K mg base CX0 3 f fd ["draw", "some"] (spPickL K) := by
  refine F.ok sc_pick (fun vs H Q E h => ?_) (fun cdv A outer s H vs Q E hr h => ?_)
  · obtain ⟨d, g, c, a, xs, rfl, _⟩ := h
    rfl
  · obtain ⟨d, g, c, a, xs, rfl, D, hS, h0, h1, k⟩ := h
    refine ⟨_, pss_one (ps_ret (pe_ix ix_list (pv 1) (pe_call T hr rfl gT kT bT .nil pass0 (pa_cons (pv 0) (pa_cons (pe_callB call_len (by rfl) mLen PySem.boot_len (pa_cons (pv 1) pa_nil)) pa_nil))) (fun _ _ => rfl))), ?_⟩
    refine ⟨.ref a, rfl, .ref d, rfl, .ref a, rfl, .ref a, xs.length, rfl, .inl ⟨xs, Evl.ex_l (ex_off d g H) hS, rfl⟩, ?_⟩
    refine ⟨d, g, c, (xs.length : Int), rfl, by omega, by omega, D, fun i H1 i0 i1 D1 e1 => ?_⟩
    have hi : i.toNat < xs.length := by omega
    have ei : xs[i.toNat]? = some xs[i.toNat] := List.getElem?_eq_getElem hi
    refine ⟨a, xs, i, xs[i.toNat], rfl, rfl, Evl.ex_l ((e1).trans (ex_off d g H1)) hS, ?_, k i.toNat _ H1 ei D1 e1⟩
    have z := atI_nat ei
    rw [show ((i.toNat : Nat) : Int) = i by omega] at z
    exact z
theorem ok_pickS {f fT : Addr} {fd fdT : FuncData} (F : Fun K "_law_pick" "_law_pick" s_pick f fd) (T : FnOk P w K mg base CX0 2 fT fdT ["draw", "size"] spTake) (kT : PySem.W.keepIn K (.ref fT) = true) (bT : Binds K fdT ["draw", "size"] []) (gT : mg "_law_take" = some (.ref fT)) (mLen : mg "len" = none) :
    FnOk P w K mg base CX0 3 f fd ["draw", "some"] spPickS := by
  refine F.ok sc_pick (fun vs H Q E h => ?_) (fun cdv A outer s H vs Q E hr h => ?_)
  · obtain ⟨d, g, c, z, rfl, _⟩ := h
    rfl
  · obtain ⟨d, g, c, z, rfl, D, h0, h1, k⟩ := h
    refine ⟨_, pss_one (ps_ret (pe_ix ix_str (pv 1) (pe_call T hr rfl gT kT bT .nil pass0 (pa_cons (pv 0) (pa_cons (pe_callB call_len (by rfl) mLen PySem.boot_len (pa_cons (pv 1) pa_nil)) pa_nil))) (fun _ _ => rfl))), ?_⟩
    refine ⟨.str z, rfl, .ref d, rfl, .str z, rfl, .str z, z.length, rfl, ⟨Nat.le_of_lt (small1000 h1), rfl⟩, ?_⟩
    refine ⟨d, g, c, (z.length : Int), rfl, by omega, by omega, D, fun i H1 i0 i1 D1 e1 => ?_⟩
    have hz : z.length = z.cps.toList.length := rfl
    have hi : i.toNat < z.cps.toList.length := by omega
    have ei : z.cps.toList[i.toNat]? = some z.cps.toList[i.toNat] := List.getElem?_eq_getElem hi
    refine ⟨z, i, z.cps.toList[i.toNat], rfl, rfl, Nat.le_of_lt (small1000 h1), ?_, k i.toNat _ H1 ei D1 e1⟩
    have y := atI_nat ei
    rw [show ((i.toNat : Nat) : Int) = i by omega] at y
    exact y
end
end Rw
end T_D1

section T_B9
set_option Elab.async false
set_option linter.all false
set_option maxRecDepth 100000
set_option maxHeartbeats 4000000
namespace Rw
open PySem L2 PyProof.Rows
section
variable {P : Program} {w : World} {K : PySem.W.Frag} {mg : Str → Option Value} {base : Heap}
theorem cut_take (xs : List V) (n : Nat) : cutV xs none (some (n : Int)) = xs.take n := by
  unfold cutV
  rw [show HT.sIx xs.length 0 none = 0 from rfl, HT.sIx_nat, List.drop_zero, Nat.sub_zero]
  by_cases h : n ≤ xs.length
  · rw [Nat.min_eq_left h]
  · rw [Nat.min_eq_right (by omega), List.take_length, List.take_of_length_le (by omega)]
theorem cut_drop (xs : List V) (n : Nat) : cutV xs (some (n : Int)) none = xs.drop n := by
  unfold cutV
  rw [HT.sIx_nat, HT.sIx_none]
  by_cases h : n ≤ xs.length
  · rw [Nat.min_eq_left h]
    exact List.take_of_length_le (by rw [List.length_drop]; exact Nat.le_refl _)
  · rw [Nat.min_eq_right (by omega), Nat.sub_self, List.take_zero, List.drop_of_length_le (by omega)]
abbrev nModel : List Str := ["draw", "ends", "most", "many", "size", "names", "dots", "rows", "end", "begins", "stops"]
theorem sc_model : FnScope nModel ["draw", "ends", "most"] (defScope s_model) := ⟨rfl, rfl, rfl, by decide +kernel, rfl, by decide +kernel, by decide +kernel⟩
theorem ok_model {f fT fP fM fW fR : Addr} {fd fdT fdP fdM fdW fdR : FuncData} (F : Fun K "_law_model" "_law_model" s_model f fd)
    (T : FnOk P w K mg base CX0 2 fT fdT ["draw", "size"] spTake) (kT : PySem.W.keepIn K (.ref fT) = true) (bT : Binds K fdT ["draw", "size"] []) (gT : mg "_law_take" = some (.ref fT))
    (PL : FnOk P w K mg base CX0 3 fP fdP ["draw", "some"] (spPickL K)) (kP : PySem.W.keepIn K (.ref fP) = true) (bP : Binds K fdP ["draw", "some"] []) (gP : mg "_law_pick" = some (.ref fP))
    (M : FnOk P w K mg base CX0 3 fM fdM ["draw", "some"] (spMixed K)) (kM : PySem.W.keepIn K (.ref fM) = true) (bM : Binds K fdM ["draw", "some"] []) (gM : mg "_law_mixed" = some (.ref fM))
    (W : FnOk P w K mg base CX0 4 fW fdW ["draw", "count"] (spWords K)) (kW : PySem.W.keepIn K (.ref fW) = true) (bW : Binds K fdW ["draw", "count"] []) (gW : mg "_law_words" = some (.ref fW))
    (R : FnOk P w K mg base CX0 5 fR fdR ["draw", "some", "end"] (spPair K)) (kR : PySem.W.keepIn K (.ref fR) = true) (bR : Binds K fdR ["draw", "some", "end"] []) (gR : mg "_law_pair" = some (.ref fR))
    (mSorted : mg "sorted" = none) (mMin : mg "min" = none) :
    FnOk P w K mg base CX0 6 f fd ["draw", "ends", "most"] spModel := by
  refine F.ok sc_model (fun vs H Q E h => ?_) (fun cdv A outer s H vs Q E hr h => ?_)
  · obtain ⟨d, g, c, e, n, rfl, _⟩ := h
    rfl
  · obtain ⟨d, g, c, e, n, rfl, D, e0, e1, n0, n1, k⟩ := h
    have nd := sc_model.nd
    have hu := hu_of hr
    have hr2 : Room 2 _ := hr.mono (by decide)
    have hr3 : Room 3 _ := hr.mono (by decide)
    have hr4 : Room 4 _ := hr.mono (by decide)
    refine ⟨_, pss_cons (ps_par (i := 3) (j := 4) (by rfl) nd rfl rfl (by decide) rfl rfl (pa_cons (pe_op op_add pe_int (pe_call T hr2 rfl gT kT bT .nil pass0 (pa_cons (pv 0) (pa_cons (pv 1) pa_nil)))) (pa_cons (pe_op op_add pe_int (pe_call T hr2 rfl gT kT bT .nil pass0 (pa_cons (pv 0) (pa_cons (pv 2) pa_nil)))) pa_nil)) (by rfl))
      (pss_cons (ps_set (i := 5) nd rfl (.inl rfl) (pe_call W hr4 rfl gW kW bW .nil pass0 (pa_cons (pv 0) (pa_cons (pe_op op_add (pv 3) (pv 4)) pa_nil))))
      (pss_cons (ps_par (i := 6) (j := 7) (by rfl) nd rfl rfl (by decide) rfl rfl (pa_cons (pe_callB cr_sortedS (by rfl) mSorted (by decide +kernel) (pa_cons (pe_slice sl_list (pv 5) (po_some (pv 3)) po_none) pa_nil)) (pa_cons pe_dnewK pa_nil)) (by rfl))
      (pss_cons (ps_for PassesOwn.never rfl (pi_list (pe_callB cr_sortedS (by rfl) mSorted (by decide +kernel) (pa_cons (pe_slice sl_list (pv 5) po_none (po_some (pv 3))) pa_nil))) (pg_name (i := 8) nd rfl (.inl rfl))
        (pss_one (ps_dput hu (pv 7) (pv 8) (pe_call R hr rfl gR kR bR .nil pass0 (pa_cons (pv 0) (pa_cons (pv 6) (pa_cons (pv 8) pa_nil)))) rfl)))
      (pss_cons (ps_set (i := 9) nd rfl (.inl rfl) (pe_callB cr_sortedS (by rfl) mSorted (by decide +kernel) (pa_cons (pe_slice sl_list (pe_call M hr3 rfl gM kM bM .nil pass0 (pa_cons (pv 0) (pa_cons (pv 6) pa_nil))) po_none
          (po_some (pe_call T hr2 rfl gT kT bT .nil pass0 (pa_cons (pv 0) (pa_cons (pe_op op_add (pe_callB (call_min2 rfl) (by rfl) mMin (by decide +kernel) (pa_cons pe_int (pa_cons (pv 4) pa_nil))) pe_int) pa_nil))))) pa_nil)))
      (pss_cons (ps_set (i := 10) nd rfl (.inl rfl) (pe_slice sl_list (pe_call M hr3 rfl gM kM bM .nil pass0 (pa_cons (pv 0) (pa_cons (pv 6) pa_nil))) po_none
          (po_some (pe_call PL hr3 rfl gP kP bP .nil pass0 (pa_cons (pv 0) (pa_cons (pe_lst (pa_cons pe_int (pa_cons pe_int (pa_cons pe_int (pa_cons pe_int (pa_cons pe_int pa_nil)))))) pa_nil))))))
      (pss_one (ps_ret (pe_disp (pps_cons pe_str (pv 7) (pps_cons pe_str (pv 6) (pps_cons pe_str (pv 9) (pps_cons pe_str (pv 10) pps_nil)))) (by rfl) (by rfl) (fun z => by cases z) (by decide))))))))), ?_⟩
    -- many, size
    refine ⟨.ref d, rfl, .int e, rfl, d, g, c, e, rfl, e0, by omega, D, fun a H1 a0 a1 D1 x1 => ⟨1, a, rfl, rfl, .ref d, rfl, .int n, rfl, d, g, c, n, rfl, n0, by omega, D1, fun b H2 b0 b1 D2 x2 => ⟨1, b, rfl, rfl, _, _, rfl, ?_⟩⟩⟩
    obtain ⟨a', rfl⟩ := Int.eq_ofNat_of_zero_le a0
    obtain ⟨b', rfl⟩ := Int.eq_ofNat_of_zero_le b0
    have eN : (1 + (a' : Int) + (1 + (b' : Int))) = ((1 + a' + (1 + b') : Nat) : Int) := by omega
    have eM : (1 + (a' : Int)) = ((1 + a' : Nat) : Int) := by omega
    -- names
    refine ⟨.ref d, rfl, .int (1 + (a' : Int)), rfl, .int (1 + (b' : Int)), rfl, _, _, rfl, rfl, d, g, c, 1 + a' + (1 + b'), by rw [← eN]; rfl, D2, by omega, fun nm zs H3 zl znd znm D3 x3 _ hnm => ?_⟩
    have hnm' := off_some hnm
    -- dots, rows = (sorted(names[many:]), {})
    refine ⟨.ref nm, rfl, .int (1 + (a' : Int)), rfl, _, rfl, nm, _, rfl, Evl.sq_of hnm'.2.2, fun sl hsl => ?_⟩
    rw [eM, cut_drop, ← List.map_drop]
    refine ⟨sl, zs.drop (1 + a'), rfl, Evl.sq_of upd_same, by rw [List.length_drop]; omega, fun dots db dperm dsort hdb tb htb => ⟨_, _, rfl, ?_⟩⟩
    have x4 : Evl.Ex H3 (upd (upd (upd H3 sl (.lst ((zs.drop (1 + a')).map V.str))) db (.lst (dots.map V.str))) tb (.dK [])) := ((Evl.Ex.new hsl).trans (Evl.Ex.new hdb)).trans (Evl.Ex.new htb)
    have D4 := D3.ext x4
    have ndb := (D3.new hsl).ned hdb
    have ntb := ((D3.new hsl).new hdb).ned htb
    have q1 : off d g (upd (upd (upd H3 sl (.lst ((zs.drop (1 + a')).map V.str))) db (.lst (dots.map V.str))) tb (.dK [])) db = some (.lst (dots.map V.str)) := off_of (Evl.Ex.new htb _ _ upd_same) ndb.1 ndb.2.1
    have q2 : (upd (upd (upd H3 sl (.lst ((zs.drop (1 + a')).map V.str))) db (.lst (dots.map V.str))) tb (.dK [])) tb = some (.dK (tkv [])) := upd_same
    have q3 := off_ex (d := d) (g := g) x4 _ _ hnm
    have y4 := (x1.trans x2).trans (x3.trans (off_ex (d := d) (g := g) x4))
    have tb0 : H tb = none := by
      refine ex_free (((x1.trans x2).trans x3).trans (off_ex (d := d) (g := g) ((Evl.Ex.new hsl).trans (Evl.Ex.new hdb)))) ntb.1 ntb.2.1 htb
    generalize upd (upd (upd H3 sl (.lst ((zs.drop (1 + a')).map V.str))) db (.lst (dots.map V.str))) tb (.dK []) = H4 at D4 q1 q2 q3 y4
    have dl : dots.length = 1 + b' := by rw [dperm.length_eq, List.length_drop]; omega
    have dnd : dots.Nodup := dperm.nodup_iff.mpr (znd.sublist (List.drop_sublist _ _))
    have dnm : ∀ z ∈ dots, Nm z := fun z hz => znm z (List.mem_of_mem_drop (dperm.subset hz))
    have q3' := off_some q3
    -- for end in sorted(names[:many])
    refine ⟨.ref nm, rfl, .int (1 + (a' : Int)), rfl, _, rfl, nm, _, rfl, Evl.sq_of q3'.2.2, fun s2 hs2 => ?_⟩
    rw [eM, cut_take, ← List.map_take]
    refine ⟨s2, zs.take (1 + a'), rfl, Evl.sq_of upd_same, by rw [List.length_take]; omega, fun ends eb eperm esort heb => ?_⟩
    have x5 : Evl.Ex H4 (upd (upd H4 s2 (.lst ((zs.take (1 + a')).map V.str))) eb (.lst (ends.map V.str))) := (Evl.Ex.new hs2).trans (Evl.Ex.new heb)
    have D5 := D4.ext x5
    have neb := (D4.new hs2).ned heb
    have r1 := off_ex (d := d) (g := g) x5 _ _ q1
    have r2 := x5 _ _ q2
    have r3 : off d g (upd (upd H4 s2 (.lst ((zs.take (1 + a')).map V.str))) eb (.lst (ends.map V.str))) eb = some (.lst (ends.map V.str)) := off_of upd_same neb.1 neb.2.1
    have y5 := y4.trans (off_ex (d := d) (g := g) x5)
    have nte : tb ≠ eb := ne_of_none (Evl.Ex.new hs2 _ _ q2) heb
    generalize upd (upd H4 s2 (.lst ((zs.take (1 + a')).map V.str))) eb (.lst (ends.map V.str)) = H5 at D5 r1 r2 r3 y5
    have el : ends.length = 1 + a' := by rw [eperm.length_eq, List.length_take]; omega
    have endd : ends.Nodup := eperm.nodup_iff.mpr (znd.sublist (List.take_sublist _ _))
    have ennm : ∀ z ∈ ends, Nm z := fun z hz => znm z (List.mem_of_mem_take (eperm.subset hz))
    have edis : ∀ z ∈ ends, z ∉ dots := fun z hz hd => by
      have h1 := eperm.subset hz
      have h2 := dperm.subset hd
      have h3 : (zs.take (1 + a') ++ zs.drop (1 + a')).Nodup := by rw [List.take_append_drop]; exact znd
      exact (List.nodup_append.mp h3).2.2 z h1 z h2 rfl
    have ntd : tb ≠ db := (ne_of_none (Evl.Ex.refl _ _ _ upd_same) htb).symm
    refine ⟨eb, rfl, ⟨_, Evl.sq_of (off_some r3).2.2⟩, for_list (K := K) (a := eb) (xs := ends.map V.str)
      (fun i σ H' => ∃ (x8 : Option V) (rows : List (Str × V)), σ = [some (.ref d), some (.int e), some (.int n), some (.int ((1 + a' : Nat) : Int)), some (.int (1 + (b' : Int))), some (.ref nm), some (.ref db), some (.ref tb), x8, none, none] ∧ rows.map (·.1) = ends.take i ∧
        (∀ q ∈ rows, ∃ (p po pn : Addr) (t1 t2 : List (Str × V)), q.2 = .ref p ∧ PairAt (off d g H') dots q.1 p po pn t1 t2 ∧ p ≠ tb ∧ po ≠ tb ∧ pn ≠ tb) ∧
        H' tb = some (.dK (tkv rows)) ∧ off d g H' db = some (.lst (dots.map V.str)) ∧ off d g H' eb = some (.lst (ends.map V.str)) ∧ DrawAt H' d g c ∧ Evl.Ex (off d g H) (off d g H'))
      ⟨none, [], by rw [← eM]; rfl, rfl, (fun q hq => by cases hq), r2, r1, r3, D5, y5⟩ (fun i σ H' _ ⟨_, _, _, _, _, _, _, h, _⟩ => Evl.sq_of (off_some h).2.2) ?_ ?_⟩
    · rintro i y σ H6 hi ⟨x8, rows, rfl, hk, hro, f1, f2, f3, D6, y6⟩
      obtain ⟨z, hz, rfl⟩ := str_at hi
      have hil : i < ends.length := (List.getElem?_eq_some_iff.mp hz).1
      have etake : ends.take (i + 1) = ends.take i ++ [z] := by rw [List.take_add_one, hz]; rfl
      have hzm := List.mem_of_getElem? hz
      have hzn : z ∉ ends.take i := fun hm => by
        have h1 : (ends.take (i + 1)).Nodup := endd.sublist (List.take_sublist _ _)
        rw [etake] at h1
        exact (List.nodup_append.mp h1).2.2 z hm z (List.mem_singleton.mpr rfl) rfl
      refine ⟨.ref d, rfl, .ref db, rfl, .str z, rfl, d, g, c, db, dots, z, rfl, D6, Evl.sq_of f2, dnd, dnm, ennm z hzm, edis z hzm, by omega, by omega, fun p po pn t1 t2 H7 D7 x7 hpa w1 w2 w3 => ?_⟩
      have g1 : H7 tb = some (.dK (tkv rows)) := ex_off d g H7 _ _ (x7 _ _ (off_of f1 ntb.1 ntb.2.1))
      have g2 := x7 _ _ f2
      have g3 := x7 _ _ f3
      have rl : rows.length ≤ 2 := by
        have := congrArg List.length hk
        rw [List.length_map, List.length_take] at this
        omega
      refine ⟨.ref tb, rfl, .str z, rfl, tb, _, rfl, DPut.k (k := Sum.inr z) g1 (by rw [tkv_len]; exact small1000 (by omega)), ?_⟩
      rw [tkv_new (by rw [hk]; exact hzn)]
      have keep : ∀ {a : Addr} {o : HO}, off d g H7 a = some o → a ≠ tb → off d g (upd H7 tb (.dK (tkv (rows ++ [(z, V.ref p)])))) a = some o := fun {a o} h ne => by
        have h' := off_some h
        exact off_of (by rw [upd_ne ne]; exact h'.2.2) h'.1 h'.2.1
      have mv : ∀ {zz : Str} {p po pn : Addr} {t1 t2 : List (Str × V)}, PairAt (off d g H7) dots zz p po pn t1 t2 → p ≠ tb → po ≠ tb → pn ≠ tb → PairAt (off d g (upd H7 tb (.dK (tkv (rows ++ [(z, V.ref p)])))) ) dots zz p po pn t1 t2 := fun {zz p po pn t1 t2} h n1 n2 n3 => by
        have q1 := off_some h.hp
        have q2 := off_some h.ho
        have q3 := off_some h.hn
        exact ⟨off_of (by rw [upd_ne n1]; exact q1.2.2) q1.1 q1.2.1, off_of (by rw [upd_ne n2]; exact q2.2.2) q2.1 q2.2.1, off_of (by rw [upd_ne n3]; exact q3.2.2) q3.1 q3.2.1, h.o1, h.o2⟩
      have mv2 : ∀ {zz : Str} {p' po pn : Addr} {t1 t2 : List (Str × V)}, PairAt (off d g H7) dots zz p' po pn t1 t2 → p' ≠ tb → po ≠ tb → pn ≠ tb → PairAt (off d g (upd H7 tb (.dK (tkv (rows ++ [(z, V.ref p)])))) ) dots zz p' po pn t1 t2 := fun {zz p' po pn t1 t2} h n1 n2 n3 =>
        ⟨keep h.hp n1, keep h.ho n2, keep h.hn n3, h.o1, h.o2⟩
      refine ⟨_, rows ++ [(z, .ref p)], rfl, ?_, ?_, upd_same, keep g2 ntd.symm, keep g3 nte.symm, D7.mut ntb.1 ntb.2.1 ntb.2.2, off_mut (y6.trans x7) (off_free tb0)⟩
      · rw [List.map_append, hk, etake]
        rfl
      · intro q hq
        rcases List.mem_append.mp hq with hq | hq
        · obtain ⟨p', po', pn', t1', t2', e', pa, n1, n2, n3⟩ := hro q hq
          exact ⟨p', po', pn', t1', t2', e', mv2 (pa.ex x7) n1 n2 n3, n1, n2, n3⟩
        · rw [List.mem_singleton.mp hq]
          have n1 : p ≠ tb := (ne_of_none f1 w1).symm
          have n2 : po ≠ tb := (ne_of_none f1 w2).symm
          have n3 : pn ≠ tb := (ne_of_none f1 w3).symm
          exact ⟨p, po, pn, t1, t2, rfl, mv2 hpa n1 n2 n3, n1, n2, n3⟩
    · rintro σ H6 ⟨x8, rows, rfl, hk, hro, f1, f2, f3, D6, y6⟩
      rw [List.length_map, List.take_length] at hk
      have hro' : RowsOk (off d g H6) dots rows := fun q hq => by
        obtain ⟨p', po', pn', t1', t2', e', pa, _⟩ := hro q hq
        exact ⟨p', po', pn', t1', t2', e', pa⟩
      have f1' : off d g H6 tb = some (.dK (tkv rows)) := off_of f1 ntb.1 ntb.2.1
      have ddat : ∀ {Hx : Hp}, ∀ v ∈ dots.map V.str, DataV K Hx v := fun {Hx} v hv => by
        obtain ⟨z, hz, rfl⟩ := List.mem_map.mp hv
        exact nm_data (dnm z hz)
      -- begins
      refine ⟨.ref d, rfl, .ref db, rfl, d, g, c, db, dots.map V.str, rfl, D6, .inl (Evl.sq_of f2), by rw [List.length_map]; omega, ddat, fun ml ys H7 mperm D7 x7 _ hml => ?_⟩
      obtain ⟨ws, rfl, hws⟩ := perm_strs mperm
      refine ⟨.ref d, rfl, .int (1 + (b' : Int)), rfl, 3, _, rfl, _, 1, rfl, rfl, d, g, c, _, rfl, ?_, ?_, D7, fun t H8 t0 t1 D8 x8' => ?_⟩
      · by_cases h : 1 + (b' : Int) < 3
        · rw [if_pos h]; omega
        · rw [if_neg h]; omega
      · by_cases h : 1 + (b' : Int) < 3
        · rw [if_pos h]; omega
        · rw [if_neg h]; omega
      obtain ⟨t', rfl⟩ := Int.eq_ofNat_of_zero_le t0
      have m8 := off_some (x8' _ _ hml)
      refine ⟨_, rfl, ml, _, rfl, Evl.sq_of m8.2.2, fun sl2 hsl2 => ?_⟩
      rw [cut_take, ← List.map_take]
      refine ⟨sl2, ws.take t', rfl, Evl.sq_of upd_same, by rw [List.length_take, hws.length_eq]; omega, fun ss sb sperm ssort hsb => ?_⟩
      have x9 : Evl.Ex H8 (upd (upd H8 sl2 (.lst ((ws.take t').map V.str))) sb (.lst (ss.map V.str))) := (Evl.Ex.new hsl2).trans (Evl.Ex.new hsb)
      have D9 := D8.ext x9
      have nsb := (D8.new hsl2).ned hsb
      have u1 : off d g (upd (upd H8 sl2 (.lst ((ws.take t').map V.str))) sb (.lst (ss.map V.str))) sb = some (.lst (ss.map V.str)) := off_of upd_same nsb.1 nsb.2.1
      have y9 := (x7.trans x8').trans (off_ex (d := d) (g := g) x9)
      generalize upd (upd H8 sl2 (.lst ((ws.take t').map V.str))) sb (.lst (ss.map V.str)) = H9 at D9 u1 y9
      -- stops
      refine ⟨.ref d, rfl, .ref db, rfl, d, g, c, db, dots.map V.str, rfl, D9, .inl (Evl.sq_of (y9 _ _ f2)), by rw [List.length_map]; omega, ddat, fun ml2 ys2 H10 mperm2 D10 x10 _ hml2 => ?_⟩
      obtain ⟨vs2, rfl, hvs⟩ := perm_strs mperm2
      refine ⟨.ref d, rfl, by show 5 ≤ sizeLine; decide, fun l5 hl5 => ?_⟩
      have n5 := D10.ned hl5
      refine ⟨d, g, c, l5, _, rfl, D10.new hl5, Evl.sq_of (off_of upd_same n5.1 n5.2.1), by decide, by decide, fun j v H11 hv D11 x11 => ?_⟩
      obtain ⟨t5, rfl, ht5⟩ : ∃ t5 : Nat, v = .int (t5 : Int) ∧ t5 ≤ 2 := by
        match j, hv with
        | 0, hv => exact ⟨0, (Option.some.inj hv).symm, by decide⟩
        | 1, hv => exact ⟨0, (Option.some.inj hv).symm, by decide⟩
        | 2, hv => exact ⟨1, (Option.some.inj hv).symm, by decide⟩
        | 3, hv => exact ⟨1, (Option.some.inj hv).symm, by decide⟩
        | 4, hv => exact ⟨2, (Option.some.inj hv).symm, by decide⟩
        | n + 5, hv => exact absurd hv (by simp)
      have x12 := (off_ex (d := d) (g := g) (Evl.Ex.new (o := .lst [.int 0, .int 0, .int 1, .int 1, .int 2]) hl5)).trans x11
      have m11 := off_some (x12 _ _ hml2)
      refine ⟨_, rfl, ml2, _, rfl, Evl.sq_of m11.2.2, fun pb hpb => ?_⟩
      rw [cut_take, ← List.map_take]
      have npb := D11.ned hpb
      have x13 := off_ex (d := d) (g := g) (Evl.Ex.new (o := .lst ((vs2.take t5).map V.str)) hpb)
      have D13 := D11.new (o := .lst ((vs2.take t5).map V.str)) hpb
      have u2 : off d g (upd H11 pb (.lst ((vs2.take t5).map V.str))) pb = some (.lst ((vs2.take t5).map V.str)) := off_of upd_same npb.1 npb.2.1
      have z13 := (x10.trans x12).trans x13
      generalize upd H11 pb (.lst ((vs2.take t5).map V.str)) = H13 at D13 u2 x13 z13
      -- the model
      intro m hm
      have nm' := D13.ned hm
      refine ⟨.ref tb, rfl, .ref db, rfl, .ref sb, rfl, .ref pb, rfl, upd_same, mkv tb db sb pb, rfl, by show 4 ≤ 15; decide, ?_⟩
      rw [upd_upd, show mergeK [] (mkv tb db sb pb) = mkv tb db sb pb by kernel_rfl]
      have x14 := off_ex (d := d) (g := g) (Evl.Ex.new (o := .dK (mkv tb db sb pb)) hm)
      have z14 := z13.trans x14
      have z15 := y9.trans z14
      refine k m tb db sb pb ends dots ss (vs2.take t5) rows _ (D13.new hm) (y6.trans z15) ⟨off_of upd_same nm'.1 nm'.2.1, z15 _ _ f1', z15 _ _ f2, z14 _ _ u1, x14 _ _ u2, hk, hro'.ex z15, ?_⟩
      have wnd : ws.Nodup := hws.nodup_iff.mpr dnd
      have vnd : vs2.Nodup := hvs.nodup_iff.mpr dnd
      exact { e0 := by omega, e2 := by omega, en := endd, es := esort, em := ennm, d0 := by omega, d6 := by omega, dn := dnd, ds := dsort, dm := dnm, ed := edis,
              sn := sperm.nodup_iff.mpr (wnd.sublist (List.take_sublist _ _)), sss := ssort, sd := fun z hz => hws.subset (List.mem_of_mem_take (sperm.subset hz)),
              pn := vnd.sublist (List.take_sublist _ _), p2 := by rw [List.length_take]; omega, pd := fun z hz => hvs.subset (List.mem_of_mem_take hz) }
end
end Rw
end T_B9

section T_X0
set_option Elab.async false
set_option linter.all false
set_option maxRecDepth 100000
set_option maxHeartbeats 4000000
namespace Rw
open PySem L2 PyProof.Rows
theorem rest_less {H Hb H' : Hp} (x : Evl.Ex H Hb) : Evl.Ex (rest Hb H') (rest H H') := fun a o h => by
  have h' := rest_ex Hb H' a o h
  refine rest_of ?_ h'
  cases q : H a with
  | none => rfl
  | some u =>
    have := x _ _ q
    unfold rest at h
    rw [this] at h
    cases h
theorem dget_of {H : Hp} {a : Addr} {kvs : List (Key × V)} {k : Key} {v : V} (h : H a = some (.dK kvs)) (hv : valV kvs k = some v) : DGet H a (kV k) (some v) := by
  have q := DGet.k (k := k) h
  rw [hv] at q
  exact q
section
variable {P : Program} {w : World} {K : PySem.W.Frag} {mg : Str → Option Value} {base : Heap}
/-! ### the law's net of a model -/
def spNet (C : Addr) : Sp := fun vs H Q _ => ∃ (m tb db sb pb : Addr) (ends dots ss ps : List Str) (rows : List (Str × V)) (o n : Str → List (Str × V)), vs = [.ref m] ∧ ModelAt H m tb db sb pb ends dots ss ps rows ∧ RowsAt H ends dots rows o n ∧
  ∀ x H', Evl.Ex H H' → H x = none → NetAt C (rest H H') x ends dots ss ps o n → Q (.ref x) H'
theorem sc_net : FnScope ["model"] ["model"] (defScope s_net) := ⟨rfl, rfl, rfl, by decide +kernel, rfl, by decide +kernel, by decide +kernel⟩
theorem ok_net {f C fi : Addr} {fd fdi : FuncData} (F : Fun K "_law_net" "_law_net" s_net f fd) (M : Mk K C fi) (I_ : FnOk P w K mg base CX0 4 fi fdi ["self", "tables", "sources", "posts"] (spInit C)) (bi : Binds K fdi ["self", "tables", "sources", "posts"] []) (mNet : mg "Net" = some (.ref C)) :
    FnOk P w K mg base CX0 6 f fd ["model"] (spNet C) := by
  refine F.ok sc_net (fun vs H Q E h => ?_) (fun cdv A outer s H vs Q E hr h => ?_)
  · obtain ⟨m, tb, db, sb, pb, ends, dots, ss, ps, rows, o, n, rfl, _⟩ := h
    rfl
  · obtain ⟨m, tb, db, sb, pb, ends, dots, ss, ps, rows, o, n, rfl, MA, ro, k⟩ := h
    have hu := hu_of hr
    refine ⟨_, pss_one (ps_ret (pe_make M I_ hr rfl mNet bi .nil pass0 (pa_cons (pe_dget hu (pv 0) pe_str (fun _ _ => rfl)) (pa_cons (pe_dget hu (pv 0) pe_str (fun _ _ => rfl)) (pa_cons (pe_dget hu (pv 0) pe_str (fun _ _ => rfl)) pa_nil))))), ?_⟩
    refine ⟨.ref m, rfl, m, _, rfl, dget_of MA.hm (mkv_tables _ _ _ _), .ref m, rfl, m, _, rfl, dget_of MA.hm (mkv_sources _ _ _ _), .ref m, rfl, m, _, rfl, dget_of MA.hm (mkv_posts _ _ _ _), fun x dx hx hdx ne => ?_⟩
    have nb : (upd H dx (.own x)) x = none := by rw [upd_ne ne.symm]; exact hx
    have xb : Evl.Ex H (upd H dx (.own x)) := Evl.Ex.new hdx
    refine ⟨upd H dx (.own x), x, dx, tb, sb, pb, ends, dots, ss, ps, rows, o, n, rfl, nb, Evl.Ex.new nb, upd_same, xb _ _ MA.ht, .of_eq MA.rk, MA.ro.ex xb, ro.ex xb, .inl (xb _ _ MA.hs), .inl (xb _ _ MA.hp), MA.ok, fun H' x' N => ⟨rfl, ?_⟩⟩
    exact k x H' (xb.trans x') hx (N _ (rest_less xb) fun z => by rw [xb _ _ MA.hp] at z; cases z)
end
end Rw
end T_X0

section T_X1
set_option Elab.async false
set_option linter.all false
set_option maxRecDepth 100000
set_option maxHeartbeats 4000000
namespace Rw
open PySem L2 PyProof.Rows
theorem model_ne {H : Hp} {m tb db sb pb : Addr} {ends dots ss ps : List Str} {rows : List (Str × V)} (MA : ModelAt H m tb db sb pb ends dots ss ps rows) : m ≠ tb := fun e => by
  subst e
  have h1 := MA.hm.symm.trans MA.ht
  have h2 : mkv m db sb pb = tkv rows := HO.dK.inj (Option.some.inj h1)
  cases hr : rows with
  | nil => rw [hr] at h2; cases h2
  | cons q r =>
    rw [hr] at h2
    have h3 : ((Sum.inr "tables" : Key), V.ref m) = (Sum.inr q.1, q.2) := (List.cons.inj h2).1
    obtain ⟨p, _, _, _, _, e2, pa⟩ := MA.ro q (by rw [hr]; exact List.mem_cons_self)
    have h4 : V.ref m = q.2 := congrArg Prod.snd h3
    rw [e2] at h4
    have h5 : m = p := V.ref.inj h4
    subst h5
    have := pa.hp.symm.trans MA.ht
    cases this
section
variable {P : Program} {w : World} {K : PySem.W.Frag} {mg : Str → Option Value} {base : Heap}
/-! ### the law's list of nodes that change -/
def spMoves : Sp := fun vs H Q _ => ∃ (m tb db sb pb : Addr) (ends dots ss ps : List Str) (rows : List (Str × V)) (o n : Str → List (Str × V)), vs = [.ref m] ∧ ModelAt H m tb db sb pb ends dots ss ps rows ∧ RowsAt H ends dots rows o n ∧
  ∀ p H', Evl.Ex H H' → H p = none → H' p = some (.lst ((moving ends dots o n).map V.str)) → Q (.ref p) H'
abbrev nMoves : List Str := ["model", "found", "dot", "old", "new"]
theorem sc_moves : FnScope nMoves ["model"] (defScope s_moving_dots) := ⟨rfl, rfl, rfl, by decide +kernel, rfl, by decide +kernel, by decide +kernel⟩
theorem ok_moves {f : Addr} {fd : FuncData} (F : Fun K "_law_moving_dots" "_law_moving_dots" s_moving_dots f fd) : FnOk P w K mg base CX0 1 f fd ["model"] spMoves := by
  refine F.ok sc_moves (fun vs H Q E h => ?_) (fun cdv A outer s H vs Q E hr h => ?_)
  · obtain ⟨m, tb, db, sb, pb, ends, dots, ss, ps, rows, o, n, rfl, _⟩ := h
    rfl
  · obtain ⟨m, tb, db, sb, pb, ends, dots, ss, ps, rows, o, n, rfl, MA, ro, k⟩ := h
    have nd := sc_moves.nd
    have hu := hu_of hr
    refine ⟨_, pss_cons (ps_set (i := 1) nd rfl (.inl rfl) (pe_lst pa_nil))
      (pss_cons (ps_for PassesOwn.never rfl (pi_list (pe_dget hu (pv 0) pe_str (fun _ _ => rfl))) (pg_name (i := 2) nd rfl (.inr rfl))
        (pss_one (ps_if (pt_cmpR (op_neD hr.units) (pe_lock (pe_lc (own := [("old", 3), ("new", 4)]) (g := gTup K 2 (gCons (gName 3) (gCons (gName 4) gNil))) rfl nd (pi_values (pe_dget hu (pv 0) pe_str (fun _ _ => rfl))) (blkOk_by (own := [("old", 3), ("new", 4)]) (N := nMoves) (sc := defScope s_moving_dots) (by decide +kernel))
            (fun _ _ _ _ _ => pg_tup rfl (pgs_cons (pg_name (i := 3) nd rfl (Or.inl rfl)) (pgs_cons (pg_name (i := 4) nd rfl (Or.inl rfl)) pgs_nil)))
            (fun _ _ _ _ _ => pts_one (pt_cmpR op_ne (pe_dget hu (pv 3) (pv 2) (fun _ _ => rfl)) (pe_dget hu (pv 4) (pv 2) (fun _ _ => rfl)) (nomark _))) (fun _ _ _ _ _ => pe_int))) (pe_lst pa_nil) (nomark _))
          (pss_one (ps_expr (pe_bm PySem.F.plainAttrs_list PySem.F.slot_list_append PySem.F.type_list_append mt_append (pv 1) (pa_cons (pv 2) pa_nil)))) pss_nil)))
      (pss_one (ps_ret (pv 1)))), ?_⟩
    have ok := MA.ok
    have e2 := ok.e2
    have d6 := ok.d6
    have hk := MA.rk
    have rl : rows.length = ends.length := by rw [← hk, List.length_map]
    have rne : rows ≠ [] := fun z => by
      have := ok.e0
      rw [z] at rl
      simp at rl
      omega
    have nmt := model_ne MA
    refine ⟨Nat.zero_le _, fun f hf => ?_⟩
    have x0 : Evl.Ex H (upd H f (.lst [])) := Evl.Ex.new hf
    have f0 : (upd H f (.lst [])) f = some (.lst []) := upd_same
    generalize upd H f (.lst []) = H0 at x0 f0
    refine ⟨.ref m, rfl, m, _, rfl, dget_of (x0 _ _ MA.hm) (mkv_dots _ _ _ _), db, rfl, ⟨_, Evl.sq_of (x0 _ _ MA.hd)⟩, for_list (K := K) (a := db) (xs := dots.map V.str)
      (fun i σ H' => ∃ (x2 : Option V), σ = [some (.ref m), some (.ref f), x2, none, none] ∧ i ≤ dots.length ∧ Evl.Ex H H' ∧ H' f = some (.lst ((moving ends (dots.take i) o n).map V.str)))
      ⟨none, rfl, Nat.zero_le _, x0, f0⟩ (fun i σ H' _ ⟨_, _, _, h, _⟩ => Evl.sq_of (h _ _ MA.hd)) ?_ ?_⟩
    · rintro i y σ H3 hi ⟨x2, rfl, _, x3, f3⟩
      obtain ⟨z, hz, rfl⟩ := str_at hi
      have hil : i < dots.length := (List.getElem?_eq_some_iff.mp hz).1
      have zd := List.mem_of_getElem? hz
      have et : moving ends (dots.take (i + 1)) o n = moving ends (dots.take i) o n ++ if (diffB ends o n z).any id then [z] else [] := by
        unfold moving
        rw [List.take_add_one, hz, List.filter_append]
        show _ ++ List.filter _ [z] = _
        rw [List.filter_cons]
        rfl
      have dl : (moving ends (dots.take i) o n).length ≤ 100 := Nat.le_trans (List.length_filter_le _ _) (by rw [List.length_take]; omega)
      refine ⟨tb, .dK (tkv rows), x3 _ _ MA.ht, trivial, fun od => ?_⟩
      have locked : (upd H3 tb (.frz od (.dK (tkv rows)))) tb = some (.frz od (.dK (tkv rows))) := upd_same
      have up : ∀ {a : Addr} {u : HO}, H a = some u → a ≠ tb → (upd H3 tb (.frz od (.dK (tkv rows)))) a = some u := fun {a u} h ne => by rw [upd_ne ne]; exact x3 _ _ h
      have nft : f ≠ tb := (ne_of_none MA.ht hf).symm
      have fL : (upd H3 tb (.frz od (.dK (tkv rows)))) f = some (.lst ((moving ends (dots.take i) o n).map V.str)) := by rw [upd_ne nft]; exact f3
      have back : ∀ {H4 : Hp}, Evl.Ex (upd H3 tb (.frz od (.dK (tkv rows)))) H4 → Evl.Ex H3 (upd H4 tb (.dK (tkv rows))) := fun {H4} e a u h => by
        by_cases q : a = tb
        · subst q
          rw [upd_same, ← x3 _ _ MA.ht, h]
        · rw [upd_ne q]
          exact e _ _ (by rw [upd_ne q]; exact h)
      generalize upd H3 tb (.frz od (.dK (tkv rows))) = HL at locked up fL back
      refine ⟨.ref m, rfl, m, _, rfl, dget_of (up MA.hm nmt) (mkv_tables _ _ _ _), tb, od, _, rfl, locked, fun D hD => lc_it walk_values
        (fun j H' => j ≤ ends.length ∧ Evl.Ex HL H' ∧ ∃ ns : List Int, H' D = some (.lst (ns.map V.int)) ∧ ns.length ≤ j ∧ ns.isEmpty = !(diffB (ends.take j) o n z).any id) ⟨Nat.zero_le _, Evl.Ex.new hD, [], upd_same, Nat.le_refl _, rfl⟩ (fun j H' _ h => h.2.1 _ _ locked) ?_ ?_⟩
      · rintro j x H4 H4' hj ⟨_, x4, ns, d4, nl, ne4⟩ ⟨rfl, kk, hkk⟩
        rw [tkv_len, rl] at hj
        have gj : ends[j]? = some ends[j] := List.getElem?_eq_getElem hj
        obtain ⟨p, po, pn, hv, pa⟩ := ro ends[j] (List.getElem_mem hj)
        have ex : x = .ref p := by
          have h1 := tkv_at hk ok.en gj hv
          rw [List.getElem?_map, hkk] at h1
          exact Option.some.inj h1
        subst ex
        have n1 : p ≠ tb := ne_of pa.hp MA.ht (by intro z; cases z)
        have n2 : po ≠ tb := tab_ne MA.ht MA.ro rne pa.ho pa.o1
        have n3 : pn ≠ tb := tab_ne MA.ht MA.ro rne pa.hn pa.o2
        have c1 := look_ok pa.o1 zd
        have c2 := look_ok pa.o2 zd
        have g1 : DGet H4' po (.str z) (some (look (o ends[j]) z)) := dget_of (k := Sum.inr z) (x4 _ _ (up pa.ho n2)) c1.2
        have g2 : DGet H4' pn (.str z) (some (look (n ends[j]) z)) := dget_of (k := Sum.inr z) (x4 _ _ (up pa.hn n3)) c2.2
        have et2 : diffB (ends.take (j + 1)) o n z = diffB (ends.take j) o n z ++ [!decide (look (o ends[j]) z = look (n ends[j]) z)] := by
          rw [List.take_add_one, gj]
          exact diffB_snoc _ _ _ _ _
        refine ⟨p, _, rfl, Evl.st_of (x4 _ _ (up pa.hp n1)), rfl, _, _, rfl, _, [], rfl, rfl, rfl, ?_⟩
        refine ⟨.ref po, rfl, .str z, rfl, po, _, rfl, g1, .ref pn, rfl, .str z, rfl, pn, _, rfl, g2, scal_place c1.1 c2.1, _, rfl, ?_⟩
        by_cases q : look (o ends[j]) z = look (n ends[j]) z
        · rw [decide_eq_true q] at et2 ⊢
          refine iteF ⟨hj, x4, ns, d4, by omega, ?_⟩
          rw [et2, ne4, List.any_append]
          simp
        · rw [decide_eq_false q] at et2 ⊢
          refine iteT ⟨_, d4, by rw [List.length_map]; exact small1000 (by omega), hj, x4.mut hD, ns ++ [1], ?_, by simp; omega, ?_⟩
          · rw [upd_same, List.map_append]
            rfl
          · rw [et2, List.any_append]
            simp
      · rintro H4 ⟨_, x4, ns, d4, nl, ne4⟩
        rw [tkv_len, rl, List.take_length] at ne4
        rw [tkv_len, rl] at nl
        refine ⟨x4 _ _ locked, ?_⟩
        have nDt : D ≠ tb := (ne_of_none locked hD).symm
        have x5 := back x4
        have d5 : (upd H4 tb (.dK (tkv rows))) D = some (.lst (ns.map V.int)) := by rw [upd_ne nDt]; exact d4
        generalize upd H4 tb (.dK (tkv rows)) = H5 at x5 d5
        refine ⟨Nat.zero_le _, fun p hp => ?_⟩
        have x6 : Evl.Ex H5 (upd H5 p (.lst [])) := Evl.Ex.new hp
        obtain ⟨dd, g1, g2, g3⟩ := data_list (K := K) (Evl.sq_of (x6 _ _ d5)) fun v hv => by
          obtain ⟨i, _, rfl⟩ := List.mem_map.mp hv
          exact ⟨.int i, .int i, rfl, Nat.zero_le _⟩
        refine ⟨dd, .list [], g1, .lst (Evl.sq_of upd_same) .nil, g2, by rfl, _, rfl, ?_⟩
        rw [g3, show (ns.map V.int).isEmpty = ns.isEmpty by cases ns <;> rfl, ne4, Bool.not_not]
        have x7 := x5.trans x6
        have f7 := x7 _ _ f3
        generalize upd H5 p (.lst []) = H7 at x7 f7
        by_cases q : (diffB ends o n z).any id = true
        · rw [q] at et ⊢
          refine iteT ?_
          refine ⟨.ref f, rfl, .inl ⟨rfl, _, Evl.sq_of f7⟩, .str z, rfl, f, _, _, rfl, rfl, f7, by rw [List.length_map]; exact small1000 (by omega), ?_⟩
          refine ⟨_, rfl, hil, (x3.trans x7).mut hf, ?_⟩
          rw [upd_same, et, List.map_append]
          rfl
        · have q' : (diffB ends o n z).any id = false := by cases h : (diffB ends o n z).any id with | true => exact absurd h q | false => rfl
          rw [q'] at et ⊢
          refine iteF ?_
          refine ⟨_, rfl, hil, x3.trans x7, ?_⟩
          rw [f7, et]
          simp
    · rintro σ H3 ⟨x2, rfl, _, x3, f3⟩
      rw [List.length_map, List.take_length] at f3
      exact ⟨.ref f, rfl, k f H3 x3 hf f3⟩
end
end Rw
end T_X1

section T_S3
set_option Elab.async false
set_option linter.all false
set_option maxRecDepth 100000
set_option maxHeartbeats 4000000
namespace Rw
open PySem PySem.Spec PyProof.Rows
/-! ### rows of texts, one ahead of another -/
def lexS : List Str → List Str → Bool
  | [], [] => false
  | [], _ :: _ => true
  | _ :: _, [] => false
  | x :: r, y :: q => if x = y then lexS r q else decide (x.cps.toList < y.cps.toList)
theorem lexS_step (x y : Str) (r q : List Str) : lexS (x :: r) (y :: q) = if x = y then lexS r q else decide (x.cps.toList < y.cps.toList) := rfl
theorem txt_anti {x y : Str} (h1 : ¬ x.cps.toList < y.cps.toList) (h2 : ¬ y.cps.toList < x.cps.toList) : x = y := by
  have e : x.cps.toList = y.cps.toList := List.le_antisymm h2 h1
  cases x
  cases y
  exact congrArg Str.mk (Array.toList_inj.mp e)
theorem lexS_self : ∀ r : List Str, lexS r r = false
  | [] => rfl
  | x :: r => by rw [lexS_step, if_pos rfl]; exact lexS_self r
theorem lexS_no : ∀ {r q : List Str}, lexS r q = true → lexS q r = false
  | [], [], h => nomatch h
  | [], _ :: _, _ => rfl
  | _ :: _, [], h => nomatch h
  | x :: r, y :: q, h => by
    rw [lexS_step] at h ⊢
    by_cases e : x = y
    · rw [if_pos e] at h
      rw [if_pos e.symm]
      exact lexS_no h
    · rw [if_neg e, decide_eq_true_eq] at h
      rw [if_neg (fun z => e z.symm)]
      exact decide_eq_false fun z => List.lt_irrefl _ (List.lt_trans h z)
theorem lexS_tr : ∀ {r q p : List Str}, lexS q r = false → lexS p q = false → lexS p r = false
  | [], [], [], _, _ => rfl
  | [], [], _ :: _, _, _ => rfl
  | [], _ :: _, [], _, h => nomatch h
  | [], _ :: _, _ :: _, _, _ => rfl
  | _ :: _, [], _, h, _ => nomatch h
  | _ :: _, _ :: _, [], _, h => nomatch h
  | x :: r, y :: q, z :: p, h1, h2 => by
    rw [lexS_step] at h1 h2 ⊢
    by_cases e1 : y = x
    · subst e1
      rw [if_pos rfl] at h1
      by_cases e2 : z = y
      · subst e2
        rw [if_pos rfl] at h2 ⊢
        exact lexS_tr h1 h2
      · rw [if_neg e2] at h2 ⊢
        exact h2
    · rw [if_neg e1, decide_eq_false_iff_not] at h1
      by_cases e2 : z = y
      · subst e2
        rw [if_neg e1]
        exact decide_eq_false h1
      · rw [if_neg e2, decide_eq_false_iff_not] at h2
        by_cases e3 : z = x
        · subst e3
          exact absurd (txt_anti h1 h2) e1
        · rw [if_neg e3]
          exact decide_eq_false fun h3 => List.le_trans (show x.cps.toList ≤ y.cps.toList from h1) (show y.cps.toList ≤ z.cps.toList from h2) h3
theorem lexS_tot : ∀ {r q : List Str}, lexS r q = false → lexS q r = false → r = q
  | [], [], _, _ => rfl
  | [], _ :: _, h, _ => nomatch h
  | _ :: _, [], _, h => nomatch h
  | x :: r, y :: q, h1, h2 => by
    rw [lexS_step] at h1 h2
    by_cases e : x = y
    · subst e
      rw [if_pos rfl] at h1 h2
      rw [lexS_tot h1 h2]
    · rw [if_neg e, decide_eq_false_iff_not] at h1
      rw [if_neg (fun z => e z.symm), decide_eq_false_iff_not] at h2
      exact absurd (txt_anti h1 h2) e
/-- first by the number, then by the row -/
def numRow (p q : Int × List Str) : Bool := if p.1 = q.1 then lexS p.2 q.2 else decide (p.1 < q.1)
theorem numRow_swo {α : Type} (k : α → Int × List Str) : SrtO.Swo fun a b => numRow (k a) (k b) := by
  refine ⟨fun a b h => ?_, fun a b c h1 h2 => ?_⟩
  · unfold numRow at h ⊢
    by_cases e : (k a).1 = (k b).1
    · rw [if_pos e] at h
      rw [if_pos e.symm]
      exact lexS_no h
    · rw [if_neg e, decide_eq_true_eq] at h
      rw [if_neg (fun z => e z.symm)]
      exact decide_eq_false (by omega)
  · unfold numRow at h1 h2 ⊢
    by_cases e1 : (k b).1 = (k a).1
    · rw [if_pos e1] at h1
      by_cases e2 : (k c).1 = (k b).1
      · rw [if_pos e2] at h2
        rw [if_pos (e2.trans e1)]
        exact lexS_tr h1 h2
      · rw [if_neg e2, decide_eq_false_iff_not] at h2
        rw [if_neg (fun z => e2 (z.trans e1.symm))]
        exact decide_eq_false (by omega)
    · rw [if_neg e1, decide_eq_false_iff_not] at h1
      by_cases e2 : (k c).1 = (k b).1
      · rw [if_neg (fun z => e1 (e2.symm.trans z))]
        exact decide_eq_false (by omega)
      · rw [if_neg e2, decide_eq_false_iff_not] at h2
        rw [if_neg (by omega)]
        exact decide_eq_false (by omega)
/-! ### tuples of texts: < -/
section
open PySem.SeqAt
open PySem.AutoSeq1 (wpAny_loadPart')
open PySem.MeetsSeq PySem.MeetsSeq2 PySem.MeetsSeq3
theorem tupS_lt (p q : Addr) (us vs : Array Value) (k1 k2 : Nat) (d1 d2 : Option Addr) (z1 z2 : Array (Option Value)) (xs ys : List Str) (hx : StrsAre us.toList xs) (hy : StrsAre vs.toList ys) :
    Meets (Builtin.«tuple.__lt__» ⟨[.ref p, .ref q], []⟩)
      (fun _ R s => s.heap.get? p = some { cls := .type "tuple", dict := d1, data := .seq us k1, slots := z1 } ∧ s.heap.get? q = some { cls := .type "tuple", dict := d2, data := .seq vs k2, slots := z2 } ∧ R (.ok (.ret (.bool (lexS xs ys)))) s) :=
  .of_wp fun prog w A R s h => by
    obtain ⟨hp, gs, dr, tk, os⟩ := s
    obtain ⟨at_p, at_q, fin⟩ := h
    have sub := AutoSeq1.sub_tuple_tuple
    have l1 : us.size = xs.length := by rw [← hx.len_eq, Array.length_toList]
    have l2 : vs.size = ys.length := by rw [← hy.len_eq, Array.length_toList]
    wp_walk using wpAny_loadPart' at_p, wpAny_loadPart' at_q, wpAny_forIn_list _ (fun more b t => b.1 = none ∧ t = ⟨hp, gs, dr, tk, os⟩ ∧ ∃ (as bs : List Value) (xs' ys' : List Str), more = as.zip bs ∧
      StrsAre as xs' ∧ StrsAre bs ys' ∧ xs'.length + vs.size = ys'.length + us.size ∧ R (.ok (.ret (.bool (lexS xs' ys')))) ⟨hp, gs, dr, tk, os⟩) _
    case turn =>
      rintro ⟨u, v⟩ more b t ⟨b0, rfl, as, bs, xs', ys', em, ha, hb, hl, hR⟩
      cases ha with
      | nil => rw [List.zip_nil_left] at em; cases em
      | cons x t1 ha2 =>
        cases hb with
        | nil => rw [List.zip_nil_right] at em; cases em
        | cons y t2 hb2 =>
          rw [List.zip_cons_cons] at em
          injection em with e1 e2
          injection e1 with e3 e4
          subst e3 e4
          rw [lexS_step] at hR
          simp only [List.length_cons] at hl
          have same := SeqAt.EqAt.str_str (A := A.in1) (s := ⟨hp, gs, dr, tk, os⟩) x t1 y t2
          refine wpAny_bind (same prog w _ _ ?_)
          by_cases e : x = y
          · rw [show (x == y) = true from beq_iff_eq.mpr e]
            rw [if_pos e] at hR
            wp_walk
            exact ⟨rfl, rfl, _, _, _, _, e2, ha2, hb2, by omega, hR⟩
          · rw [show (x == y) = false from beq_eq_false_iff_ne.mpr e]
            rw [if_neg e] at hR
            have less := DT.rcLt_str A.in1 ⟨hp, gs, dr, tk, os⟩ x t1 y t2 prog w
            wp_walk using less
            exact ⟨_, rfl, by simpa using hR⟩
    case fin =>
      rintro ⟨c1, c2⟩ t ⟨b0, rfl, as, bs, xs', ys', em, ha, hb, hl, hR⟩
      simp only at b0
      subst b0
      have ev : lexS xs' ys' = decide (us.size < vs.size) := by
        cases ha with
        | nil =>
          cases hb with
          | nil =>
            simp only [List.length_nil] at hl
            exact (decide_eq_false (by omega)).symm
          | cons y t2 hb2 =>
            simp only [List.length_nil, List.length_cons] at hl
            exact (decide_eq_true (by omega)).symm
        | cons x t1 ha2 =>
          cases hb with
          | nil =>
            simp only [List.length_nil, List.length_cons] at hl
            exact (decide_eq_false (by omega)).symm
          | cons y t2 hb2 =>
            rw [List.zip_cons_cons] at em
            cases em
      rw [ev] at hR
      wp_walk
      exact ⟨_, rfl, by simpa [Builtin.Tuple.tupleCompareSizes] using hR⟩
    case h =>
      exact ⟨rfl, rfl, us.toList, vs.toList, xs, ys, rfl, hx, hy, by omega, fin⟩
end
section
variable {prog : Program} {w : World} {A : Around} {E : Value → Shared → Prop} {s : Shared}
theorem less_tupS {p q : Addr} {us vs : Array Value} {xs ys : List Str} {Q : Value → Shared → Prop} (hp : IsTup s.heap p us) (hq : IsTup s.heap q vs) (hx : StrsAre us.toList xs) (hy : StrsAre vs.toList ys) (room : A.units < cLine)
    (h : Q (.bool (lexS xs ys)) s) : wpAny (model prog w) A (compareOp .Lt (.ref p) (.ref q)) Q E s := by
  obtain ⟨⟨c1, e1, t1, z1⟩, at_p, x1, k1, y1⟩ := id hp
  obtain ⟨⟨c2, e2, t2, z2⟩, at_q, x2, k2, y2⟩ := id hq
  simp only at x1 y1 x2 y2
  subst x1 y1 x2 y2
  exact richCompare_meets_room (op := .Lt) ⟨_, at_p, rfl⟩ ⟨_, at_q, rfl⟩ PySem.F.slot_tuple_lt PySem.F.entry_tuple_lt (PySem.F.args_tuple_lt_2 _ _) (tupS_lt p q us vs k1 k2 e1 e2 z1 z2 xs ys hx hy)
    ⟨at_p, at_q, show Value.bool (lexS xs ys) ≠ Value.notImplemented ∧ Q (.bool (lexS xs ys)) s from ⟨(fun z => nomatch z), h⟩⟩ room
/-- a tuple of a number and a tuple of texts -/
def IsNR (h : Heap) (v : Value) (k : Int × List Str) : Prop := ∃ (a b : Addr) (t : Tok) (us : Array Value), v = .ref a ∧ IsTup h a #[.int k.1 t, .ref b] ∧ IsTup h b us ∧ StrsAre us.toList k.2
theorem IsNR.on {h h' : Heap} {v : Value} {k : Int × List Str} (x : IsNR h v k) (keep : ∀ b o, h.get? b = some o → o.cls = .type "tuple" → h'.get? b = some o) : IsNR h' v k := by
  obtain ⟨a, b, t, us, e, ⟨o, h1, h2, h3⟩, ⟨o2, g1, g2, g3⟩, r⟩ := x
  exact ⟨a, b, t, us, e, ⟨o, keep _ _ h1 h2, h2, h3⟩, ⟨o2, keep _ _ g1 g2, g2, g3⟩, r⟩
theorem key_row {h : Heap} {b : Addr} {us : Array Value} {xs : List Str} (hb : IsTup h b us) (hx : StrsAre us.toList xs) : IsTupleKey (L2.mixKind prog w) h (xs.map Sum.inr) b := by
  obtain ⟨o, h1, h2, n, h3⟩ := hb
  refine ⟨o, us, n, h1, h2, h3, ?_⟩
  have go : ∀ {vs : List Value} {zs : List Str}, StrsAre vs zs → ItemsAre (L2.mixKind prog w) (zs.map Sum.inr) vs := by
    intro vs zs q
    induction q with
    | nil => exact .nil
    | cons y t _ ih => exact .cons (L2.mixKind_str prog w y t) ih
  exact go hx
theorem nr_cmp {vs : List Value} {k : Value → Int × List Str} (room : A.units < cLine) (hp : ∀ v ∈ vs, IsNR s.heap v (k v)) : SrtO.Cmp prog w A s (tuples' true) (fun p => p.1 ∈ vs) (SrtO.lt2 fun v u => numRow (k v) (k u)) := by
  intro p q m1 m2
  have h1 := hp _ m1
  have h2 := hp _ m2
  show wpAny (model prog w) A (keyLt' (tuples' true) p.1 q.1) (fun r t => t = s ∧ r = numRow (k p.1) (k q.1)) (fun _ _ => False) s
  generalize k p.1 = kp at h1 ⊢
  generalize k q.1 = kq at h2 ⊢
  obtain ⟨i, xs⟩ := kp
  obtain ⟨j, ys⟩ := kq
  obtain ⟨a, b, t, us, ep, ⟨o, g1, g2, n, g3⟩, tb, rs⟩ := h1
  obtain ⟨a', b', t', us', eq, ⟨o', g1', g2', n', g3'⟩, tb', rs'⟩ := h2
  rw [ep, eq]
  refine PySem.W.kat_lt g1 g3 g1' g3' ?_
  show PySem.W.KatLex prog w A true (decide (2 < 2)) _ [(.int i t, .int j t'), (.ref b, .ref b')] 0 s
  refine PySem.W.kat_cons (SeqAt.EqAt.int_int i t j t' prog w _ _ ?_)
  refine PySem.W.kat_go (fun e1 => ?_) (fun e1 => ?_)
  · have ei : i = j := by simpa using e1
    refine PySem.W.kat_yes (PySem.W.kat_cons (wpAny_eqBool_tuple (knd := L2.mixKind prog w) room (key_row tb rs) (key_row tb' rs') ?_))
    have val : numRow (i, xs) (j, ys) = lexS xs ys := by unfold numRow; exact if_pos ei
    refine PySem.W.kat_go (fun e2 => ?_) (fun e2 => ?_)
    · have e3 : xs = ys := (List.map_inj_right (fun _ _ z => Sum.inr.inj z)).mp (of_decide_eq_true e2)
      exact PySem.W.kat_yes (PySem.W.kat_nil ⟨rfl, by rw [val, e3, lexS_self]; rfl⟩)
    · refine PySem.W.kat_no (PySem.W.kat_one _ _ (less_tupS tb tb' rs rs' room ?_))
      exact (show s = s ∧ lexS xs ys = numRow (i, xs) (j, ys) from ⟨rfl, val.symm⟩)
  · have ei : ¬ i = j := by simpa using e1
    have val : numRow (i, xs) (j, ys) = decide (i < j) := by unfold numRow; exact if_neg ei
    exact PySem.W.kat_no (oneLt_int ⟨rfl, val.symm⟩)
theorem nr_firsts {h : Heap} {k : Value → Int × List Str} : ∀ {vs : List Value}, (∀ v ∈ vs, IsNR h v (k v)) → ∃ fs : List Value, PySem.W.KatTups h vs fs ∧ fs.length = vs.length ∧ ∀ f ∈ fs, ∃ i t, f = Value.int i t
  | [], _ => ⟨[], PySem.W.KatTups.nil, rfl, fun _ z => nomatch z⟩
  | v :: vs, hp => by
    obtain ⟨fs, g1, g2, g3⟩ := nr_firsts (vs := vs) fun u hu => hp u (List.mem_cons_of_mem _ hu)
    obtain ⟨a, b, t, us, rfl, ⟨o, h1, h2, n, h3⟩, _⟩ := hp v List.mem_cons_self
    refine ⟨.int (k (.ref a)).1 t :: fs, PySem.W.KatTups.cons h1 h2 h3 rfl g1, congrArg (· + 1) g2, fun f hf => ?_⟩
    rcases List.mem_cons.mp hf with rfl | hf
    · exact ⟨_, t, rfl⟩
    · exact g3 f hf
theorem nr_sortable {a : Addr} {vs : List Value} {k : Value → Int × List Str} (room : A.units < cLine) (h0 : 0 < vs.length) (hp : ∀ v ∈ vs, IsNR s.heap v (k v)) (ha : ∀ o, s.heap.get? a = some o → o.cls ≠ .type "tuple") : SrtO.SortableO prog w A s a vs fun v u => numRow (k v) (k u) := by
  intro h' keep
  have hp' : ∀ v ∈ vs, IsNR h' v (k v) := fun v hv => (hp v hv).on fun b o e c => keep b o (fun z => by subst z; exact ha o e c) e
  obtain ⟨fs, g1, g2, g3⟩ := nr_firsts hp'
  refine ⟨tuples' true, fun Q E hq => ?_, nr_cmp (s := { s with heap := h' }) room hp'⟩
  refine PySem.W.kat_kind (T := .type "int") g1 (by omega) (fun f hf => ?_) (by rfl) ?_
  · obtain ⟨i, t, rfl⟩ := g3 f hf
    exact PySem.W.Looks.now
  · rw [show (Value.type "int" != Value.type "tuple") = true by first | decide +kernel | rfl]
    exact hq
end
end Rw
namespace L2
open PySem PySem.Spec PyProof.Rows
/-- sorted(xs), xs a list of tuples of a number and a tuple of texts: a new list, in order -/
def rSortNR (K : PySem.W.Frag) : List V → Hp → VK → Prop := fun vs H Q => ∃ (a : Addr) (xs : List V) (k : V → Int × List Str), vs = [V.ref a] ∧ SqL K H a xs ∧ (∀ x ∈ xs, ∃ t b, x = V.ref t ∧ H t = some (.tup [.int (k x).1, .ref b]) ∧ H b = some (.tup ((k x).2.map V.str))) ∧
  ∀ ys p, ys.Perm xs → SrtO.Srtd (fun x y => Rw.numRow (k x) (k y)) ys → H p = none → Q (.ref p) (upd H p (.lst ys))
theorem cr_sortNR {X : Cx} (room : X.A.units + 2 < cLine) : CallR X (.builtin "sorted") (rSortNR X.K) := by
  intro pins s σ H vs us Q I r h
  obtain ⟨a, xs, k, rfl, hs, hx, q⟩ := h
  obtain ⟨its, rv, hl, hz⟩ := I.list hs
  obtain ⟨u, rfl, ru⟩ := vals1 r
  obtain rfl : u = Value.ref a := ru
  obtain ⟨e1, e2⟩ := refs_back rv fun x m => by
    obtain ⟨t, _, e, _⟩ := hx x m
    exact ⟨t, e⟩
  have all : ∀ v ∈ its, Rw.IsNR s.heap v (k (backV v)) := fun v hv => by
    obtain ⟨t, rfl⟩ := e2 v hv
    have hm : V.ref t ∈ xs := by rw [e1]; exact List.mem_map.mpr ⟨_, hv, rfl⟩
    obtain ⟨t', b, e, ht, hb⟩ := hx _ hm
    cases e
    obtain ⟨_, i2, r2, o, ho, hc, n, hd⟩ := I.hok _ _ ht
    obtain ⟨u1, u2, rfl, ri, rj⟩ := vals2 r2
    obtain ⟨t1, rfl⟩ := ri
    cases rj
    obtain ⟨_, i3, r3, o3, ho3, hc3, n3, hd3⟩ := I.hok _ _ hb
    exact ⟨t, b, t1, i3.toArray, rfl, ⟨o, ho, hc, n, hd⟩, ⟨o3, ho3, hc3, n3, hd3⟩, Vals.strs r3⟩
  refine SrtO.sorted_ord (Rw.numRow_swo fun v => k (backV v)) hl.isList (by rw [← rv.length]; exact hz) (fun h2 h1 d hd kk => ?_) fun out hs1 hb1 => ?_
  · refine Rw.nr_sortable (s := { s with heap := h1 }) (by show X.A.units + 1 + 1 < cLine; omega) (by omega) (fun v hv => (all v hv).on fun b o e _ => (kk b o e).2) fun o e => ?_
    have e' : some o = some (seqObj "list" its.toArray 0) := e.symm.trans hd
    cases e'
    intro c
    exact absurd (Value.type.inj c) (by decide)
  · have h3 : ∀ u ∈ out, ∃ a, u = Value.ref a := fun u hu => e2 u (hb1.perm.mem_iff.mp hu)
    have hp : (out.map backV).Perm xs := by rw [e1]; exact hb1.perm.map _
    obtain ⟨n, hn⟩ := sortedAll_at s.heap its out.toArray
    refine ⟨.ref (s.heap.objs.size + 1), upd H (s.heap.objs.size + 1) (.lst (out.map backV)), I.laid (t' := s.toks) (fun b o e => sortedAll_old e) (Nat.le_succ _) ⟨?_, out, n, vals_back h3, hn⟩, rfl, q _ _ hp (SrtO.srtd_map (f := backV) (lt := fun x y => Rw.numRow (k x) (k y)) hs1) (I.hok.fresh (Nat.le_succ _))⟩
    rw [hp.length_eq]
    exact hz
end L2
end T_S3

section T_S8
set_option Elab.async false
set_option linter.all false
set_option maxRecDepth 100000
set_option maxHeartbeats 4000000
/-! sorted of tuples of texts by a key that is a lambda: first their length, then themselves -/
namespace Rw
open PySem PySem.Spec PyProof.Rows L2 SrtO Srt
/-- while the keys are made: kl the keys so far, one for each of the first items -/
structure KeySt (X : Cx) (H : Hp) (s : Shared) (kS a : Addr) (e1 : Nat) (xs : List V) (kt : V → List V) (i : Nat) (H' : Hp) (kl : List Value) (e : Nat) (s' : Shared) : Prop where
  un : Un (frs X.stack) [] H H' s.heap s'.heap
  hok : HOk X.prog X.w H' s'.heap
  os : s'.os = s.os
  bare : AllBare s'.gens
  hk : s'.heap.get? kS = some (seqObj "list" kl.toArray e)
  nk : H' kS = none
  ha : s'.heap.get? a = some (seqObj "list" #[] e1)
  na : H' a = none
  ex : ∀ b o, H b = some o → H' b = some o
  len : kl.length = i
  keys : ∀ (j : Nat) (u : Value), kl[j]? = some u → ∃ (p : Addr) (x : V), u = Value.ref p ∧ xs[j]? = some x ∧ H' p = some (.tup (kt x))
section
variable {X : Cx} {pins : List (Addr × Obj)} {σ : L2.St} {H : Hp} {s : Shared} {kS a fa : Addr} {e1 : Nat} {xs : List V} {kt : V → List V} {fo : Obj} {its : List Value} {A : Around} {E : Value → Shared → Prop}
theorem notFrame (I : Inv X pins σ H s) {b : Addr} (h : s.heap.objs.size ≤ b) : b ∉ frs X.stack := fun z => by
  rcases List.mem_cons.mp (I.stkSub _ z) with e | e
  · have h1 := I.lt
    rw [← e] at h1
    exact Nat.lt_irrefl _ (Nat.lt_of_lt_of_le h1 h)
  · exact I.nofs h e
theorem keys_made {P : PySem.Fin → Shared → Prop} {s0 : Shared} {H0 : Hp} (I : Inv X pins σ H s) (rv : Vals xs its) (hz : its.length ≤ sizeLine) (hfa : s.heap.get? fa = some fo) (nfa : H fa = none) (ffa : fa ∉ frs X.stack)
    (hsa : s.heap.objs.size ≤ a) (hsk : s.heap.objs.size ≤ kS) (hka : kS ≠ a)
    (turn : ∀ (j : Nat) (x : V) (v : Value) (H' : Hp) (s' : Shared), xs[j]? = some x → RelV x v → Inv X pins σ H' s' → (∀ b o, H b = some o → H' b = some o) → s'.heap.get? fa = some fo → H' fa = none →
      wpAny (model X.prog X.w) A (call (.ref fa) [v]) (CE X.stack X.prog X.w H' s' (fun w H'' => ∃ p, w = .ref p ∧ H' p = none ∧ H'' = upd H' p (.tup (kt x)))) (fun _ _ => False) s')
    (e0 : Nat) (K0 : KeySt X H s kS a e1 xs kt 0 H0 [] e0 s0)
    (h : ∀ (H' : Hp) (kl : List Value) (e : Nat) (s' : Shared), KeySt X H s kS a e1 xs kt its.length H' kl e s' → wpAny (model X.prog X.w) A (ksk_end a false its.toArray e1 (.ref kS) kl.toArray) P E s') :
    wpAny (model X.prog X.w) A (ksk_rest a (.ref fa) false its.toArray e1 (.ref kS)) P E s0 := by
  have nfk := notFrame I hsk
  have nfA := notFrame I hsa
  unfold ksk_rest
  refine wpAny_bind (wpAny_rule ?_)
  first
    | rw [List.forIn_toArray]
    | (rw [← Array.forIn_toList]; simp only [List.toList_toArray])
    | rw [← Array.forIn_toList]
  refine wpAny_bind (ksk_fold (fun i s' => ∃ H' kl e, KeySt X H s kS a e1 xs kt i H' kl e s') its 0 s0 ⟨H0, [], e0, K0⟩ ?step ?done)
  case step =>
    rintro j v s' hv ⟨H', kl, e, K⟩
    simp only [Nat.zero_add] at K ⊢
    obtain ⟨x, hx, rx⟩ : ∃ x, xs[j]? = some x ∧ RelV x v := by
      have hj : j < its.length := (List.getElem?_eq_some_iff.mp hv).1
      have hjx : j < xs.length := by rw [rv.length]; exact hj
      obtain ⟨u, hu, r⟩ := Vals.get (i := j) (x := xs[j]) rv (List.getElem?_eq_getElem hjx)
      rw [hv] at hu
      cases hu
      exact ⟨_, List.getElem?_eq_getElem hjx, r⟩
    have hjl : j < its.length := (List.getElem?_eq_some_iff.mp hv).1
    have I1 : Inv X pins σ H' s' := I.call' (ch := []) K.os K.un K.hok K.bare (fun _ z => absurd z (by simp))
    have f1 : s'.heap.get? fa = some fo := K.un.keep fa fo hfa nfa ffa (by simp)
    have f2 : H' fa = none := K.un.free fa fo hfa nfa (by simp)
    refine wpAny_bind (wpAny_attempt (wpAny_mono (turn j x v H' s' hx rx I1 K.ex f1 f2) (fun u s'' he => ?_) fun _ _ hF => hF.elim))
    obtain ⟨w', H2, os2, bare2, un2, hok2, rw2, p, rfl, hp, rfl⟩ := he
    obtain rfl : u = Value.ref p := rw2
    try dsimp only
    have un12 := K.un.trans un2
    have hk2 : s''.heap.get? kS = some (seqObj "list" kl.toArray e) := un2.keep kS _ K.hk K.nk nfk (by simp)
    have nk2 : (upd H' p (.tup (kt x))) kS = none := un2.free kS _ K.hk K.nk (by simp)
    have ha2 : s''.heap.get? a = some (seqObj "list" #[] e1) := un2.keep a _ K.ha K.na nfA (by simp)
    have na2 : (upd H' p (.tup (kt x))) a = none := un2.free a _ K.ha K.na (by simp)
    have kz : kl.toArray.size ≤ its.length := by
      rw [List.size_toArray, K.len]
      omega
    have s1 := Heap.SameBut.update s''.heap kS (Obj.mapSeq (·.push (Value.ref p)))
    obtain ⟨c2, hc2⟩ : ∃ c2, (s''.heap.update kS (Obj.mapSeq (·.push (Value.ref p)))).get? kS = some (seqObj "list" (kl.toArray.push (Value.ref p)) c2) := ⟨_, get?_update_seq hk2 (·.push (Value.ref p))⟩
    have ea : kl.toArray.push (Value.ref p) = (kl ++ [Value.ref p]).toArray := by simp
    refine wpAny_bind (listUpdate_at hk2 rfl ?_ (Nat.le_trans kz hz) (Nat.le_trans (Nat.le_of_eq (Array.size_push ..)) (by omega)))
    have other : ∀ b, b ≠ kS → (s''.heap.update kS (Obj.mapSeq (·.push (Value.ref p)))).get? b = s''.heap.get? b := fun b hb => s1.2 b hb
    have old : ∀ b o, s.heap.get? b = some o → b ≠ kS := fun b o q => Nat.ne_of_lt (Nat.lt_of_lt_of_le (Heap.lt_size q) hsk)
    have trk : ∀ b o, (upd H' p (.tup (kt x))) b = some o → b ≠ kS := fun b o q z => by
      rw [z, nk2] at q
      cases q
    refine wpAny_pure ⟨rfl, upd H' p (.tup (kt x)), kl ++ [Value.ref p], c2, ?_⟩
    refine ⟨⟨fun b o q n hb hx => ?_, fun b o q n hb hx => ?_, un12.free, fun b o q hx => ?_, un12.tups, un12.frzs, un12.tbls⟩, ?_, os2.trans K.os, bare2, ?_, nk2, ?_, na2, fun b o q => ?_, ?_, fun i u hu => ?_⟩
    · exact (other b (old b o q)).trans (un12.keep b o q n hb hx)
    · obtain ⟨sl, q2⟩ := un12.slot b o q n hb hx
      exact ⟨sl, (other b (old b o q)).trans q2⟩
    · obtain ⟨o', q2⟩ := un12.there b o q hx
      exact ⟨o', (other b (old b o q)).trans q2⟩
    · intro b o q
      refine (hok2 b o q).stay (fun c w2 hc q2 => (other c ?_).trans q2) (fun _ q => q) fun _ _ q => q
      rcases hc with z | z
      · rw [z]
        exact trk b o q
      · exact trk c _ z
    · rw [← ea]
      exact hc2
    · exact (other a hka.symm).trans ha2
    · have q1 := K.ex b o q
      rw [upd_ne (ne_of_none q1 hp)]
      exact q1
    · rw [List.length_append, K.len]
      rfl
    · by_cases hi : i < kl.length
      · rw [List.getElem?_append_left hi] at hu
        obtain ⟨p', x', r1, r2, r3⟩ := K.keys i u hu
        exact ⟨p', x', r1, r2, by rw [upd_ne (ne_of_none r3 hp)]; exact r3⟩
      · have hi2 : i = kl.length := by
          have := (List.getElem?_eq_some_iff.mp hu).1
          rw [List.length_append] at this
          simp only [List.length_cons, List.length_nil] at this
          omega
        subst hi2
        rw [List.getElem?_append_right (Nat.le_refl _), Nat.sub_self] at hu
        cases hu
        exact ⟨p, x, rfl, by rw [K.len]; exact hx, upd_same⟩
  case done =>
    rintro s' ⟨H', kl, e, K⟩
    simp only [Nat.zero_add] at K
    try dsimp only
    refine wpAny_bind (listItems_at K.hk rfl ?_)
    exact h H' kl e s' K
end
end Rw
end T_S8

section T_S9
set_option Elab.async false
set_option linter.all false
set_option maxRecDepth 100000
set_option maxHeartbeats 4000000
namespace Rw
open PySem PySem.Spec PyProof.Rows L2 SrtO Srt
/-- what a key tells: its number, its row -/
def unS : List V → List Str
  | [] => []
  | .str z :: r => z :: unS r
  | _ :: r => unS r
theorem unS_strs : ∀ zs : List Str, unS (zs.map V.str) = zs
  | [] => rfl
  | z :: zs => congrArg (List.cons z) (unS_strs zs)
def keyOf (H : Hp) (v : Value) : Int × List Str :=
  match v with
  | .ref p => match H p with
    | some (.tup [.int n, .ref b]) => match H b with
      | some (.tup vs) => (n, unS vs)
      | _ => (n, [])
    | _ => (0, [])
  | _ => (0, [])
theorem keyOf_at {H : Hp} {p b : Addr} {n : Int} {zs : List Str} (h1 : H p = some (.tup [.int n, .ref b])) (h2 : H b = some (.tup (zs.map V.str))) : keyOf H (.ref p) = (n, zs) := by
  unfold keyOf
  simp only [h1, h2, unS_strs]
section
variable {X : Cx} {pins : List (Addr × Obj)} {σ : L2.St} {H : Hp} {s : Shared} {kS a : Addr} {e1 : Nat} {xs : List V} {its : List Value} {A : Around} {E : Value → Shared → Prop} {k : V → List Str}
abbrev ktOf (k : V → List Str) (x : V) : List V := [.int ((k x).length : Int), x]
abbrev lenRow (k : V → List Str) (x : V) : Int × List Str := (((k x).length : Int), k x)
theorem key_nr {P : Program} {w : World} {H' : Hp} {h : Heap} (hok : HOk P w H' h) {p b : Addr} {n : Int} {zs : List Str} (h1 : H' p = some (.tup [.int n, .ref b])) (h2 : H' b = some (.tup (zs.map V.str))) : IsNR h (.ref p) (n, zs) := by
  obtain ⟨_, i2, r2, o, ho, hc, m, hd⟩ := hok _ _ h1
  obtain ⟨u1, u2, rfl, ri, rj⟩ := vals2 r2
  obtain ⟨t1, rfl⟩ := ri
  cases rj
  obtain ⟨_, i3, r3, o3, ho3, hc3, n3, hd3⟩ := hok _ _ h2
  exact ⟨p, b, t1, i3.toArray, rfl, ⟨o, ho, hc, m, hd⟩, ⟨o3, ho3, hc3, n3, hd3⟩, Vals.strs r3⟩
/-- each pair of a key and an item -/
theorem pair_key {H' : Hp} {kl : List Value} {e : Nat} {s' : Shared} (K : KeySt X H s kS a e1 xs (ktOf k) its.length H' kl e s') (rv : Vals xs its) (hx : ∀ x ∈ xs, ∃ b, x = V.ref b ∧ H b = some (.tup ((k x).map V.str))) {q : Keyed} (hq : q ∈ kl.zip its) :
    ∃ x ∈ xs, RelV x q.2 ∧ keyOf H' q.1 = lenRow k x ∧ IsNR s'.heap q.1 (lenRow k x) := by
  obtain ⟨j, hj, ej⟩ := List.getElem_of_mem hq
  rw [List.getElem_zip] at ej
  rw [List.length_zip] at hj
  have h1 : kl[j]? = some q.1 := by rw [List.getElem?_eq_getElem (by omega)]; exact congrArg some (congrArg Prod.fst ej)
  have h2 : its[j]? = some q.2 := by rw [List.getElem?_eq_getElem (by omega)]; exact congrArg some (congrArg Prod.snd ej)
  obtain ⟨p, x, ep, ex, hp⟩ := K.keys j _ h1
  have hm := List.mem_of_getElem? ex
  obtain ⟨b, rfl, hb⟩ := hx x hm
  obtain ⟨u, hu, ru⟩ := Vals.get rv ex
  rw [h2] at hu
  cases hu
  have hb' := K.ex _ _ hb
  rw [ep]
  exact ⟨.ref b, hm, ru, keyOf_at hp hb', key_nr K.hok hp hb'⟩
theorem nr_any {vs : List Value} {prog : Program} {w : World} {B : Around} {s1 : Shared} {kk : Value → Int × List Str} (room : B.units < cLine) (hp : ∀ v ∈ vs, IsNR s1.heap v (kk v)) {P : Keyed → Prop} (hP : ∀ p, P p → p.1 ∈ vs) :
    Cmp prog w B s1 (tuples' true) P (lt2 fun v u => numRow (kk v) (kk u)) := fun p q m1 m2 => nr_cmp (A := B) room hp p q (hP p m1) (hP q m2)
theorem keyed_end {P : PySem.Fin → Shared → Prop} {H' : Hp} {kl : List Value} {e : Nat} {s' : Shared} (K : KeySt X H s kS a e1 xs (ktOf k) its.length H' kl e s') (rv : Vals xs its) (hz : its.length ≤ sizeLine) (hka : kS ≠ a) (room : A.units < cLine)
    (hx : ∀ x ∈ xs, ∃ b, x = V.ref b ∧ H b = some (.tup ((k x).map V.str)))
    (h : ∀ ps : List Keyed, ps.Perm (kl.zip its) → Srtd (lt2 fun v u => numRow (keyOf H' v) (keyOf H' u)) ps →
      P (.done (.ret .none)) { s' with heap := (s'.heap.update kS (Obj.mapSeq fun _ => (#[] : Array Value))).update a (Obj.mapSeq fun _ => (ps.map (·.2)).toArray) }) :
    wpAny (model X.prog X.w) A (ksk_end a false its.toArray e1 (.ref kS) kl.toArray) P E s' := by
  have hzl : kl.length = its.length := K.len
  have hzs : (kl.toArray.zip its.toArray).size = its.length := by rw [Array.size_zip, List.size_toArray, List.size_toArray, hzl, Nat.min_self]
  have ez : (kl.toArray.zip its.toArray).toList = kl.zip its := by rw [ksk_zip]
  have allNR : ∀ v ∈ kl, IsNR s'.heap v (keyOf H' v) := fun v hv => by
    obtain ⟨j, hj, ej⟩ := List.getElem_of_mem hv
    have hm : (v, its[j]'(by omega)) ∈ kl.zip its := by
      have : (kl.zip its)[j]'(by rw [List.length_zip]; omega) = (v, its[j]'(by omega)) := by rw [List.getElem_zip, ej]
      rw [← this]
      exact List.getElem_mem _
    obtain ⟨x, _, _, e2, e3⟩ := pair_key K rv hx hm
    rw [e2]
    exact e3
  have tail : ∀ st : SortSt, (arrOf st).toList.Perm (kl.zip its) → Srtd (lt2 fun v u => numRow (keyOf H' v) (keyOf H' u)) (arrOf st).toList → failedOf st = none →
      wpAny (model X.prog X.w) A (ksk_tail a false e1 (.ref kS) st) P E s' := fun st hp hs hf => by
    have na1 : (s'.heap.update kS (Obj.mapSeq fun _ => (#[] : Array Value))).get? a = some (seqObj "list" #[] e1) := ((Heap.SameBut.update s'.heap kS (Obj.mapSeq fun _ => (#[] : Array Value))).2 a hka.symm).trans K.ha
    have hsz2 : (arrOf st).size = its.length := by
      have := hp.length_eq
      rw [Array.length_toList, List.length_zip, hzl, Nat.min_self] at this
      exact this
    have eo : (if false = true then ((arrOf st).map (·.2)).reverse else (arrOf st).map (·.2)) = (((arrOf st).toList).map (·.2)).toArray := by
      rw [if_neg (by decide)]
      apply Array.ext'
      rw [Array.toList_map]
    unfold ksk_tail
    try dsimp only
    refine wpAny_bind (listUpdate_at K.hk rfl ?_ (by rw [List.size_toArray, hzl]; exact hz) (Nat.zero_le _))
    refine wpAny_bind (wpAny_letGo ?_)
    refine wpAny_bind (seqEpoch_at na1 rfl ?_)
    rw [eo]
    refine wpAny_bind (listUpdate_at na1 rfl ?_ (Nat.zero_le _) (by rw [List.size_toArray, List.length_map, Array.length_toList, hsz2]; omega))
    rw [hf]
    simp only [bne_self_eq_false, Bool.false_eq_true, if_false]
    exact wpAny_pure (h _ hp hs)
  unfold ksk_end
  try dsimp only
  rw [if_neg (show ¬ (false = true) by decide), if_neg (show ¬ (false = true) by decide)]
  by_cases h2 : its.toArray.size < 2
  · rw [if_pos h2, if_pos h2]
    refine wpAny_bind (wpAny_pure ?_)
    rw [StateT.run_pure]
    refine wpAny_bind (wpAny_pure ?_)
    try dsimp only
    refine tail (SortSt.mk' general' (kl.toArray.zip its.toArray) #[] 7 none) (by show ((kl.toArray.zip its.toArray).toList).Perm _; rw [ez]) ?_ rfl
    show Srtd _ (kl.toArray.zip its.toArray).toList
    have hl : (kl.toArray.zip its.toArray).toList.length < 2 := by
      rw [Array.length_toList, hzs]
      rw [List.size_toArray] at h2
      exact h2
    generalize (kl.toArray.zip its.toArray).toList = L at hl
    match L, hl with
    | [], _ => exact List.Pairwise.nil
    | [v], _ => exact List.pairwise_singleton _ _
  · rw [if_neg h2, if_neg h2]
    rw [List.size_toArray] at h2
    obtain ⟨fs, g1, g2, g3⟩ := nr_firsts (h := s'.heap) allNR
    have hkind : ∀ (Q : SortKind → Shared → Prop) (E : Value → Shared → Prop), Q (tuples' true) s' → wpAny (model X.prog X.w) A (keyKind' kl.toArray) Q E s' := fun Q E hq => by
      refine PySem.W.kat_kind (T := .type "int") g1 (by omega) (fun f hf => ?_) (by rfl) ?_
      · obtain ⟨i, t, rfl⟩ := g3 f hf
        exact PySem.W.Looks.now
      · rw [show (Value.type "int" != Value.type "tuple") = true by first | decide +kernel | rfl]
        exact hq
    refine wpAny_bind (hkind _ _ ?_)
    have hall : AllL (fun p : Keyed => p.1 ∈ kl) (kl.toArray.zip its.toArray).toList := fun p hm => by
      rw [ez] at hm
      obtain ⟨p1, p2⟩ := p
      exact (List.of_mem_zip hm).1
    refine wpAny_bind (wpAny_mono (wpS_sortO (st0 := SortSt.mk' (tuples' true) (kl.toArray.zip its.toArray) #[] 7 none)
      (Q := fun _ st' => Srtd (lt2 fun v u => numRow (keyOf H' v) (keyOf H' u)) (arrOf st').toList ∧ Stb (lt2 fun v u => numRow (keyOf H' v) (keyOf H' u)) (arrOf st').toList (kl.toArray.zip its.toArray).toList ∧ failedOf st' = none) (swo2 (numRow_swo fun v => keyOf H' v))
      (nr_any room allNR fun p hp => hp) rfl hall rfl rfl fun st' a1 a2 a3 => ⟨a1, a2, a3⟩) ?_ fun _ _ e => e)
    rintro ⟨⟨⟩, st'⟩ s2 ⟨rfl, hp1, hp2, hf⟩
    try dsimp only
    have hp3 := hp2.perm
    rw [ez] at hp3
    exact tail st' hp3 hp1 hf
end
end Rw
end T_S9

section T_SA
set_option Elab.async false
set_option linter.all false
set_option maxRecDepth 100000
set_option maxHeartbeats 4000000
namespace Rw
open PySem PySem.Spec PyProof.Rows L2 SrtO Srt
section
variable {X : Cx} {pins : List (Addr × Obj)} {σ : L2.St} {H : Hp} {s : Shared} {fa l : Addr} {xs : List V} {fo : Obj} {k : V → List Str} {E : Value → Shared → Prop}
/-- the keyed pairs, sorted, tell the items sorted -/
theorem items_srtd {H' : Hp} {its : List Value} {kl : List Value} {kS a : Addr} {e1 e : Nat} {s' : Shared} (K : KeySt X H s kS a e1 xs (ktOf k) its.length H' kl e s') (rv : Vals xs its) (hx : ∀ x ∈ xs, ∃ b, x = V.ref b ∧ H b = some (.tup ((k x).map V.str)))
    {ps : List Keyed} (hp : ps.Perm (kl.zip its)) (hs : Srtd (lt2 fun v u => numRow (keyOf H' v) (keyOf H' u)) ps) :
    Srtd (fun x y => numRow (lenRow k x) (lenRow k y)) (ps.map fun p => backV p.2) ∧ (ps.map fun p => backV p.2).Perm xs ∧ ∀ u ∈ ps.map (·.2), ∃ b, u = Value.ref b := by
  obtain ⟨e1', e2'⟩ := refs_back rv fun x m => by
    obtain ⟨b, e, _⟩ := hx x m
    exact ⟨b, e⟩
  have hzl : kl.length = its.length := K.len
  have hm : (kl.zip its).map (·.2) = its := List.map_snd_zip (by omega)
  have hback : ∀ p ∈ ps, keyOf H' p.1 = lenRow k (backV p.2) := fun p hm2 => by
    obtain ⟨x, hxm, rx, e3, _⟩ := pair_key K rv hx (hp.mem_iff.mp hm2)
    obtain ⟨b, rfl, _⟩ := hx x hxm
    have e4 : p.2 = Value.ref b := rx
    rw [e3, e4]
    rfl
  refine ⟨?_, ?_, fun u hu => ?_⟩
  · show List.Pairwise _ _
    rw [List.pairwise_map]
    refine List.Pairwise.imp_of_mem ?_ hs
    intro p q hp1 hq1 hlt
    show numRow (lenRow k (backV q.2)) (lenRow k (backV p.2)) = false
    rw [← hback p hp1, ← hback q hq1]
    exact hlt
  · have h1 := hp.map (fun p : Keyed => backV p.2)
    have h2 : (kl.zip its).map (fun p : Keyed => backV p.2) = ((kl.zip its).map (·.2)).map backV := by rw [List.map_map]; rfl
    rw [h2, hm, ← e1'] at h1
    exact h1
  · obtain ⟨p, hp1, rfl⟩ := List.mem_map.mp hu
    have := (List.of_mem_zip (show (p.1, p.2) ∈ kl.zip its from hp.mem_iff.mp hp1)).2
    exact e2' _ this
/-- sorted(l, key=f), f an object that makes for each item the pair of its length and itself -/
theorem sorted_key {Q : VK} (I : Inv X pins σ H s) (hs : SqL X.K H l xs) (hx : ∀ x ∈ xs, ∃ b, x = V.ref b ∧ H b = some (.tup ((k x).map V.str))) (hfa : s.heap.get? fa = some fo) (nfa : H fa = none) (ffa : fa ∉ frs X.stack) (room : X.A.units + 2 < cLine)
    (turn : ∀ (j : Nat) (x : V) (v : Value) (H' : Hp) (s' : Shared), xs[j]? = some x → RelV x v → Inv X pins σ H' s' → (∀ b o, H b = some o → H' b = some o) → s'.heap.get? fa = some fo → H' fa = none →
      wpAny (model X.prog X.w) X.A.in1.in1 (call (.ref fa) [v]) (CE X.stack X.prog X.w H' s' (fun w H'' => ∃ p, w = .ref p ∧ H' p = none ∧ H'' = upd H' p (.tup (ktOf k x)))) (fun _ _ => False) s')
    (q : ∀ (ys : List V) (p : Addr) (H' : Hp), ys.Perm xs → Srtd (fun x y => numRow (lenRow k x) (lenRow k y)) ys → (∀ b o, H b = some o → H' b = some o) → H p = none → H' p = some (.lst ys) → Q (.ref p) H') :
    wpAny (model X.prog X.w) X.A (call (.builtin "sorted") [.ref l] [(Str.ofString "key", .ref fa)]) (EP X pins σ Q) X.xe s := by
  obtain ⟨its, rv, hl0, hz⟩ := I.list hs
  have hl := hl0.isList
  have hzi : its.length ≤ sizeLine := by rw [← rv.length]; exact hz
  refine call_function_entry_kw kind_sorted plain_sorted entry_sorted (ksk_s1 _ _) ?_
  unfold Builtin.«sorted»
  refine wpAny_bind (m := checkCount "sorted" 1 1 _) (wpAny_pure ?_)
  refine wpAny_bind (collect_list hl ?_ hzi)
  refine wpAny_bind (wpAny_newList ?_ hzi)
  have hsz : ((s.heap.push (seqObj "list" #[] 0)).update s.heap.objs.size (Obj.mapSeq (· ++ its.toArray))).objs.size = s.heap.objs.size + 1 := by
    rw [Heap.size_update, size_push']
  have hoL : (((s.heap.push (seqObj "list" #[] 0)).update s.heap.objs.size (Obj.mapSeq (· ++ its.toArray))).push (seqObj "list" its.toArray 0)).get? (s.heap.objs.size + 1) = some (seqObj "list" its.toArray 0) := by
    rw [← hsz]; exact Heap.get?_push_size _ rfl
  have keep : ∀ b o, s.heap.get? b = some o → (((s.heap.push (seqObj "list" #[] 0)).update s.heap.objs.size (Obj.mapSeq (· ++ its.toArray))).push (seqObj "list" its.toArray 0)).get? b = some o := fun b o q => by
    have hlt : b < s.heap.objs.size := Heap.lt_size q
    rw [Heap.get?_push_ne _ _ _ (by rw [hsz]; exact Nat.ne_of_lt (Nat.lt_succ_of_lt hlt)), Heap.get?_update_ne _ _ _ _ (Nat.ne_of_lt hlt), Heap.get?_push_ne _ _ _ (Nat.ne_of_lt hlt)]
    exact q
  show wpAny _ _ _ _ _ { s with heap := ((s.heap.push (seqObj "list" #[] 0)).update s.heap.objs.size (Obj.mapSeq (· ++ its.toArray))).push (seqObj "list" its.toArray 0) }
  rw [hsz]
  have hsz2 : (((s.heap.push (seqObj "list" #[] 0)).update s.heap.objs.size (Obj.mapSeq (· ++ its.toArray))).push (seqObj "list" its.toArray 0)).objs.size = s.heap.objs.size + 2 := by
    rw [size_push', hsz]
  generalize hG : ((s.heap.push (seqObj "list" #[] 0)).update s.heap.objs.size (Obj.mapSeq (· ++ its.toArray))).push (seqObj "list" its.toArray 0) = G at hoL keep hsz2 ⊢
  generalize ha : s.heap.objs.size + 1 = a at hoL ⊢
  refine wpAny_bind (wpAny_holding (wpAny_call_entry_kw slot_list_sort ⟨_, hoL, rfl⟩ entry_list_sort ?body (ksk_l1 _ _)))
  case body =>
    show wpAny (model X.prog X.w) X.A.in1.in1 (Builtin.«list.sort» ⟨[.ref a], [(Str.ofString "key", .ref fa)]⟩) _ _ _
    rw [ksk_t1]
    have haG : a < G.objs.size := Heap.lt_size hoL
    have s1 := Heap.SameBut.update G a (Obj.mapSeq fun _ => (#[] : Array Value))
    obtain ⟨e1, ho1⟩ : ∃ e1, (G.update a (Obj.mapSeq fun _ => (#[] : Array Value))).get? a = some (seqObj "list" #[] e1) := ⟨_, get?_update_seq hoL fun _ => #[]⟩
    have hkS : ((G.update a (Obj.mapSeq fun _ => (#[] : Array Value))).push (seqObj "tuple" its.toArray 0)).objs.size = s.heap.objs.size + 3 := by rw [size_push', Heap.size_update, hsz2]
    unfold ksk_tree
    refine wpAny_bind (listItems_at hoL rfl ?_)
    refine wpAny_bind (listUpdate_at hoL rfl ?_ (by rw [List.size_toArray]; exact hzi) (Nat.zero_le _))
    refine wpAny_bind (seqEpoch_at ho1 rfl ?_)
    refine wpAny_bind (wpAny_newTuple ?_ (by show its.length ≤ _; exact hzi))
    refine wpAny_bind (wpAny_newList ?_ (Nat.zero_le _))
    refine wpAny_holding ?_
    have hka : s.heap.objs.size + 3 ≠ a := by omega
    show wpAny _ _ _ _ _ { s with heap := ((G.update a (Obj.mapSeq fun _ => (#[] : Array Value))).push (seqObj "tuple" its.toArray 0)).push (seqObj "list" #[] 0) }
    rw [hkS]
    have old : ∀ b o, s.heap.get? b = some o → (((G.update a (Obj.mapSeq fun _ => (#[] : Array Value))).push (seqObj "tuple" its.toArray 0)).push (seqObj "list" #[] 0)).get? b = some o := fun b o e =>
      Heap.get?_push_of_some _ (Heap.get?_push_of_some _ ((s1.2 b (Nat.ne_of_lt (Nat.lt_of_lt_of_le (Heap.lt_size e) (by rw [← ha]; exact Nat.le_succ _)))).trans (keep b o e)))
    refine keys_made (X := X) (H := H) (s := s) (kS := s.heap.objs.size + 3) (a := a) (e1 := e1) (xs := xs) (kt := ktOf k) (H0 := H) I rv hzi hfa nfa ffa (by omega) (by omega) hka turn 0 ?_ ?_
    · refine ⟨Un.kept old, I.hok.kept old, rfl, I.bare, ?_, I.hok.fresh (by omega), ?_, I.hok.fresh (by omega), fun _ _ e => e, rfl, fun j u hu => absurd hu (by simp)⟩
      · rw [← hkS]
        exact Heap.get?_push_size _ rfl
      · exact Heap.get?_push_of_some _ (Heap.get?_push_of_some _ ho1)
    · intro H' kl e s' K
      refine keyed_end K rv hzi hka (by show X.A.units + 1 + 1 < cLine; omega) hx fun ps hp hsr => ?_
      obtain ⟨f1, f2, f3⟩ := items_srtd K rv hx hp hsr
      refine ⟨_, rfl, wpAny_pure ?_⟩
      -- the end: the new list is tracked
      have t1 := Heap.SameBut.update s'.heap (s.heap.objs.size + 3) (Obj.mapSeq fun _ => (#[] : Array Value))
      have na1 : (s'.heap.update (s.heap.objs.size + 3) (Obj.mapSeq fun _ => (#[] : Array Value))).get? a = some (seqObj "list" #[] e1) := (t1.2 a hka.symm).trans K.ha
      have t2 := Heap.SameBut.update (s'.heap.update (s.heap.objs.size + 3) (Obj.mapSeq fun _ => (#[] : Array Value))) a (Obj.mapSeq fun _ => (ps.map (·.2)).toArray)
      obtain ⟨c2, hc2⟩ : ∃ c2, ((s'.heap.update (s.heap.objs.size + 3) (Obj.mapSeq fun _ => (#[] : Array Value))).update a (Obj.mapSeq fun _ => (ps.map (·.2)).toArray)).get? a = some (seqObj "list" (ps.map (·.2)).toArray c2) :=
        ⟨_, get?_update_seq na1 fun _ => (ps.map (·.2)).toArray⟩
      generalize hF : ((s'.heap.update (s.heap.objs.size + 3) (Obj.mapSeq fun _ => (#[] : Array Value))).update a (Obj.mapSeq fun _ => (ps.map (·.2)).toArray)) = F at t2 hc2 ⊢
      have other : ∀ b, b ≠ a → b ≠ s.heap.objs.size + 3 → F.get? b = s'.heap.get? b := fun b h1 h2 => (t2.2 b h1).trans (t1.2 b h2)
      have sm : ∀ b o, s.heap.get? b = some o → b ≠ a ∧ b ≠ s.heap.objs.size + 3 := fun b o e =>
        ⟨Nat.ne_of_lt (Nat.lt_of_lt_of_le (Heap.lt_size e) (by rw [← ha]; exact Nat.le_succ _)), Nat.ne_of_lt (Nat.lt_of_lt_of_le (Heap.lt_size e) (Nat.le_add_right _ 3))⟩
      have trk : ∀ b o, H' b = some o → b ≠ a ∧ b ≠ s.heap.objs.size + 3 := fun b o e => ⟨(fun z => by rw [z, K.na] at e; cases e), (fun z => by rw [z, K.nk] at e; cases e)⟩
      have un : Un (frs X.stack) [] H (upd H' a (.lst (ps.map fun p => backV p.2))) s.heap F := {
        keep := fun b o q n hb hx' => (other b (sm b o q).1 (sm b o q).2).trans (K.un.keep b o q n hb hx')
        slot := fun b o q n hb hx' => by
          obtain ⟨sl, q2⟩ := K.un.slot b o q n hb hx'
          exact ⟨sl, (other b (sm b o q).1 (sm b o q).2).trans q2⟩
        free := fun b o q n hx' => by rw [upd_ne (sm b o q).1]; exact K.un.free b o q n hx'
        there := fun b o q hx' => by
          obtain ⟨o', q2⟩ := K.un.there b o q hx'
          exact ⟨o', (other b (sm b o q).1 (sm b o q).2).trans q2⟩
        tups := fun b ys q => by
          have q2 := K.un.tups b ys q
          rw [upd_ne (trk b _ q2).1]
          exact q2
        frzs := fun b o u q => by
          have q2 := K.un.frzs b o u q
          rw [upd_ne (trk b _ q2).1]
          exact q2
        tbls := fun b ts q => by
          obtain ⟨more, q2⟩ := K.un.tbls b ts q
          exact ⟨more, by rw [upd_ne (trk b _ q2).1]; exact q2⟩ }
      have hlen : (ps.map fun p => backV p.2).length ≤ sizeLine := by rw [f2.length_eq]; exact hz
      have vb : Vals (ps.map fun p => backV p.2) (ps.map (·.2)) := by
        have := vals_back f3
        rw [List.map_map] at this
        exact this
      have hok : HOk X.prog X.w (upd H' a (.lst (ps.map fun p => backV p.2))) F := fun b o e' => by
        by_cases hb : b = a
        · subst hb
          rw [upd_same] at e'
          cases e'
          exact ⟨hlen, _, c2, vb, hc2⟩
        · rw [upd_ne hb] at e'
          refine (K.hok b o e').stay (fun c w2 hc q2 => ?_) (fun c q2 => by rw [upd_ne (trk c _ q2).1]; exact q2) fun c zs q2 => by rw [upd_ne (trk c _ q2).1]; exact q2
          rcases hc with z | z
          · rw [z]
            exact (other b (trk b o e').1 (trk b o e').2).trans (by rw [← z]; exact q2)
          · exact (other c (trk c _ z).1 (trk c _ z).2).trans q2
      have J : Inv X pins σ (upd H' a (.lst (ps.map fun p => backV p.2))) { s' with heap := F } := I.call' (s' := { s' with heap := F }) (ch := []) K.os un hok K.bare (fun b z => absurd z (by simp))
      refine ⟨_, rfl, .ref a, _, J, rfl, q _ a _ f2 f1 (fun b o e' => ?_) (I.hok.fresh (by omega)) upd_same⟩
      have e2 := K.ex b o e'
      rw [upd_ne (trk b o e2).1]
      exact e2
end
end Rw
end T_SA

section T_SB
set_option Elab.async false
set_option linter.all false
set_option maxRecDepth 100000
set_option maxHeartbeats 4000000
namespace Rw
open PySem PySem.Spec PyProof.Rows L2 SrtO LamX
/-- the context of a lambda's body with one parameter, entered at s from the frames outer -/
def lam1Cx (X : Cx) (A : Around) (outer : List Env) (s : Shared) (H : Hp) (scope : Scope) (f c' : Addr) (n : Str) : Cx where
  prog := X.prog
  w := X.w
  K := X.K
  mg := X.mg
  base := X.base
  A := A.deeper (lamEnv X scope s.heap.objs.size f c')
  N := [n]
  s_0 := s
  H_0 := H
  env := lamEnv X scope s.heap.objs.size f c'
  outer := outer
  stack := lamEnv X scope s.heap.objs.size f c' :: outer
  ex := []
  fn := fun _ => false
  calm := true
  pn := []
  xe := fun e s' => wpAny (model X.prog X.w) (A.deeper (lamEnv X scope s.heap.objs.size f c')) (leaving (lamEnv X scope s.heap.objs.size f c') e) (fun _ _ => False) (fun _ _ => False) s'
/-- no name of the lambda is a cell or captured -/
structure Lam1S (scope : Scope) (n : Str) : Prop where
  kind : scope.kind = .function
  co : scope.isCoroutine = false
  gen : scope.isGenerator = false
  own : ∀ y ∈ scope.names, y.2 ≠ .cell ∧ y.2 ≠ .free
  par : scope.names.lookup n = some .local
theorem clo_nil {cells : List (Str × Addr)} : ∀ {l : List (Str × NameKind)}, (∀ y ∈ l, y.2 ≠ .cell ∧ y.2 ≠ .free) → ∀ {y c}, (cloFrom cells l []).lookup y = some c → False := fun {l} h {y c} e => by
  rcases cloFrom_mem (PySem.mem_of_lookup e) with hm | ⟨h1, _⟩
  · cases hm
  · exact (h _ h1).2 rfl
section
variable {X : Cx} {H : Hp} {s1 : Shared}
theorem lam1_start {A : Around} {outer : List Env} {scope : Scope} {n : Str} {f c' : Addr} {h₁ : Heap} {tk : Nat} {x : V} {v : Value} (L : Lam1S scope n) (e0 : Env0 X.prog X.w X.K X.mg X.base A outer s1 H) (hd : A.handled = none) (rx : RelV x v)
    (hns : h₁.Ns s1.heap.objs.size fun y => ([(n, v)] : List (Str × Value)).reverse.lookup y) (kp : ∀ b o, s1.heap.get? b = some o → h₁.get? b = some o) :
    Inv (lam1Cx X A outer s1 H scope f c' n) [] [some x] H { s1 with heap := h₁, toks := tk } := by
  have noA : ∀ b : Addr, b ∉ (lam1Cx X A outer s1 H scope f c' n).ex := fun b z => absurd (show b ∈ ([] : List Addr) from z) (by simp)
  refine ⟨⟨e0.mod, L.kind, rfl, rfl, Nat.le_refl _, fun y z c e1 e2 => (clo_nil L.own e1).elim, fun y hy => ?_, fun y c z _ => ?_, fun _ => hd, Around.frames_deeper e0.frames, .inr ⟨rfl, rfl⟩, fun b z => absurd z (noA b), e0.bs, e0.bsz, fun b _ _ => noA b,
      fun b z => absurd z (noA b), e0.funs, e0.frf⟩,
    rfl, e0.bare, Un.kept kp, ⟨_, hns, fun i y v' e1 e2 e3 => ?_⟩, fun y c e => (clo_nil L.own e).elim, e0.hok.fresh (Nat.le_refl _), fun y c e => (clo_nil L.own e).elim, fun q hq => absurd (show q ∈ ([] : List (Addr × Obj)) ++ [] from hq) (by simp), e0.hok.kept kp, rfl⟩
  · have hy : scope.names.lookup y = some .cell ∨ scope.names.lookup y = some .free := hy
    rcases hy with hy | hy
    · exact absurd rfl (L.own _ (PySem.mem_of_lookup hy)).1
    · exact absurd rfl (L.own _ (PySem.mem_of_lookup hy)).2
  · have z : false = true := z
    cases z
  · have e1 : [n][i]? = some y := e1
    cases i with
    | zero =>
      cases e1
      cases e2
      exact ⟨v, rx, .inl ⟨L.par, by simp [List.lookup]⟩⟩
    | succ i => cases e1
/-- the lambda called with one value -/
theorem lam1_call {pins : List (Addr × Obj)} {σ : L2.St} {s : Shared} {A : Around} {f c' : Addr} {k : Nat} {params : Arguments} {body : Expr} {scope : Scope} {n : Str} {pm ctv : Value} {tb : TE} {x : V} {v : Value} {Q : VK} {fo : Obj}
    (I : Inv X pins σ H s) (L : Lam1S scope n) (efo : fo = PySem.W.kla_obj "<lambda>" (X.env.qual ++ "<lambda>") params body scope (cloFrom X.env.cells scope.names []) pm c' ctv) (hf : s.heap.get? f = some fo) (hc : H c' = some (CodeO c' (X.env.qual ++ "<lambda>")))
    (hbind : bindArgs (PySem.W.kla_fn "<lambda>" (X.env.qual ++ "<lambda>") params body scope (cloFrom X.env.cells scope.names []) pm (.ref c') ctv) ⟨[v], []⟩ = pure [(n, v)])
    (hA : A.frames = some X.stack) (hr : Room (k + 1) A) (rx : RelV x v)
    (hbody : ∀ (A : Around) (outer : List Env) (s : Shared) (H : Hp), Room k (A.deeper (lamEnv X scope s.heap.objs.size f c')) → PE (lam1Cx X A outer s H scope f c' n) body tb) (h : tb [some x] H Q) :
    wpAny (model X.prog X.w) A (call (.ref f) [v]) (CE X.stack X.prog X.w H s Q) (fun _ _ => False) s := by
  have e0 : Env0 X.prog X.w X.K X.mg X.base A X.stack s H := ⟨hA, I.env0.mod, I.env0.bs, I.env0.bsz, I.env0.funs, I.env0.frf, I.env0.hok, I.env0.bare⟩
  obtain ⟨⟨oc, vs, t, hoc, hdc, hvc⟩, _, _⟩ := I.hok c' _ hc
  subst efo
  have rc : codeAny (model X.prog X.w) A (.call (.ref f) ⟨[v], []⟩) (CR C8.CX0 X.stack X.prog X.w H s Q C8.E0) s := by
    refine PySem.W.kla_callFunE hr.depth hf rfl L.co L.gen rfl ⟨c', oc, vs, t, rfl, hoc, hdc, hvc⟩ ?_
    rw [hbind]
    refine wpAny_pure (wpAny_newFunctionEnv (fun y hy => (L.own y hy).1) (fun y hy => ?_) (fun h₁ hns hsb => ⟨I.nolimit.fresh _ hsb, ?_⟩) L.kind)
    · rw [List.mem_singleton.mp hy]
      exact L.par
    · show codeAny _ _ (.expr body (lamEnv X scope s.heap.objs.size f c')) _ _
      have kp : ∀ b o, s.heap.get? b = some o → h₁.get? b = some o := fun b o e => hsb.extBut b o (Nat.ne_of_lt (Heap.lt_size e)) (Heap.get?_push_of_some _ e)
      have J : Inv (lam1Cx X A X.stack s H scope f c' n) [] [some x] H { s with heap := h₁, toks := s.toks + ([(n, v)] : List (Str × Value)).length } := lam1_start L e0 hr.hd rx hns kp
      refine PySem.W.kla_codeExpr (wpAny_mono ((hbody _ _ s H (hr.deeper _)).run [] _ _ H Q J h) (fun u s' hq => ?_) fun e s' hq => ?_)
      · obtain ⟨w', H', J', rv, q⟩ := hq
        exact ⟨w', H', J'.os, J'.bare, J'.base, J'.hok, rv, q⟩
      · exact wpAny_mono hq (fun _ _ z => z.elim) fun _ _ z => z.elim
  refine wpAny_call (codeAny_mono rc fun r s' hq => ?_)
  cases r with
  | error e => exact (show False from hq).elim
  | ok fl =>
    cases fl with
    | ret u => exact hq
    | next => exact False.elim hq
    | brk => exact False.elim hq
    | cont => exact False.elim hq
/-- sorted(e, key=lambda n: body) where the body makes the pair of the item's length and itself -/
theorem pe_sortedLam {T : List (Addr × Str)} {c P : Addr} {k : Nat} {params : Arguments} {body : Expr} {scope : Scope} {n : Str} {e : Expr} {te tb : TE} {p lpos kpos pos : Pos}
    (hg : Gl X "sorted") (hm : X.mg "sorted" = none) (he : PE X e te) (TB : TabB X.base X.mg c P) (hcode : X.env.code = .ref c) (hmT : (P, X.env.qual ++ "<lambda>") ∈ T) (hu : ∀ p ∈ T, p.1 = P → p.2 = X.env.qual ++ "<lambda>") (hr : Room (k + 3) X.A) (L : Lam1S scope n)
    (hdef : defaultsOf params X.env = ([], []))
    (hbind : ∀ (q : Str) (cl : List (Str × Addr)) (pm cv ctv v : Value), bindArgs (PySem.W.kla_fn "<lambda>" q params body scope cl pm cv ctv) ⟨[v], []⟩ = pure [(n, v)])
    (hbody : ∀ (A : Around) (outer : List Env) (s : Shared) (H : Hp) (f c' : Addr), Room k (A.deeper (lamEnv X scope s.heap.objs.size f c')) → PE (lam1Cx X A outer s H scope f c' n) body tb)
    (htb : ∀ (x : V) (b : Addr) (zs : List Str) (H : Hp) (Q : VK), x = .ref b → H b = some (.tup (zs.map V.str)) → (∀ p, H p = none → Q (.ref p) (upd H p (.tup [.int (zs.length : Int), x]))) → tb [some x] H Q)
    (hstar : starEach [e] X.env = (false, eval e X.env) :: starEach [] X.env := by rfl) :
    PE X (.Call (.Name "sorted" p) [e] [⟨some "key", .Lambda params body scope lpos, kpos⟩] pos)
      (fun σ H Q => te σ H fun v H1 => ∃ (l : Addr) (xs : List V) (kf : V → List Str), v = .ref l ∧ H1 l = some (.lst xs) ∧ (∀ x ∈ xs, ∃ b, x = V.ref b ∧ H1 b = some (.tup ((kf x).map V.str))) ∧ Tabs T H1 ∧
        ∀ (ys : List V) (r : Addr) (H2 : Hp), ys.Perm xs → Srtd (fun x y => numRow (lenRow kf x) (lenRow kf y)) ys → ExtN H1 H2 → Tabs T H2 → (∀ b o, H1 b = some o → (∀ ps, o ≠ .tbl ps) → b ≠ r) → H2 r = some (.lst ys) → Q (.ref r) H2) := by
  refine ⟨fun pins s σ H Q I h => ?_⟩
  refine wpAny_Call_Name_kw (ld_blt I hg hm boot_sorted ?_ (by decide) (by decide))
  refine PyProof.Rows.callWith_kw ?_ (by rw [hstar]; rfl) (by rw [hstar]; rfl) rfl rfl
  rw [hstar]
  show wpAny _ _ (spliced ((false, eval e X.env) :: backTo pos (starEach [] X.env))) _ _ s
  refine Calls.spliced_cons (thn (he.run pins s σ H _ I h) fun u s1 ⟨v, H1, I1, r1, l, xs, kf, ev, hl, hx, hT, q⟩ => ?_)
  subst ev
  obtain rfl : u = Value.ref l := r1
  refine Calls.spliced_nil ?_
  show wpAny _ _ (evalAll ((do let v ← eval (.Lambda params body scope lpos) X.env; standAt pos; pure v) :: (backToKw pos (keywordEach [] X.env)).map (·.2))) _ _ s1
  have hfree : ∀ y ∈ scope.names, y.2 = .free → ∃ c, X.env.cells.lookup y.1 = some c := fun y hy z => absurd z (L.own y hy).2
  refine wpAny_evalAll_cons (wpAny_bind (lam_make2 I1 TB hcode hmT hu hT hdef hfree fun f c' pm ctv H2 s2 I2 eN T2 hf hfn hfr hco => wpAny_bind (wpAny_standAt (wpAny_pure ?_))))
  refine wpAny_evalAll_nil ?_
  show wpAny _ _ (call (.builtin "sorted") [.ref l] [(Str.ofString "key", .ref f)]) _ _ s2
  have up : ∀ {b : Addr} {o : HO}, H1 b = some o → (∀ ps, o ≠ .tbl ps) → H2 b = some o := fun {b o} e n => eN b o e n
  have tup_ne : ∀ (xs : List V) (ps : Array Value), HO.tup xs ≠ .tbl ps := fun _ _ z => by cases z
  have lst_ne : ∀ (xs : List V) (ps : Array Value), HO.lst xs ≠ .tbl ps := fun _ _ z => by cases z
  have hx2 : ∀ x ∈ xs, ∃ b, x = V.ref b ∧ H2 b = some (.tup ((kf x).map V.str)) := fun x hm => by
    obtain ⟨b, e1, e2⟩ := hx x hm
    exact ⟨b, e1, up e2 (tup_ne _)⟩
  refine sorted_key (k := kf) I2 (Evl.sq_of (up hl (lst_ne _))) hx2 hf hfn hfr (by have := hr.units; omega) (fun j x v H' s' hj rx I' eX hf' hfn' => ?_) (fun ys r H' hp hsr eX hn hr' => ?_)
  · obtain ⟨b, rfl, hb⟩ := hx2 x (List.mem_of_getElem? hj)
    refine lam1_call (A := X.A.in1.in1) (k := k) I' L rfl hf' (eX _ _ hco) (hbind _ _ _ _ _ _) I'.ok.frames (by exact (hr.in1).in1) rx (fun A outer s H hr2 => hbody A outer s H f c' hr2) ?_
    exact htb _ b (kf (.ref b)) H' _ rfl (eX _ _ hb) fun p hp => ⟨p, rfl, hp, rfl⟩
  · refine q ys r H' hp hsr (fun b o e n => eX b o (eN b o e n)) (T2.ext eX) (fun b o e n z => ?_) hr'
    have e2 := eN b o e n
    rw [z, hn] at e2
    cases e2
end
end Rw
end T_SB

section T_TU
set_option Elab.async false
set_option linter.all false
set_option maxRecDepth 100000
set_option maxHeartbeats 4000000
namespace Rw
open PySem L2 PyProof.Rows LamX
/-! ### the heap without the tables of code objects -/
def nt (H : Hp) : Hp := fun a => match H a with
  | some (.tbl _) => none
  | o => o
theorem nt_some {H : Hp} {a : Addr} {o : HO} (h : nt H a = some o) : H a = some o ∧ ∀ ps, o ≠ .tbl ps := by
  unfold nt at h
  cases e : H a with
  | none => rw [e] at h; cases h
  | some u =>
    rw [e] at h
    cases u with
    | tbl ps => cases h
    | _ => cases h; exact ⟨rfl, fun _ z => by cases z⟩
theorem nt_of {H : Hp} {a : Addr} {o : HO} (h : H a = some o) (n : ∀ ps, o ≠ .tbl ps) : nt H a = some o := by
  unfold nt
  rw [h]
  cases o with
  | tbl ps => exact absurd rfl (n ps)
  | _ => rfl
theorem nt_free {H : Hp} {a : Addr} (h : H a = none) : nt H a = none := by
  unfold nt
  rw [h]
theorem ex_nt (H : Hp) : Evl.Ex (nt H) H := fun a o h => (nt_some h).1
theorem nt_ex {H H' : Hp} (e : Evl.Ex H H') : Evl.Ex (nt H) (nt H') := fun a o h => nt_of (e a o (nt_some h).1) (nt_some h).2
theorem nt_ext {H H' : Hp} (e : ExtN H H') : Evl.Ex (nt H) (nt H') := fun a o h => nt_of (e a o (nt_some h).1 (nt_some h).2) (nt_some h).2
theorem nt_tup {H : Hp} {a : Addr} {xs : List V} (h : H a = some (.tup xs)) : nt H a = some (.tup xs) := nt_of h fun _ z => by cases z
theorem nt_lst {H : Hp} {a : Addr} {xs : List V} (h : H a = some (.lst xs)) : nt H a = some (.lst xs) := nt_of h fun _ z => by cases z
theorem nt_dK {H : Hp} {a : Addr} {xs : List (Key × V)} (h : H a = some (.dK xs)) : nt H a = some (.dK xs) := nt_of h fun _ z => by cases z
theorem nt_new {H : Hp} {p : Addr} {o : HO} (h : H p = none) : Evl.Ex (nt H) (nt (upd H p o)) := nt_ex (Evl.Ex.new h)
/-! ### tuples of names, by their addresses -/
def RowsT (H : Hp) (L : List (Addr × List Str)) : Prop := ∀ q ∈ L, H q.1 = some (.tup (q.2.map V.str))
theorem RowsT.to {H H' : Hp} {L : List (Addr × List Str)} (h : RowsT H L) (x : Evl.Ex H H') : RowsT H' L := fun q hq => x _ _ (h q hq)
theorem RowsT.nt {H : Hp} {L : List (Addr × List Str)} (h : RowsT H L) : RowsT (nt H) L := fun q hq => nt_tup (h q hq)
theorem RowsT.app {H : Hp} {L M : List (Addr × List Str)} (h : RowsT H L) (g : RowsT H M) : RowsT H (L ++ M) := fun q hq => (List.mem_append.mp hq).elim (h q) (g q)
theorem RowsT.mut {H : Hp} {L : List (Addr × List Str)} {p : Addr} {xs ys : List V} (h : RowsT H L) (hp : H p = some (.lst xs)) : RowsT (upd H p (.lst ys)) L := fun q hq => by
  rw [upd_ne (fun z => by have e := h q hq; rw [z, hp] at e; cases e)]
  exact h q hq
theorem rowsT_at {L : List (Addr × List Str)} {i : Nat} {x : V} (h : (L.map fun q => V.ref q.1)[i]? = some x) : ∃ q, L[i]? = some q ∧ x = .ref q.1 := by
  rw [List.getElem?_map] at h
  cases e : L[i]? with
  | none => rw [e] at h; cases h
  | some q => rw [e] at h; exact ⟨q, rfl, (Option.some.inj h).symm⟩
/-- the row that a tuple at a value tells -/
def rowAt (H : Hp) : V → List Str
  | .ref b => match H b with
    | some (.tup vs) => unS vs
    | _ => []
  | _ => []
theorem rowAt_of {H : Hp} {b : Addr} {zs : List Str} (h : H b = some (.tup (zs.map V.str))) : rowAt H (.ref b) = zs := by
  unfold rowAt
  simp only [h, unS_strs]
def addrOf : V → Addr
  | .ref a => a
  | _ => (0 : Nat)
/-- a list of such tuples in another order -/
theorem rowsT_perm {H : Hp} {L : List (Addr × List Str)} {ys : List V} (hL : RowsT H L) (hp : ys.Perm (L.map fun q => V.ref q.1)) :
    ∃ M : List (Addr × List Str), ys = M.map (fun q => V.ref q.1) ∧ RowsT H M ∧ (M.map (·.2)).Perm (L.map (·.2)) ∧ M.map (·.2) = ys.map (rowAt H) := by
  have all : ∀ y ∈ ys, ∃ q ∈ L, y = .ref q.1 := fun y hy => by
    obtain ⟨q, hq, e⟩ := List.mem_map.mp (hp.mem_iff.mp hy)
    exact ⟨q, hq, e.symm⟩
  have e2 : ys = (ys.map fun y => (addrOf y, rowAt H y)).map (fun q => V.ref q.1) := by
    rw [List.map_map]
    refine (List.map_congr_left fun y hy => ?_).trans (List.map_id ys) |>.symm
    obtain ⟨q, _, rfl⟩ := all y hy
    rfl
  have e3 : (ys.map fun y => (addrOf y, rowAt H y)).map (·.2) = ys.map (rowAt H) := by rw [List.map_map]; rfl
  refine ⟨ys.map fun y => (addrOf y, rowAt H y), e2, fun q hq => ?_, ?_, e3⟩
  · obtain ⟨y, hy, rfl⟩ := List.mem_map.mp hq
    obtain ⟨q', hq', rfl⟩ := all y hy
    have h := hL q' hq'
    show H q'.1 = some (.tup ((rowAt H (.ref q'.1)).map V.str))
    rw [rowAt_of h]
    exact h
  · rw [e3]
    have h1 := hp.map (rowAt H)
    rw [List.map_map] at h1
    have h2 : L.map (rowAt H ∘ fun q => V.ref q.1) = L.map (·.2) := List.map_congr_left fun q hq => rowAt_of (hL q hq)
    rw [h2] at h1
    exact h1
/-! ### a def whose code object is known -/
structure FunC (K : PySem.W.Frag) (x qual : Str) (st : Stmt) (f : Addr) (fd : FuncData) (c : Addr) : Prop where
  ex : ∃ (oc : Value) (od : Option Addr) (kV doc pm : Value) (an : Option Addr) (ct : Value) (osl : Array (Option Value)),
    fd = PySem.W.fnOf x qual (defArgs st) (defBody st) (defScope st) .none kV doc pm an (.ref c) ct ∧ K.lookup f = some ⟨oc, od, .func fd, osl⟩ ∧ PySem.W.codeIn K (.ref c) qual = true
  kp : PySem.W.keepIn K (.ref f) = true
section
variable {P : Program} {w : World} {K : PySem.W.Frag} {mg : Str → Option Value} {base : Heap}
theorem FunC.fn {x qual : Str} {st : Stmt} {f c : Addr} {fd : FuncData} (F : FunC K x qual st f fd c) : Fun K x qual st f fd := by
  obtain ⟨oc, od, kV, doc, pm, an, ct, osl, e, l, h⟩ := F.ex
  exact ⟨⟨oc, od, kV, doc, pm, an, _, ct, osl, e, l, h⟩, F.kp⟩
theorem FunC.ok {x qual : Str} {st : Stmt} {f c : Addr} {fd : FuncData} {N ps : List Str} {k : Nat} {sp : Sp} (F : FunC K x qual st f fd c) (S : FnScope N ps (defScope st)) (len : ∀ vs H Q E, sp vs H Q E → vs.length = ps.length)
    (hbody : ∀ (A : Around) (outer : List Env) (s : Shared) (H : Hp) (vs : List V) (Q : VK) (E : XK), Room k (A.deeper (envOfC qual (defScope st) s.heap.objs.size f (.ref c))) → sp vs H Q E →
      ∃ t, PSs (cxOf CX0 P w K mg base N qual (defScope st) f (.ref c) A outer s H E).nox (defBody st) t ∧ t { nx := fun _ H' => Q .non H', rt := Q } (L2.start N vs) H) : FnOk P w K mg base CX0 (k + 1) f fd ps sp := by
  obtain ⟨oc, od, kV, doc, pm, an, ct, osl, rfl, lk, hcd⟩ := F.ex
  refine fn_of lk hcd S len fun A outer s H vs Q E hr hsp => ?_
  obtain ⟨t, h, q⟩ := hbody A outer s H vs Q E hr hsp
  exact ⟨t, h.nox, q⟩
end
/-! ### all parts of a row -/
def parts0 (zs : List Str) : List (List Str) := zs.foldl (fun ps z => ps ++ ps.map fun p => p ++ [z]) [[]]
theorem parts0_snoc (zs : List Str) (z : Str) : parts0 (zs ++ [z]) = parts0 zs ++ (parts0 zs).map fun p => p ++ [z] := by
  unfold parts0
  rw [List.foldl_append]
  rfl
theorem parts0_len : ∀ n (zs : List Str), zs.length = n → (parts0 zs).length = 2 ^ n := by
  intro n
  induction n with
  | zero =>
    intro zs h
    rw [List.length_eq_zero_iff.mp h]
    rfl
  | succ n ih =>
    intro zs h
    rcases List.eq_nil_or_concat zs with rfl | ⟨r, z, rfl⟩
    · cases h
    · rw [List.concat_eq_append, List.length_append] at h
      rw [List.concat_eq_append, parts0_snoc, List.length_append, List.length_map, ih r (by simpa using h), Nat.pow_succ]
      omega
theorem parts0_sub : ∀ {zs : List Str} {p : List Str}, p ∈ parts0 zs → p.Sublist zs := by
  have main : ∀ n (zs : List Str), zs.length = n → ∀ p ∈ parts0 zs, p.Sublist zs := by
    intro n
    induction n with
    | zero =>
      intro zs h p hp
      rw [List.length_eq_zero_iff.mp h] at hp ⊢
      rw [List.mem_singleton.mp hp]
      exact List.Sublist.refl _
    | succ n ih =>
      intro zs h p hp
      rcases List.eq_nil_or_concat zs with rfl | ⟨r, z, rfl⟩
      · cases h
      · rw [List.concat_eq_append] at h hp ⊢
        rw [parts0_snoc] at hp
        have hl : r.length = n := by rw [List.length_append] at h; simpa using h
        rcases List.mem_append.mp hp with hp | hp
        · exact (ih r hl p hp).trans (List.sublist_append_left _ _)
        · obtain ⟨q, hq, rfl⟩ := List.mem_map.mp hp
          exact (ih r hl q hq).append (List.Sublist.refl _)
  exact fun {zs p} h => main _ zs rfl p h
theorem parts0_has : ∀ {zs : List Str} {p : List Str}, p.Sublist zs → p ∈ parts0 zs := by
  have main : ∀ n (zs : List Str), zs.length = n → ∀ p, p.Sublist zs → p ∈ parts0 zs := by
    intro n
    induction n with
    | zero =>
      intro zs h p hp
      rw [List.length_eq_zero_iff.mp h] at hp ⊢
      rw [List.sublist_nil.mp hp]
      exact List.mem_singleton.mpr rfl
    | succ n ih =>
      intro zs h p hp
      rcases List.eq_nil_or_concat zs with rfl | ⟨r, z, rfl⟩
      · cases h
      · rw [List.concat_eq_append] at h hp ⊢
        have hl : r.length = n := by rw [List.length_append] at h; simpa using h
        rw [parts0_snoc]
        obtain ⟨p1, p2, rfl, h1, h2⟩ := List.sublist_append_iff.mp hp
        rcases List.sublist_cons_iff.mp h2 with h3 | ⟨r', rfl, h3⟩
        · rw [List.sublist_nil.mp h3, List.append_nil]
          exact List.mem_append_left _ (ih r hl p1 h1)
        · rw [List.sublist_nil.mp h3]
          exact List.mem_append_right _ (List.mem_map_of_mem (ih r hl p1 h1))
  exact fun {zs p} h => main _ zs rfl p h
end Rw
end T_TU

section T_PA
set_option Elab.async false
set_option linter.all false
set_option maxRecDepth 100000
set_option maxHeartbeats 4000000
namespace Rw
open PySem L2 PyProof.Rows LamX
section
variable {P : Program} {w : World} {K : PySem.W.Frag} {mg : Str → Option Value} {base : Heap}
/-- shorter rows first, then by their names -/
abbrev RowsSrt (Ls : List (List Str)) : Prop := Ls.Pairwise fun p q => numRow ((q.length : Int), q) ((p.length : Int), p) = false
def spParts (T : List (Addr × Str)) : Sp := fun vs H Q _ => ∃ (a : Addr) (zs : List Str), vs = [.ref a] ∧ SqT K H a (zs.map V.str) ∧ zs.length ≤ 6 ∧ Tabs T H ∧
  ∀ (p : Addr) (H' : Hp) (L : List (Addr × List Str)), Evl.Ex (nt H) (nt H') → Tabs T H' → H' p = some (.lst (L.map fun q => V.ref q.1)) → RowsT H' L → (L.map (·.2)).Perm (parts0 zs) → RowsSrt (L.map (·.2)) → Q (.ref p) H'
abbrev nParts : List Str := ["lot", "parts", "node", "part"]
theorem sc_parts : FnScope nParts ["lot"] (defScope p_parts_of) := ⟨rfl, rfl, rfl, by decide +kernel, rfl, by decide +kernel, by decide +kernel⟩
theorem sqt_nt {H : Hp} {a : Addr} {xs : List V} (h : SqT K H a xs) : SqT K (nt H) a xs := by
  rcases h with (h | ⟨o, h⟩) | h
  · exact .inl (.inl (nt_tup h))
  · exact .inl (.inr ⟨o, nt_of h fun _ z => by cases z⟩)
  · exact .inr h
theorem ok_parts_of {f c Pt : Addr} {fd : FuncData} {T : List (Addr × Str)} (F : FunC K "parts_of" "parts_of" p_parts_of f fd c) (TB : TabB base mg c Pt) (hmT : (Pt, ("parts_of.<locals>.<lambda>" : Str)) ∈ T) (hu : ∀ p ∈ T, p.1 = Pt → p.2 = ("parts_of.<locals>.<lambda>" : Str))
    (mSorted : mg "sorted" = none) (mLen : mg "len" = none) : FnOk P w K mg base CX0 5 f fd ["lot"] (spParts (K := K) T) := by
  refine F.ok sc_parts (fun vs H Q E h => ?_) (fun A outer s H vs Q E hr h => ?_)
  · obtain ⟨a, zs, rfl, _⟩ := h
    rfl
  · obtain ⟨a, zs, rfl, hS, h6, hT, k⟩ := h
    have nd := sc_parts.nd
    have hr4 : Room 4 _ := hr
    refine ⟨_, pss_cons (ps_set (i := 1) nd rfl (.inl rfl) (pe_lst (pa_cons (pe_tup pa_nil) pa_nil)))
      (pss_cons (ps_for PassesOwn.never rfl (pi_tup (pv 0)) (pg_name (i := 2) nd rfl (.inr rfl))
        (pss_one (ps_set (i := 1) nd rfl (.inl rfl) (pe_op op_cat (pv 1)
          (pe_lc (own := [("part", 3)]) (g := gName 3) (tt := tYes) (te := tTup (StX.tStar K (tVar 3) (tCons (tVar 2) tNil))) rfl nd (pi_list (pv 1)) (blkOk_by (own := [("part", 3)]) (N := nParts) (sc := defScope p_parts_of) (by decide +kernel))
            (fun _ _ _ _ _ => pg_name (i := 3) nd rfl (Or.inl rfl)) (fun _ _ _ _ _ => pts_nil) (fun _ _ _ _ _ => pe_tup (StX.pa_star (pv 3) (pa_cons (pv 2) pa_nil))))))))
      (pss_one (ps_ret (pe_sortedLam (T := T) (c := c) (P := Pt) (k := 1) (n := "part") (by rfl) mSorted (pv 1) TB rfl hmT hu hr4
        ⟨rfl, rfl, rfl, by decide +kernel, rfl⟩ rfl (fun q cl pm cv ctv v => by rfl)
        (tb := tTup (tCons (tCB (fun xs H Q => ∃ x n, xs = [x] ∧ LenV K x H n ∧ Q (.int n) H) (tCons (tVar 0) tNil)) (tCons (tVar 0) tNil)))
        (fun A outer s H f' c' hr' => pe_tup (pa_cons (pe_callB call_len (by rfl) mLen PySem.boot_len (pa_cons (pv 0) pa_nil)) (pa_cons (pv 0) pa_nil)))
        (fun x b zs H Q e hb q => ?_))))), ?_⟩
    · subst e
      exact ⟨.ref b, rfl, .ref b, (zs.map V.str).length, rfl, .inr ⟨_, Evl.st_of hb, rfl⟩, .ref b, rfl, by show 2 ≤ sizeLine; decide, fun p hp => by rw [List.length_map]; exact q p hp⟩
    · -- parts = [()]
      refine ⟨by show 0 ≤ sizeLine; decide, fun e0 he0 => ⟨by show 1 ≤ sizeLine; decide, fun p0 hp0 => ?_⟩⟩
      have x1 : Evl.Ex H (upd (upd H e0 (.tup [])) p0 (.lst [.ref e0])) := (Evl.Ex.new he0).trans (Evl.Ex.new hp0)
      have l1 : (upd (upd H e0 (.tup [])) p0 (.lst [.ref e0])) p0 = some (.lst ([(e0, ([] : List Str))].map fun q => V.ref q.1)) := upd_same
      have t1 : RowsT (upd (upd H e0 (.tup [])) p0 (.lst [.ref e0])) [(e0, [])] := fun q hq => by
        rw [List.mem_singleton.mp hq]
        rw [upd_ne (ne_of_none (upd_same (H := H) (a := e0) (o := .tup [])) hp0)]
        exact upd_same
      generalize upd (upd H e0 (.tup [])) p0 (.lst [.ref e0]) = H1 at x1 l1 t1
      refine ⟨.ref a, rfl, a, rfl, ⟨_, Evl.ex_t x1 hS⟩, for_tup (K := K) (a := a) (xs := zs.map V.str)
        (fun i σ H' => i ≤ zs.length ∧ Evl.Ex H H' ∧ ∃ (p : Addr) (L : List (Addr × List Str)) (x2 : Option V), σ = [some (.ref a), some (.ref p), x2, none] ∧ H' p = some (.lst (L.map fun q => V.ref q.1)) ∧ RowsT H' L ∧ L.map (·.2) = parts0 (zs.take i))
        ⟨Nat.zero_le _, x1, p0, [(e0, [])], none, rfl, l1, t1, rfl⟩ (fun i σ H' _ h => Evl.ex_t h.2.1 hS) ?_ ?_⟩
      · rintro i y σ H2 hi ⟨_, x2, p, L, v2, rfl, hp, tL, eL⟩
        obtain ⟨z, hz, rfl⟩ := str_at hi
        have hil : i < zs.length := (List.getElem?_eq_some_iff.mp hz).1
        have few : L.length ≤ 64 := by
          have h1 := congrArg List.length eL
          rw [List.length_map, parts0_len i _ (by rw [List.length_take]; omega)] at h1
          rw [h1]
          exact Nat.le_trans (Nat.pow_le_pow_right (by decide) (by omega : i ≤ 6)) (by decide)
        have rowsLen : ∀ q ∈ L, q.2.length ≤ 6 := fun q hq => by
          have hm : q.2 ∈ parts0 (zs.take i) := by rw [← eL]; exact List.mem_map_of_mem hq
          exact Nat.le_trans (parts0_sub hm).length_le (by rw [List.length_take]; omega)
        refine ⟨.ref p, rfl, .ref p, rfl, p, rfl, ⟨_, Evl.sq_of hp⟩, fun D hD => lc_list (K := K) (a := p) (xs := L.map fun q => V.ref q.1)
          (fun j H' => j ≤ L.length ∧ Evl.Ex H2 H' ∧ ∃ M : List (Addr × List Str), H' D = some (.lst (M.map fun q => V.ref q.1)) ∧ RowsT H' M ∧ M.map (·.2) = (L.take j).map fun q => q.2 ++ [z])
          ⟨Nat.zero_le _, Evl.Ex.new hD, [], upd_same, (fun q hq => nomatch hq), rfl⟩ (fun j H' _ h => Evl.sq_of (h.2.1 _ _ hp)) ?_ ?_⟩
        · rintro j v H3 hj ⟨_, x3, M, hM, tM, eM⟩
          obtain ⟨q, hq, rfl⟩ := rowsT_at hj
          have hjl : j < L.length := (List.getElem?_eq_some_iff.mp hq).1
          have mq := List.mem_of_getElem? hq
          have tq := x3 _ _ (tL q mq)
          have Ml : M.length ≤ 64 := by
            have := congrArg List.length eM
            rw [List.length_map, List.length_map, List.length_take] at this
            omega
          refine ⟨rfl, yes_if ?_⟩
          refine ⟨.ref q.1, rfl, q.1, _, rfl, .inl (Evl.st_of tq), .str z, rfl, ?_, fun t ht => ?_⟩
          · rw [List.length_append, List.length_map]
            have := rowsLen q mq
            exact Nat.le_of_lt (small1000 (by simp only [List.length_cons, List.length_nil]; omega))
          have y1 : Evl.Ex H3 (upd H3 t (.tup (q.2.map V.str ++ [.str z]))) := Evl.Ex.new ht
          have t2 : (upd H3 t (.tup (q.2.map V.str ++ [.str z]))) t = some (.tup ((q.2 ++ [z]).map V.str)) := by rw [upd_same, List.map_append]; rfl
          generalize upd H3 t (.tup (q.2.map V.str ++ [.str z])) = H4 at y1 t2
          refine ⟨_, y1 _ _ hM, by rw [List.length_map]; exact small1000 (by omega), hjl, (x3.trans y1).mut hD, M ++ [(t, q.2 ++ [z])], ?_, ?_, ?_⟩
          · rw [upd_same, List.map_append]
            rfl
          · refine RowsT.mut (RowsT.app (tM.to y1) fun q' hq' => ?_) (y1 _ _ hM)
            rw [List.mem_singleton.mp hq']
            exact t2
          · rw [List.map_append, eM, List.take_add_one, hq, List.map_append]
            rfl
        · rintro H3 ⟨_, x3, M, hM, tM, eM⟩
          rw [List.length_map, List.take_length] at eM
          have Ml : M.length ≤ 64 := by
            have := congrArg List.length eM
            rw [List.length_map, List.length_map] at this
            omega
          refine ⟨p, D, _, _, rfl, rfl, x3 _ _ hp, hM, Nat.le_of_lt (small1000 (by rw [List.length_map, List.length_map]; omega)), fun r hr' => ?_⟩
          refine ⟨hil, (x2.trans x3).trans (Evl.Ex.new hr'), r, L ++ M, _, rfl, ?_, RowsT.to (RowsT.app (tL.to x3) tM) (Evl.Ex.new hr'), ?_⟩
          · rw [upd_same, List.map_append]
          · rw [List.map_append, eM, eL, List.take_add_one, hz]
            show _ = parts0 (zs.take i ++ [z])
            rw [parts0_snoc, ← eL, List.map_map]
            rfl
      · rintro σ H2 ⟨_, x2, p, L, v2, rfl, hp, tL, eL⟩
        rw [List.length_map, List.take_length] at eL
        refine ⟨.ref p, rfl, p, L.map (fun q => V.ref q.1), rowAt H2, rfl, hp, fun x hx => ?_, hT.ext x2, fun ys r H3 hpm hsr eN T3 hn hr3 => ?_⟩
        · obtain ⟨q, hq, rfl⟩ := List.mem_map.mp hx
          exact ⟨q.1, rfl, by rw [rowAt_of (tL q hq)]; exact tL q hq⟩
        · obtain ⟨M, rfl, tM, pM, eM⟩ := rowsT_perm tL hpm
          refine k r H3 M ((nt_ex x2).trans (nt_ext eN)) T3 hr3 (fun q hq => eN _ _ (tM q hq) fun _ z => by cases z) (by rw [← eL]; exact pM) ?_
          show List.Pairwise _ _
          rw [eM, List.pairwise_map]
          exact hsr
end
end Rw
end T_PA

section T_PD
set_option Elab.async false
set_option linter.all false
set_option maxRecDepth 100000
set_option maxHeartbeats 4000000
namespace Rw
open PySem L2 PyProof.Rows LamX
theorem numRow_anti {p q : List Str} (h1 : numRow ((q.length : Int), q) ((p.length : Int), p) = false) (h2 : numRow ((p.length : Int), p) ((q.length : Int), q) = false) : p = q := by
  unfold numRow at h1 h2
  dsimp only at h1 h2
  by_cases e : (q.length : Int) = (p.length : Int)
  · rw [if_pos e] at h1
    rw [if_pos e.symm] at h2
    exact lexS_tot h2 h1
  · rw [if_neg e, decide_eq_false_iff_not] at h1
    rw [if_neg (fun z => e z.symm), decide_eq_false_iff_not] at h2
    omega
theorem rowsSrt_uniq : ∀ {l m : List (List Str)}, l.Perm m → RowsSrt l → RowsSrt m → l = m := by
  intro l
  induction l with
  | nil => intro m hp _ _; exact (List.nil_perm.mp hp).symm
  | cons a l ih =>
    intro m hp hl hm
    cases m with
    | nil => exact absurd hp.length_eq (by simp)
    | cons b m =>
      have hab : a = b := by
        have ha : a ∈ b :: m := hp.mem_iff.mp List.mem_cons_self
        have hb : b ∈ a :: l := hp.mem_iff.mpr List.mem_cons_self
        rcases List.mem_cons.mp ha with e | ha
        · exact e
        · rcases List.mem_cons.mp hb with e | hb
          · exact e.symm
          · exact numRow_anti ((List.pairwise_cons.mp hl).1 b hb) ((List.pairwise_cons.mp hm).1 a ha)
      subst hab
      rw [ih (List.perm_cons a |>.mp hp) (List.pairwise_cons.mp hl).2 (List.pairwise_cons.mp hm).2]
open Classical in
noncomputable def partsS (zs : List Str) : List (List Str) := if h : ∃ Ls : List (List Str), Ls.Perm (parts0 zs) ∧ RowsSrt Ls then Classical.choose h else parts0 zs
theorem partsS_is {zs : List Str} {Ls : List (List Str)} (hp : Ls.Perm (parts0 zs)) (hs : RowsSrt Ls) : Ls = partsS zs := by
  have h : ∃ Ls : List (List Str), Ls.Perm (parts0 zs) ∧ RowsSrt Ls := ⟨Ls, hp, hs⟩
  unfold partsS
  rw [dif_pos h]
  have c := Classical.choose_spec h
  exact rowsSrt_uniq (hp.trans c.1.symm) hs c.2
theorem partsS_sub {zs : List Str} {p : List Str} (h : p ∈ partsS zs) : p.Sublist zs := by
  unfold partsS at h
  split at h
  · rename_i c
    exact parts0_sub ((Classical.choose_spec c).1.mem_iff.mp h)
  · exact parts0_sub h
theorem partsS_has {zs : List Str} {p : List Str} (h : p.Sublist zs) : p ∈ partsS zs := by
  unfold partsS
  split
  · rename_i c
    exact (Classical.choose_spec c).1.mem_iff.mpr (parts0_has h)
  · exact parts0_has h
/-- the first fault of a round -/
theorem parts0_nodup : ∀ (r : List Str), r.reverse.Nodup → (parts0 r.reverse).Nodup
  | [], _ => by decide
  | z :: r, h => by
    rw [List.reverse_cons] at h ⊢
    rw [parts0_snoc, List.nodup_append]
    have h' := List.nodup_append.mp h
    have ih := parts0_nodup r h'.1
    refine ⟨ih, ?_, fun a ha b hb e => ?_⟩
    · refine List.Pairwise.map _ (R := fun a b : List Str => a ≠ b) (fun a b ne e => ne ?_) ih
      exact (List.append_inj' e rfl).1
    · obtain ⟨c, _, rfl⟩ := List.mem_map.mp hb
      have hz : z ∈ a := by rw [e]; exact List.mem_append_right _ List.mem_cons_self
      exact h'.2.2 z ((parts0_sub ha).subset hz) z List.mem_cons_self rfl
theorem partsS_perm (zs : List Str) : (partsS zs).Perm (parts0 zs) := by
  unfold partsS
  split
  · rename_i c
    exact (Classical.choose_spec c).1
  · exact List.Perm.refl _
theorem partsS_nodup {zs : List Str} (h : zs.Nodup) : (partsS zs).Nodup := by
  rw [(partsS_perm zs).nodup_iff]
  have := parts0_nodup zs.reverse (by rw [List.reverse_reverse]; exact h)
  rwa [List.reverse_reverse] at this
theorem partsS_len {zs : List Str} (h : zs.length ≤ 6) : (partsS zs).length ≤ 64 := by
  rw [(partsS_perm zs).length_eq, parts0_len _ zs rfl]
  exact Nat.le_trans (Nat.pow_le_pow_right (by decide) h) (by decide)
end Rw
end T_PD

section T_E0
set_option Elab.async false
set_option linter.all false
set_option maxRecDepth 100000
set_option maxHeartbeats 4000000
namespace Rw
open PySem L2 PyProof.Rows
/-! ### plans, stages, states, sights: without the heap -/
def lotOf (P : List (List Str)) (k : Nat) : List Str := P[k]?.getD []
def doneOf (P : List (List Str)) (k : Nat) : List Str := (P.take k).flatten
structure PlanOk (mv : List Str) (P : List (List Str)) : Prop where
  ne : ∀ l ∈ P, l ≠ []
  so : ∀ l ∈ P, sortedS l = true
  fl : P.flatten.Nodup
  mv : ∀ z ∈ P.flatten, z ∈ mv
  nm : ∀ z ∈ P.flatten, Nm z
  l6 : P.flatten.length ≤ 6
theorem flat_le : ∀ {P : List (List Str)}, (∀ l ∈ P, l ≠ []) → P.length ≤ P.flatten.length
  | [], _ => Nat.le_refl _
  | l :: P, h => by
    have h1 := flat_le fun l' hl => h l' (List.mem_cons_of_mem _ hl)
    have h2 : 0 < l.length := List.length_pos_iff.mpr (h l List.mem_cons_self)
    rw [List.flatten_cons, List.length_append, List.length_cons]
    omega
theorem PlanOk.p6 {mv : List Str} {P : List (List Str)} (h : PlanOk mv P) : P.length ≤ 6 := Nat.le_trans (flat_le h.ne) h.l6
theorem lot_mem {P : List (List Str)} {k : Nat} {z : Str} (h : z ∈ lotOf P k) : lotOf P k ∈ P := by
  unfold lotOf at h ⊢
  cases e : P[k]? with
  | none => rw [e] at h; cases h
  | some l => exact List.mem_of_getElem? e
theorem lot_sub {P : List (List Str)} (k : Nat) : (lotOf P k).Sublist P.flatten := by
  unfold lotOf
  cases e : P[k]? with
  | none => exact List.nil_sublist _
  | some l => exact List.sublist_flatten_of_mem (List.mem_of_getElem? e)
theorem done_sub {P : List (List Str)} (k : Nat) : (doneOf P k).Sublist P.flatten := by
  unfold doneOf
  have h := List.take_append_drop k P
  conv => rhs; rw [← h]
  rw [List.flatten_append]
  exact List.sublist_append_left _ _
theorem done_next (P : List (List Str)) (k : Nat) : doneOf P (k + 1) = doneOf P k ++ lotOf P k := by
  unfold doneOf lotOf
  rw [List.take_add_one]
  cases e : P[k]? with
  | none => simp
  | some l => simp
theorem done_lot {P : List (List Str)} (nd : P.flatten.Nodup) {k : Nat} {z : Str} (h1 : z ∈ doneOf P k) (h2 : z ∈ lotOf P k) : False := by
  have h := nd.sublist (done_sub (P := P) (k + 1))
  rw [done_next] at h
  exact (List.nodup_append.mp h).2.2 z h1 z h2 rfl
/-- a stage and the nodes that have changed in it -/
abbrev Sta := Nat × List Str
def newB (P : List (List Str)) (s : Sta) (z : Str) : Bool := decide (z ∈ doneOf P s.1 ∨ z ∈ s.2)
noncomputable def allStas (P : List (List Str)) : List Sta := (List.range (P.length + 1)).flatMap fun k => (partsS (lotOf P k)).map fun B => (k, B)
/-- a goal, a node and a place -/
abbrev Sig := Str × Str × V
structure SigOk (ends dots : List Str) (s : Sig) : Prop where
  e : s.1 ∈ ends
  z : s.2.1 ∈ dots
  p : PlaceOk dots s.1 s.2.1 s.2.2
def seenB (P : List (List Str)) (o n : Str → List (Str × V)) (s : Sig) (t : Sta) : Bool := decide (s.2.2 = look (if newB P t s.2.1 = true then n s.1 else o s.1) s.2.1)
def folB (s t : Sta) : Bool := decide (s.1 < t.1) || (decide (s.1 = t.1) && s.2.all fun z => decide (z ∈ t.2))
noncomputable def seenStas (P : List (List Str)) (o n : Str → List (Str × V)) (S : List Sig) : List (List Sta) := S.map fun s => (allStas P).filter (seenB P o n s)
def aheadStep (acc : List (List Sta)) (ss : List Sta) : List (List Sta) := acc ++ [ss.filter fun t => acc.isEmpty || (acc.getLastD []).any fun s => folB s t]
def keptStep (acc : List (List Sta)) (ss : List Sta) : List (List Sta) := acc ++ [ss.filter fun s => acc.isEmpty || (acc.getLastD []).any fun t => folB s t]
def aheadOfS (seen : List (List Sta)) : List (List Sta) := seen.foldl aheadStep []
def inStories (seen : List (List Sta)) : List (List Sta) := ((aheadOfS seen).reverse.foldl keptStep []).reverse
/-! ### how they stand in the heap -/
structure Stg where
  a : Addr
  d : Addr
  l : Addr
  zs : List Str
  ys : List Str
def StgsT (H : Hp) (L : List Stg) : Prop := ∀ q ∈ L, H q.a = some (.tup [.ref q.d, .ref q.l]) ∧ H q.d = some (.tup (q.zs.map V.str)) ∧ H q.l = some (.tup (q.ys.map V.str))
theorem StgsT.to {H H' : Hp} {L : List Stg} (h : StgsT H L) (x : Evl.Ex H H') : StgsT H' L := fun q hq => ⟨x _ _ (h q hq).1, x _ _ (h q hq).2.1, x _ _ (h q hq).2.2⟩
def StgsOf (P : List (List Str)) (M : List Stg) : Prop := M.length = P.length + 1 ∧ ∀ k q, M[k]? = some q → q.ys = lotOf P k ∧ q.zs.Perm (doneOf P k) ∧ sortedS q.zs = true
structure StaR where
  a : Addr
  b : Addr
  k : Nat
  B : List Str
def StaR.st (q : StaR) : Sta := (q.k, q.B)
def StasT (H : Hp) (L : List StaR) : Prop := ∀ q ∈ L, H q.a = some (.tup [.int (q.k : Int), .ref q.b]) ∧ H q.b = some (.tup (q.B.map V.str))
theorem StasT.to {H H' : Hp} {L : List StaR} (h : StasT H L) (x : Evl.Ex H H') : StasT H' L := fun q hq => ⟨x _ _ (h q hq).1, x _ _ (h q hq).2⟩
abbrev refsS (L : List StaR) : List V := L.map fun q => V.ref q.a
/-- lists of states, each at its place -/
def ListsT (H : Hp) (L : List (Addr × List StaR)) : Prop := ∀ r ∈ L, H r.1 = some (.lst (refsS r.2)) ∧ StasT H r.2
theorem ListsT.to {H H' : Hp} {L : List (Addr × List StaR)} (h : ListsT H L) (x : Evl.Ex H H') : ListsT H' L := fun r hr => ⟨x _ _ (h r hr).1, (h r hr).2.to x⟩
abbrev stasOf (L : List (Addr × List StaR)) : List (List Sta) := L.map fun r => r.2.map StaR.st
def SigT (H : Hp) (a : Addr) (s : Sig) : Prop := H a = some (.tup [.str s.1, .str s.2.1, s.2.2])
def SigsT (H : Hp) (L : List (Addr × Sig)) : Prop := ∀ q ∈ L, SigT H q.1 q.2
theorem SigsT.to {H H' : Hp} {L : List (Addr × Sig)} (h : SigsT H L) (x : Evl.Ex H H') : SigsT H' L := fun q hq => x _ _ (h q hq)
/-- a list or a tuple -/
def SqR (K : PySem.W.Frag) (H : Hp) (a : Addr) (xs : List V) : Prop := SqL K H a xs ∨ SqT K H a xs
theorem SqR.ex {K : PySem.W.Frag} {H H' : Hp} {a : Addr} {xs : List V} (h : SqR K H a xs) (e : Evl.Ex H H') : SqR K H' a xs := h.imp (Evl.ex_l e) (Evl.ex_t e)
theorem map_at {α : Type} {f : α → V} {L : List α} {i : Nat} {x : V} (h : (L.map f)[i]? = some x) : ∃ q, L[i]? = some q ∧ x = f q := by
  rw [List.getElem?_map] at h
  cases e : L[i]? with
  | none => rw [e] at h; cases h
  | some q => rw [e] at h; exact ⟨q, rfl, (Option.some.inj h).symm⟩
end Rw
end T_E0

section T_E1
set_option Elab.async false
set_option linter.all false
set_option maxRecDepth 100000
set_option maxHeartbeats 4000000
namespace L2
open PySem PySem.Spec PyProof.Rows
/-- all(xs) of data -/
def rAllD (K : PySem.W.Frag) : List V → Hp → VK → Prop := fun vs H Q => ∃ (a : Addr) (xs : List V) (ds : List PyData), vs = [V.ref a] ∧ SqL K H a xs ∧ DpAll K H xs ds ∧ PyData.plainAll ds = true ∧ (∀ x ∈ ds, x.fits63) ∧ Q (.bl (ds.all PyData.truthy)) H
theorem cr_allD {X : Cx} (hc : X.calm = true) : CallR X (.builtin "all") (rAllD X.K) := by
  intro pins s σ H vs us Q I r h
  obtain ⟨a, xs, ds, rfl, hs, hd, hp, hf, q⟩ := h
  obtain ⟨its, rv, hl, _⟩ := I.list hs
  rw [Vals.ref1 r]
  obtain ⟨as, hr⟩ := Dp.readsAll I ds _ its hd rv
  refine PySem.W.all_list_data (I.ok.hd hc) hl.isList (by simpa using hr) hp hf fun h' tk hk => ?_
  exact ⟨.bl _, H, I.kept fun b o eo => hk b o eo, rfl, q⟩
end L2
namespace Rw
open PySem L2 PyProof.Rows
def staD (s : Sta) : PyData := .tuple [.int (s.1 : Int), .tuple (s.2.map .str)]
theorem plain_strs : ∀ zs : List Str, PyData.plainAll (zs.map PyData.str) = true
  | [] => rfl
  | z :: zs => by
    show (true && PyData.plainAll (zs.map PyData.str)) = true
    rw [plain_strs zs]
    rfl
theorem plain_stas : ∀ ss : List Sta, PyData.plainAll (ss.map staD) = true
  | [] => rfl
  | s :: ss => by
    show ((true && ((PyData.plainAll (s.2.map PyData.str)) && true)) && PyData.plainAll (ss.map staD)) = true
    rw [plain_stas ss, plain_strs]
    rfl
theorem plain_lists : ∀ LL : List (List Sta), PyData.plainAll (LL.map fun l => .list (l.map staD)) = true
  | [] => rfl
  | l :: LL => by
    show (PyData.plainAll (l.map staD) && PyData.plainAll (LL.map fun l => .list (l.map staD))) = true
    rw [plain_stas, plain_lists LL]
    rfl
theorem dpa_str {K : PySem.W.Frag} {H : Hp} : ∀ zs : List Str, DpAll K H (zs.map V.str) (zs.map PyData.str)
  | [] => .nil
  | z :: zs => .cons (.str z) (dpa_str zs)
theorem dpa_stas {K : PySem.W.Frag} {H : Hp} : ∀ {L : List StaR}, StasT H L → DpAll K H (refsS L) ((L.map StaR.st).map staD)
  | [], _ => .nil
  | q :: L, h => .cons (.tup (Evl.st_of (h q List.mem_cons_self).1) (.cons (.int _) (.cons (.tup (Evl.st_of (h q List.mem_cons_self).2) (dpa_str q.B)) .nil))) (dpa_stas fun q' hq => h q' (List.mem_cons_of_mem _ hq))
theorem dpa_lists {K : PySem.W.Frag} {H : Hp} : ∀ {L : List (Addr × List StaR)}, ListsT H L → DpAll K H (L.map fun r => V.ref r.1) ((stasOf L).map fun l => .list (l.map staD))
  | [], _ => .nil
  | r :: L, h => .cons (.lst (Evl.sq_of (h r List.mem_cons_self).1) (dpa_stas (h r List.mem_cons_self).2)) (dpa_lists fun r' hr => h r' (List.mem_cons_of_mem _ hr))
def fullB (LL : List (List Sta)) : Bool := LL.all fun l => !l.isEmpty
theorem all_lists {K : PySem.W.Frag} {H : Hp} {a : Addr} {L : List (Addr × List StaR)} {Q : VK} (h : H a = some (.lst (L.map fun r => V.ref r.1))) (t : ListsT H L) (few : ∀ r ∈ L, r.2.length ≤ 1000) (q : Q (.bl (fullB (stasOf L))) H) : rAllD K [.ref a] H Q := by
  refine ⟨a, _, _, rfl, Evl.sq_of h, dpa_lists t, plain_lists _, fun x hx => ?_, ?_⟩
  · obtain ⟨l, hl, rfl⟩ := List.mem_map.mp hx
    obtain ⟨r, hr, rfl⟩ := List.mem_map.mp hl
    show (((r.2.map StaR.st).map staD).length : Int) < 2 ^ 63
    rw [List.length_map, List.length_map]
    have := few r hr
    omega
  · have e : (((stasOf L).map fun l => PyData.list (l.map staD)).all PyData.truthy) = fullB (stasOf L) := by
      unfold fullB
      rw [List.all_map]
      congr 1
      funext l
      show (!(l.map staD).isEmpty) = !l.isEmpty
      cases l <;> rfl
    rw [e]
    exact q
end Rw
end T_E1

section T_ET
set_option Elab.async false
set_option linter.all false
set_option maxRecDepth 100000
set_option maxHeartbeats 4000000
namespace Rw
open PySem PySem.Spec L2 PyProof.Rows
/-! ### walks over a list or a tuple; enumerate over a tuple -/
/-- the tuple at a turn by turn, each item in a new pair behind its number -/
def IteT (K : PySem.W.Frag) (a : Addr) : It where
  go := fun k H => ∃ (xs : List V) (v : V), SqT K H a xs ∧ xs[k]? = some v
  yld := fun k H v H' => ∃ p x, v = .ref p ∧ H p = none ∧ H' = upd H p (.tup [.int (k : Nat), x]) ∧ ∀ xs, SqT K H a xs → xs[k]? = some x
  stop := fun k H => ∃ xs : List V, SqT K H a xs ∧ xs.length = k
theorem enumT_turn {P : Program} {w : World} {K : PySem.W.Frag} {es : List Expr} {kk : Nat} {tp : Pos} (a en ti : Addr) :
    Turn P w K (.Tuple es kk tp) (IteT K a) [en, ti] en (fun k hp => (∃ was, IsEnum hp en ti ((k : Nat) : Int) was) ∧ hp.IsTupleIter ti a k ∧ en ≠ ti ∧ a ≠ ti ∧ en ≠ a) where
  mem := by simp
  obj := fun k hp st c hcm => by
    obtain ⟨⟨was, q1⟩, ⟨o, q2, q3, q4⟩, _⟩ := st
    have two : c = en ∨ c = ti := by simpa using hcm
    rcases two with z | z
    · subst z; exact ⟨_, q1, fun v q => nomatch q⟩
    · subst z; exact ⟨o, q2, fun v q => by rw [q4] at q; cases q⟩
  keep := fun k hp hp' st kept => by
    obtain ⟨⟨was, q1⟩, q2, r⟩ := st
    exact ⟨⟨was, kept en (by simp) _ q1⟩, q2.at fun o q => kept ti (by simp) o q, r⟩
  item := by
    intro X e1 e2 e3 hc k pins s σ H E I free st go
    subst e1 e2 e3
    obtain ⟨⟨was, q1⟩, q2, n1, n2, n3⟩ := st
    obtain ⟨xs, v, sq, hv⟩ := go
    obtain ⟨its, vals, pt, _⟩ := I.tuple sq
    obtain ⟨u, hu, ru⟩ := vals.get hv
    have pt' : s.heap.IsTuple a its.toArray := pt
    have hu' : its.toArray[k]? = some u := by simpa using hu
    have lt : k < its.toArray.size := (Array.getElem?_eq_some_iff.mp hu').1
    have hd : X.A.handled = none := I.ok.hd hc
    refine wpAny_pyNext_enum_itemD (Draws.tuple (A := X.A.in1) hd ti a n2 its.toArray) q1 ⟨q2, pt'⟩ lt n1 (by simp [n1, n3]) fun x1 hp1 tk hx1 out st1 new1 size1 keep1 => ?_
    have ex : x1 = u := by rw [hu'] at hx1; exact (Option.some.inj hx1).symm
    subst ex
    have enl : en < s.heap.objs.size := Heap.lt_size q1
    refine ⟨_, rfl, wpAny_letOwnedTupleGo_enum (s := { s with heap := hp1, toks := tk + 1 }) out fun hp2 q1' same => ?_⟩
    have new2 : hp2.get? s.heap.objs.size = some { cls := .type "tuple", data := .seq #[.int k tk, x1] } := (same.2 _ (Nat.ne_of_gt enl)).trans new1
    have obj2 : ObjOk X.prog X.w (upd H s.heap.objs.size (.tup [.int (k : Nat), v])) hp2 s.heap.objs.size (.tup [.int (k : Nat), v]) :=
      ⟨(by show 2 ≤ sizeLine; decide), [.int k tk, x1], .cons ⟨_, rfl⟩ (.cons ru .nil), ⟨_, new2, rfl, _, rfl⟩⟩
    have I1 : Inv X pins σ (upd H s.heap.objs.size (.tup [.int (k : Nat), v])) { s with heap := hp2, toks := tk + 1 } :=
      I.turnedNew (ch := [en, ti]) (fun c o hn q => (same.2 c (fun z => hn (by simp [z]))).trans (keep1 c o (fun z => hn (by simp [z])) (fun z => hn (by simp [z])) q)) free (Nat.le_refl _) obj2
    refine ⟨.ref s.heap.objs.size, _, I1, rfl, ⟨_, v, rfl, I.hok.fresh (Nat.le_refl _), rfl, fun ys hy => by rw [I.tuple_inj hy sq]; exact hv⟩, ⟨⟨x1, ?_⟩, st1.1.at fun o q => (same.2 ti (Ne.symm n1)).trans q, n1, n2, n3⟩, fun c hcm => ?_⟩
    · have ek : ((k + 1 : Nat) : Int) = (k : Int) + 1 := by omega
      rw [ek]; exact q1'
    · have cl : c < s.heap.objs.size := by
        have two : c = en ∨ c = ti := by simpa using hcm
        rcases two with z | z
        · rw [z]; exact enl
        · rw [z]; obtain ⟨_, q, _⟩ := q2; exact Heap.lt_size q
      rw [upd_ne (Nat.ne_of_lt cl)]
      exact (free c hcm).1
  done := by
    intro X e1 e2 e3 hc k pins s σ H E I free st fin
    subst e1 e2 e3
    obtain ⟨⟨was, q1⟩, q2, n1, n2, n3⟩ := st
    obtain ⟨xs, sq, hl⟩ := fin
    obtain ⟨its, vals, pt, _⟩ := I.tuple sq
    have pt' : s.heap.IsTuple a its.toArray := pt
    have vl := vals.length
    have hd : X.A.handled = none := I.ok.hd hc
    have ek : its.toArray.size = k := by simp; omega
    have hst : s.heap.IsTupleIter ti a its.toArray.size ∧ s.heap.IsTuple a its.toArray := by rw [ek]; exact ⟨q2, pt'⟩
    obtain ⟨g0, g1, g2, g3, g4, g5⟩ := free ti (by simp)
    exact wpAny_pyNext_enum_endD (Draws.tuple (A := X.A.in1) hd ti a n2 its.toArray) q1 hst fun hp' eb => ⟨rfl, I.turned (t' := s.toks) (fun c o hn q => eb c o hn q) g0 g1 g3 g4 g5⟩
  self := fun A k s Q E st h => let ⟨⟨_, q1⟩, _⟩ := st; wpAny_pyIter_enum q1 h
/-- enumerate(v), v a thing of which iter(v) begins a new object: its two new cells -/
theorem enumB_meets {v : Value} {o : Obj} {Hd : Heap → Prop} (B : Begins v o Hd) :
    Meets (Builtin.«enumerate.__new__» ⟨[.type "enumerate", v], []⟩) (fun _ R s => Hd s.heap ∧
      R (.ok (.ret (.ref (s.heap.push o).objs.size))) { s with heap := (s.heap.push o).push { cls := .type "enumerate", data := .fields #[.none, .bool false, .ref s.heap.objs.size, rawInt 0, .none, .none] } }) := by
  refine .of_wp fun prog w A R s h => ?_
  obtain ⟨hp, g, d, tk, os⟩ := s
  obtain ⟨b1, h⟩ := h
  have sub := sub_enumerate
  have walk : ∀ {A' : Around} {E : Value → Shared → Prop} {Q : Value → Shared → Prop}, Q (.ref hp.objs.size) ⟨hp.push o, g, d, tk, os⟩ → wpAny (model prog w) A' (pyIter v) Q E ⟨hp, g, d, tk, os⟩ := fun q => B.iter prog w _ _ ⟨hp, g, d, tk, os⟩ _ b1 q
  wp_walk using walk
  refine wpAny_stack_any fun st => wpAny_pure ?_
  split
  · rename_i c _ _ _ _ _
    cases (c == Value.type "enumerate") <;>
    · wp_walk using walk
      exact ⟨_, rfl, h⟩
  · wp_walk using walk
    exact ⟨_, rfl, h⟩
theorem enumB_call {prog : Program} {w : World} {A : Around} {E : Value → Shared → Prop} {s : Shared} {v : Value} {o : Obj} {Hd : Heap → Prop} {Q : Value → Shared → Prop} (B : Begins v o Hd) (b1 : Hd s.heap)
    (h : ∀ hp, IsEnum hp (s.heap.objs.size + 1) s.heap.objs.size 0 .none → hp.get? s.heap.objs.size = some o → (∀ c oc, s.heap.get? c = some oc → hp.get? c = some oc) → Q (.ref (s.heap.objs.size + 1)) { s with heap := hp }) :
    wpAny (model prog w) A (call (.type "enumerate") [v]) Q E s := by
  refine callType_new F.called_enumerate (by decide) (F.typeCall_enumerate_1 _) (F.newCall_enumerate_1 _) (fun obj => F.args_object_init_2 obj _) F.entry_enumerate_new (enumB_meets B) ⟨b1, ?_⟩
  have z : (s.heap.push o).objs.size = s.heap.objs.size + 1 := Heap.size_push ..
  show _ ∧ _
  rw [z]
  have q : IsEnum ((s.heap.push o).push { cls := .type "enumerate", data := .fields #[.none, .bool false, .ref s.heap.objs.size, rawInt 0, .none, .none] }) (s.heap.objs.size + 1) s.heap.objs.size 0 .none := by
    have r := Heap.get?_push_size (s.heap.push o) (o := { cls := .type "enumerate", data := .fields #[.none, .bool false, .ref s.heap.objs.size, rawInt 0, .none, .none] }) rfl
    rw [z] at r
    exact r
  exact ⟨⟨_, q, rfl⟩, h _ q (Heap.get?_push_of_some _ (Heap.get?_push_size _ B.free)) fun c oc x => Heap.get?_push_of_some _ (Heap.get?_push_of_some _ x)⟩
def EnOf (K : PySem.W.Frag) (H : Hp) (a : Addr) (xs : List V) (J : It) : Prop := (SqL K H a xs ∧ J = Ite K a) ∨ (SqT K H a xs ∧ J = IteT K a)
theorem EnOf.ex {K : PySem.W.Frag} {H H' : Hp} {a : Addr} {xs : List V} {J : It} (h : EnOf K H a xs J) (x : Evl.Ex H H') : EnOf K H' a xs J := h.imp (fun h => ⟨Evl.ex_l x h.1, h.2⟩) fun h => ⟨Evl.ex_t x h.1, h.2⟩
def iEnumR (K : PySem.W.Frag) (ta : TA) : TI := fun σ H R => ta σ H fun vs H1 => ∃ a xs J, vs = [.ref a] ∧ EnOf K H1 a xs J ∧ R J H1
theorem pi_enumR {X : Cx} {e : Expr} {ta : TA} {p pos tp : Pos} {es : List Expr} {kk : Nat} (hg : Gl X "enumerate") (hm : X.mg "enumerate" = none) (ha : PA X [e] ta) (hs : starEach [e] X.env = [(false, eval e X.env)] := by rfl) :
    PI X (.Tuple es kk tp) (.Call (.Name "enumerate" p) [e] [] pos) (iEnumR X.K ta) := by
  refine ⟨fun pins s σ H R I h => Call_ (ld_blt I hg hm boot_enumerate (PyProof.Rows.callWith_type1 (thn (ha.run pos pins s σ H _ I h) fun us s1 ⟨vs, H1, I1, r1, q1⟩ => ?_) hs rfl))⟩
  obtain ⟨a, xs, J, ev, kind, q⟩ := q1
  subst ev
  cases r1 with
  | cons r rr =>
    cases rr
    cases r
    have two : ∀ b, b ∈ [s1.heap.objs.size + 1, s1.heap.objs.size] → FpOk X pins H1 b := fun b hb => by
      have e2 : b = s1.heap.objs.size + 1 ∨ b = s1.heap.objs.size := by simpa using hb
      have le : s1.heap.objs.size ≤ b := by
        rcases e2 with z | z <;> rw [z]
        · exact Nat.le_succ _
        · exact Nat.le_refl _
      exact I1.fpOk le (I1.hok.fresh le)
    rcases kind with ⟨sq, rfl⟩ | ⟨sq, rfl⟩
    · obtain ⟨its, vals, pl, _⟩ := I1.list sq
      refine enumB_call (begins_list a its.toArray) pl.isList fun hp q1 q2 keep => wpAny_pyIter_enum q1 ?_
      have I2 : Inv X pins σ H1 { s1 with heap := hp } := I1.kept (t' := s1.toks) keep
      exact ⟨_, _, _, _, H1, rfl, I2, turn_enum a (s1.heap.objs.size + 1) s1.heap.objs.size, ⟨⟨.none, q1⟩, ⟨_, q2, rfl, rfl⟩, Nat.succ_ne_self _⟩, two, q⟩
    · obtain ⟨its, vals, pt, _⟩ := I1.tuple sq
      have pt' : s1.heap.IsTuple a its.toArray := pt
      have al : a < s1.heap.objs.size := by obtain ⟨o, ho, _⟩ := id pt'; exact Heap.lt_size ho
      refine enumB_call (begins_tuple a its.toArray) pt' fun hp q1 q2 keep => wpAny_pyIter_enum q1 ?_
      have I2 : Inv X pins σ H1 { s1 with heap := hp } := I1.kept (t' := s1.toks) keep
      exact ⟨_, _, _, _, H1, rfl, I2, enumT_turn a (s1.heap.objs.size + 1) s1.heap.objs.size, ⟨⟨.none, q1⟩, ⟨_, q2, rfl, rfl⟩, Nat.succ_ne_self _, Nat.ne_of_lt al, fun z => absurd (z ▸ al) (Nat.not_lt.mpr (Nat.le_succ _))⟩, two, q⟩
theorem walk_enumT {K : PySem.W.Frag} {a : Addr} {xs : List V} : Walk (IteT K a) xs.length (fun H => SqT K H a xs) (YPair (fun i => some (.int (i : Nat))) (fun i => xs[i]?)) where
  goes := fun i _ hi q => ⟨xs, xs[i], q, by simp [hi]⟩
  stops := fun _ q => ⟨xs, q, rfl⟩
  yields := fun i _ _ _ _ q y => by
    obtain ⟨p, x, y1, y2, y3, y4⟩ := y
    exact ⟨p, .int (i : Nat), x, y1, y2, y3, rfl, y4 xs q⟩
theorem SqR.enum {K : PySem.W.Frag} {H : Hp} {a : Addr} {xs : List V} (h : SqR K H a xs) : ∃ J G, EnOf K H a xs J ∧ Walk J xs.length G (YPair (fun i => some (.int (i : Nat))) (fun i => xs[i]?)) ∧ ∀ H', Evl.Ex H H' → G H' := by
  rcases h with h | h
  · exact ⟨_, _, .inl ⟨h, rfl⟩, walk_enum, fun H' x => Evl.ex_l x h⟩
  · exact ⟨_, _, .inr ⟨h, rfl⟩, walk_enumT, fun H' x => Evl.ex_t x h⟩
/-! ### a for over a list or a tuple -/
def SqOf (K : PySem.W.Frag) (H : Hp) (a : Addr) (J : It) : Prop := ((∃ xs, SqL K H a xs) ∧ J = Itl K a) ∨ ((∃ xs, SqT K H a xs) ∧ J = Itt K a)
theorem SqOf.ex {K : PySem.W.Frag} {H H' : Hp} {a : Addr} {J : It} (h : SqOf K H a J) (x : Evl.Ex H H') : SqOf K H' a J := h.imp (fun h => ⟨h.1.imp fun _ => Evl.ex_l x, h.2⟩) fun h => ⟨h.1.imp fun _ => Evl.ex_t x, h.2⟩
def iSeqR (K : PySem.W.Frag) (te : TE) : TI := fun σ H R => te σ H fun x H1 => ∃ a J, x = .ref a ∧ SqOf K H1 a J ∧ R J H1
theorem pi_seqR {X : Cx} {tg e : Expr} {te : TE} (he : PE X e te) : PI X tg e (iSeqR X.K te) := by
  refine ⟨fun pins s σ H R I h => thn (he.run pins s σ H _ I h) fun v s1 ⟨x, H1, I1, r1, q1⟩ => ?_⟩
  obtain ⟨a, J, ev, kind, q⟩ := q1
  subst ev
  cases r1
  rcases kind with ⟨⟨xs, sq⟩, rfl⟩ | ⟨⟨xs, sq⟩, rfl⟩
  · obtain ⟨its, vals, pl, _⟩ := I1.list sq
    exact wpAny_pyIter_list pl.isList (pi_one (tk := s1.toks) I1 _ (turn_list a _) ⟨_, Heap.get?_push_size _ rfl, rfl, rfl⟩ q)
  · obtain ⟨its, vals, pt, _⟩ := I1.tuple sq
    exact wpAny_pyIter_tuple (show s1.heap.IsTuple a its.toArray from pt) (pi_one (tk := s1.toks) I1 _ (turn_tuple a _) ⟨_, Heap.get?_push_size _ rfl, rfl, rfl⟩ q)
theorem SqR.seq {K : PySem.W.Frag} {H : Hp} {a : Addr} {xs : List V} (h : SqR K H a xs) : ∃ J G, SqOf K H a J ∧ Walk J xs.length G (YAt xs) ∧ ∀ H', Evl.Ex H H' → G H' := by
  rcases h with h | h
  · exact ⟨_, _, .inl ⟨⟨_, h⟩, rfl⟩, walk_list, fun H' x => Evl.ex_l x h⟩
  · exact ⟨_, _, .inr ⟨⟨_, h⟩, rfl⟩, walk_tup, fun H' x => Evl.ex_t x h⟩
theorem SqR.len {K : PySem.W.Frag} {H : Hp} {a : Addr} {xs : List V} (h : SqR K H a xs) : (∃ ys, SqL K H a ys ∧ ys.length = xs.length) ∨ (∃ ys, SqT K H a ys ∧ ys.length = xs.length) := h.imp (fun h => ⟨_, h, rfl⟩) fun h => ⟨_, h, rfl⟩
end Rw
end T_ET

section T_JO
set_option Elab.async false
set_option linter.all false
set_option maxRecDepth 100000
set_option maxHeartbeats 4000000
namespace Rw
open PySem L2 PyProof.Rows
section
variable {P : Program} {w : World} {K : PySem.W.Frag} {mg : Str → Option Value} {base : Heap}
/-! ### joined -/
def spJoined : Sp := fun vs H Q _ => ∃ (a b : Addr) (zs ys : List Str), vs = [.ref a, .ref b] ∧ SqT K H a (zs.map V.str) ∧ SqT K H b (ys.map V.str) ∧ zs.length + ys.length ≤ 60 ∧
  ∀ (p : Addr) (H' : Hp) (js : List Str), Evl.Ex H H' → H p = none → H' p = some (.tup (js.map V.str)) → js.Perm (zs ++ ys) → sortedS js = true → Q (.ref p) H'
abbrev nJoined : List Str := ["lot", "other"]
theorem sc_joined : FnScope nJoined ["lot", "other"] (defScope p_joined) := ⟨rfl, rfl, rfl, by decide +kernel, rfl, by decide +kernel, by decide +kernel⟩
theorem ok_joined {f : Addr} {fd : FuncData} (F : Fun K "joined" "joined" p_joined f fd) (mTup : mg "tuple" = none) (mSorted : mg "sorted" = none) : FnOk P w K mg base CX0 1 f fd ["lot", "other"] (spJoined (K := K)) := by
  refine F.ok sc_joined (fun vs H Q E h => ?_) (fun cdv A outer s H vs Q E hr h => ?_)
  · obtain ⟨a, b, zs, ys, rfl, _⟩ := h
    rfl
  · obtain ⟨a, b, zs, ys, rfl, ha, hb, few, k⟩ := h
    have nd := sc_joined.nd
    refine ⟨_, pss_one (ps_ret (pe_callTy call_tuple_of (by rfl) mTup (by decide +kernel) (pa_cons (pe_callB cr_sortedS (by rfl) mSorted (by decide +kernel) (pa_cons (pe_lst (StX.pa_star (pv 0) (StX.pa_star (pv 1) pa_nil))) pa_nil)) pa_nil))), ?_⟩
    refine ⟨.ref a, rfl, a, _, rfl, .inl ha, .ref b, rfl, b, _, rfl, .inl hb, ?_⟩
    have e0 : zs.map V.str ++ (ys.map V.str ++ []) = (zs ++ ys).map V.str := by rw [List.append_nil, List.map_append]
    refine ⟨by show (zs.map V.str ++ (ys.map V.str ++ [])).length ≤ sizeLine; rw [e0, List.length_map, List.length_append]; exact Nat.le_of_lt (small1000 (by omega)), fun l hl => ?_⟩
    refine ⟨l, zs ++ ys, rfl, Evl.sq_of (by rw [← e0]; exact upd_same), by rw [List.length_append]; omega, fun js r hp hs hr' => ?_⟩
    refine ⟨r, _, rfl, .inl ⟨Evl.sq_of upd_same, fun t ht => ?_⟩⟩
    have x := ((Evl.Ex.new (H := H) hl).trans (Evl.Ex.new (o := HO.lst (js.map V.str)) hr')).trans (Evl.Ex.new (o := HO.tup (js.map V.str)) ht)
    exact k t _ js x (ex_none ((Evl.Ex.new hl).trans (Evl.Ex.new hr')) ht) upd_same hp hs
end
end Rw
end T_JO

section T_W0
set_option Elab.async false
set_option linter.all false
set_option maxRecDepth 100000
set_option maxHeartbeats 4000000
namespace Rw
open PySem L2 PyProof.Rows
/-! ### the places that a table leads to -/
/-- zs behind, v the place: on, up to one that is no key or came before -/
def track (tb : List (Str × V)) : Nat → List Str → V → List V
  | 0, zs, v => zs.map V.str ++ [v]
  | k + 1, zs, v => match v with
    | .str z => match valV (tkv tb) (Sum.inr z) with
      | some u => if z ∈ zs then zs.map V.str ++ [v] else track tb k (zs ++ [z]) u
      | none => zs.map V.str ++ [v]
    | _ => zs.map V.str ++ [v]
def walkOf (tb : List (Str × V)) (n : Nat) (z : Str) : List V := track tb n [] (.str z)
theorem track_non {tb : List (Str × V)} {k : Nat} {zs : List Str} : track tb k zs .non = zs.map V.str ++ [.non] := by cases k <;> rfl
theorem track_out {tb : List (Str × V)} {k : Nat} {zs : List Str} {z : Str} (h : valV (tkv tb) (Sum.inr z) = none) : track tb k zs (.str z) = zs.map V.str ++ [.str z] := by
  cases k with
  | zero => rfl
  | succ k => show (match valV (tkv tb) (Sum.inr z) with | some u => _ | none => _) = _; rw [h]
theorem track_ring {tb : List (Str × V)} {k : Nat} {zs : List Str} {z : Str} (h : z ∈ zs) : track tb k zs (.str z) = zs.map V.str ++ [.str z] := by
  cases k with
  | zero => rfl
  | succ k =>
    show (match valV (tkv tb) (Sum.inr z) with | some u => if z ∈ zs then zs.map V.str ++ [V.str z] else track tb k (zs ++ [z]) u | none => zs.map V.str ++ [V.str z]) = _
    cases valV (tkv tb) (Sum.inr z) with
    | none => rfl
    | some u => show (if z ∈ zs then _ else _) = _; rw [if_pos h]
theorem track_on {tb : List (Str × V)} {k : Nat} {zs : List Str} {z : Str} {u : V} (h : valV (tkv tb) (Sum.inr z) = some u) (hz : z ∉ zs) : track tb (k + 1) zs (.str z) = track tb k (zs ++ [z]) u := by
  show (match valV (tkv tb) (Sum.inr z) with | some u => if z ∈ zs then zs.map V.str ++ [V.str z] else track tb k (zs ++ [z]) u | none => zs.map V.str ++ [V.str z]) = _
  rw [h]
  show (if z ∈ zs then _ else _) = _
  rw [if_neg hz]
theorem iteF {A B : Prop} (h : B) : if false = true then A else B := by
  rw [if_neg (by decide)]
  exact h
/-- a place that can stand in a walk -/
def Spot (v : V) : Prop := v = .non ∨ ∃ y : Str, v = .str y ∧ Nm y
theorem place_spot {zs : List Str} {e z : Str} {v : V} (h : PlaceOk zs e z v) (hz : ∀ y ∈ zs, Nm y) (he : Nm e) : Spot v := by
  rcases h with rfl | rfl | ⟨y, hy, _, rfl⟩
  · exact .inl rfl
  · exact .inr ⟨e, rfl, he⟩
  · exact .inr ⟨y, rfl, hz y hy⟩
theorem track_spots {tb : List (Str × V)} (h : ∀ q ∈ tb, Spot q.2) : ∀ (k : Nat) (zs : List Str) (v : V), (∀ z ∈ zs, Nm z) → Spot v → ∀ u ∈ track tb k zs v, Spot u := by
  intro k
  have base : ∀ (zs : List Str) (v : V), (∀ z ∈ zs, Nm z) → Spot v → ∀ u ∈ zs.map V.str ++ [v], Spot u := fun zs v hz hv u hu => by
    rcases List.mem_append.mp hu with hu | hu
    · obtain ⟨z, hz', rfl⟩ := List.mem_map.mp hu
      exact .inr ⟨z, rfl, hz z hz'⟩
    · rw [List.mem_singleton.mp hu]
      exact hv
  induction k with
  | zero => exact base
  | succ k ih =>
    intro zs v hz hv u hu
    rcases hv with rfl | ⟨y, rfl, hy⟩
    · rw [track_non] at hu
      exact base zs .non hz (.inl rfl) u hu
    · cases q : valV (tkv tb) (Sum.inr y) with
      | none =>
        rw [track_out q] at hu
        exact base zs _ hz (.inr ⟨y, rfl, hy⟩) u hu
      | some w =>
        by_cases m : y ∈ zs
        · rw [track_ring m] at hu
          exact base zs _ hz (.inr ⟨y, rfl, hy⟩) u hu
        · rw [track_on q m] at hu
          refine ih (zs ++ [y]) w (fun z hz' => ?_) ?_ u hu
          · rcases List.mem_append.mp hz' with hz' | hz'
            · exact hz z hz'
            · rw [List.mem_singleton.mp hz']; exact hy
          · have hk : y ∈ tb.map (·.1) := by
              by_cases hm : y ∈ tb.map (·.1)
              · exact hm
              · rw [tkv_none hm] at q; cases q
            obtain ⟨w', h1, h2⟩ := tkv_some hk
            rw [q] at h1
            rw [Option.some.inj h1]
            exact h _ h2
theorem track_len {tb : List (Str × V)} : ∀ (k : Nat) (zs : List Str) (v : V), (track tb k zs v).length ≤ zs.length + k + 1 := by
  intro k
  induction k with
  | zero => intro zs v; show (zs.map V.str ++ [v]).length ≤ _; simp
  | succ k ih =>
    intro zs v
    have b : ∀ v : V, (zs.map V.str ++ [v]).length ≤ zs.length + (k + 1) + 1 := fun v => by simp
    cases v with
    | str y =>
      cases q : valV (tkv tb) (Sum.inr y) with
      | none => rw [track_out q]; exact b _
      | some w =>
        by_cases m : y ∈ zs
        · rw [track_ring m]; exact b _
        · rw [track_on q m]
          have := ih (zs ++ [y]) w
          rw [List.length_append, List.length_singleton] at this
          omega
    | _ => exact b _
/-- a table that leads from these names to places -/
structure LeadOk (dots : List Str) (tb : List (Str × V)) : Prop where
  ks : tb.map (·.1) = dots
  sp : ∀ q ∈ tb, Spot q.2
  nm : ∀ z ∈ dots, Nm z
theorem LeadOk.get {dots : List Str} {tb : List (Str × V)} {z : Str} (h : LeadOk dots tb) (hz : z ∈ dots) : ∃ v, valV (tkv tb) (Sum.inr z) = some v ∧ Spot v := by
  obtain ⟨v, h1, h2⟩ := tkv_some (tb := tb) (z := z) (by rw [h.ks]; exact hz)
  exact ⟨v, h1, h.sp _ h2⟩
end Rw
end T_W0

section T_W1
set_option Elab.async false
set_option linter.all false
set_option maxRecDepth 100000
set_option maxHeartbeats 4000000
namespace Rw
open PySem L2 PyProof.Rows
/-- the ways at a moment at which just the nodes of on have their new ones -/
def nowTab (dots : List Str) (o n : List (Str × V)) (on : List Str) : List (Str × V) := dots.map fun z => (z, look (if z ∈ on then n else o) z)
theorem nowTab_keys (dots : List Str) (o n : List (Str × V)) (on : List Str) : (nowTab dots o n on).map (·.1) = dots := by
  unfold nowTab
  rw [List.map_map]
  exact List.map_id _
theorem nowTab_snoc (l : List Str) (z : Str) (o n : List (Str × V)) (on : List Str) : nowTab (l ++ [z]) o n on = nowTab l o n on ++ [(z, look (if z ∈ on then n else o) z)] := by
  unfold nowTab
  rw [List.map_append]
  rfl
theorem nowTab_lead {dots : List Str} {e : Str} {o n : List (Str × V)} {on : List Str} (h1 : TabOk dots e o) (h2 : TabOk dots e n) (hz : ∀ y ∈ dots, Nm y) (he : Nm e) : LeadOk dots (nowTab dots o n on) := by
  refine ⟨nowTab_keys _ _ _ _, fun q hq => ?_, hz⟩
  obtain ⟨z, hzd, rfl⟩ := List.mem_map.mp hq
  show Spot (look (if z ∈ on then n else o) z)
  by_cases m : z ∈ on
  · rw [if_pos m]; exact place_spot (look_ok h2 hzd).1 hz he
  · rw [if_neg m]; exact place_spot (look_ok h1 hzd).1 hz he
section
variable {P : Program} {w : World} {K : PySem.W.Frag} {mg : Str → Option Value} {base : Heap}
def spWay (C : Addr) : Sp := fun vs H Q _ => ∃ (m : Addr) (e z : Str) (b : Bool) (ends dots ss ps : List Str) (o n : Str → List (Str × V)), vs = [.ref m, .str e, .str z, .bl b] ∧ NetAt C H m ends dots ss ps o n ∧ ends.length ≤ 100 ∧ e ∈ ends ∧ z ∈ dots ∧
  ∀ H', Evl.Ex H H' → Q (look (if b = true then n e else o e) z) H'
abbrev nWay : List Str := ["self", "goal", "node", "is_new", "old", "new"]
theorem sc_way : FnScope nWay ["self", "goal", "node", "is_new"] (defScope c_Net_way) := ⟨rfl, rfl, rfl, by decide +kernel, rfl, by decide +kernel, by decide +kernel⟩
theorem ok_way {f C : Addr} {fd : FuncData} (F : Fun K "way" "Net.way" c_Net_way f fd) (T : NetTxt K C) (C1 : Cal P w K mg base 3 "check_goal" ["net", "goal"] (spCheckGoal C)) (C2 : Cal P w K mg base 3 "check_node" ["net", "node"] (spCheckDot C)) : FnOk P w K mg base CX0 4 f fd ["self", "goal", "node", "is_new"] (spWay C) := by
  obtain ⟨f1, fd1, F1, k1, b1, g1⟩ := C1.ex
  obtain ⟨f2, fd2, F2, k2, b2, g2⟩ := C2.ex
  refine F.ok sc_way (fun vs H Q E h => ?_) (fun cdv A outer s H vs Q E hr h => ?_)
  · obtain ⟨m, e, z, b, ends, dots, ss, ps, o, n, rfl, _⟩ := h
    rfl
  · obtain ⟨m, e, z, b, ends, dots, ss, ps, o, n, rfl, N, few, he, hz, k⟩ := h
    have nd := sc_way.nd
    have hu := hu_of hr
    refine ⟨_, pss_cons (ps_expr (pe_call F1 hr rfl g1 k1 b1 .nil pass0 (pa_cons (pv 0) (pa_cons (pv 1) pa_nil))))
      (pss_cons (ps_expr (pe_call F2 hr rfl g2 k2 b2 .nil pass0 (pa_cons (pv 0) (pa_cons (pv 2) pa_nil))))
      (pss_cons (ps_asg (pe_dget hu (pe_fld (pv 0) rfl) (pv 1) (fun _ _ => rfl)) (pg_tup rfl (pgs_cons (pg_name (i := 4) nd rfl (.inl rfl)) (pgs_cons (pg_name (i := 5) nd rfl (.inl rfl)) pgs_nil))))
      (pss_one (ps_ret (pe_ifExp (pt_val (pv 3)) (pe_dget hu (pv 5) (pv 2) (fun _ _ => rfl)) (pe_dget hu (pv 4) (pv 2) (fun _ _ => rfl))))))), ?_⟩
    refine ⟨.ref m, rfl, .str e, rfl, m, e, ends, dots, ss, ps, o, n, rfl, N, few, he, fun H1 x1 => ?_⟩
    have N1 := N.to x1
    refine ⟨.ref m, rfl, .str z, rfl, m, z, ends, dots, ss, ps, o, n, rfl, N1, hz, ?_⟩
    obtain ⟨dx, T', N', S, Po, rows, h1, h2, h3, h4, h5, h6, h7⟩ := N1.ex
    obtain ⟨p, po, pn, hv, pa⟩ := h7 e he
    have ge : DGet H1 T' (.str e) (some (.ref p)) := by
      have q := DGet.k (k := Sum.inr e) h2
      rw [hv] at q
      exact q
    have c1 := (look_ok pa.o1 hz)
    have c2 := (look_ok pa.o2 hz)
    have go : DGet H1 po (.str z) (some (look (o e) z)) := by
      have q := DGet.k (k := Sum.inr z) pa.ho
      rw [c1.2, look_canon hz] at q
      exact q
    have gn : DGet H1 pn (.str z) (some (look (n e) z)) := by
      have q := DGet.k (k := Sum.inr z) pa.hn
      rw [c2.2, look_canon hz] at q
      exact q
    have kk := k H1 x1
    refine ⟨.ref m, rfl, m, C, dx, _, .ref T', rfl, h1, T.cl, T.nT, nflds_tables _ _ _ _, .str e, rfl, T', _, rfl, ge, p, _, rfl, Evl.st_of pa.hp, rfl, _, _, rfl, _, [], rfl, rfl, ?_⟩
    cases b with
    | true => exact ⟨.bl true, rfl, true, rfl, iteT ⟨.ref pn, rfl, .str z, rfl, pn, _, rfl, gn, kk⟩⟩
    | false => exact ⟨.bl false, rfl, false, rfl, iteF ⟨.ref po, rfl, .str z, rfl, po, _, rfl, go, kk⟩⟩
end
end Rw
end T_W1

section T_NT
set_option Elab.async false
set_option linter.all false
set_option maxRecDepth 100000
set_option maxHeartbeats 4000000
namespace Rw
open PySem L2 PyProof.Rows LamX
theorem NetAt.nt {C : Addr} {H : Hp} {m : Addr} {ends dots ss ps : List Str} {o n : Str → List (Str × V)} (h : NetAt C H m ends dots ss ps o n) : NetAt C (nt H) m ends dots ss ps o n := by
  obtain ⟨dx, T, N, S, P, rows, h1, h2, h3, h4, h5, h6, h7⟩ := h
  refine ⟨dx, T, N, S, P, rows, nt_of h1 (fun _ z => by cases z), nt_dK h2, nt_tup h3, nt_tup h4, nt_tup h5, h6, fun e he => ?_⟩
  obtain ⟨p, po, pn, hv, pa⟩ := h7 e he
  exact ⟨p, po, pn, hv, nt_tup pa.hp, nt_dK pa.ho, nt_dK pa.hn, pa.o1, pa.o2⟩
theorem SqS.nt {K : PySem.W.Frag} {H : Hp} {a : Addr} {zs : List Str} (h : SqS K H a zs) : SqS K (nt H) a zs := by
  rcases h with h | h
  · refine .inl ?_
    rcases h with (h | ⟨o, h⟩) | h
    · exact .inl (.inl (nt_lst h))
    · exact .inl (.inr ⟨o, nt_of h fun _ z => by cases z⟩)
    · exact .inr h
  · exact .inr (sqt_nt h)
theorem LotAt.nt {H : Hp} {a : Addr} {zs ys : List Str} (h : LotAt H a zs ys) : LotAt (nt H) a zs ys := ⟨nt_tup h.ha, h.sub, h.nd, h.so, h.nm, h.few⟩
theorem sql_nt {K : PySem.W.Frag} {H : Hp} {a : Addr} {xs : List V} (h : SqL K H a xs) : SqL K (nt H) a xs := by
  rcases h with (h | ⟨o, h⟩) | h
  · exact .inl (.inl (nt_lst h))
  · exact .inl (.inr ⟨o, nt_of h fun _ z => by cases z⟩)
  · exact .inr h
theorem codeO_lst {c : Addr} {q : Str} {xs : List V} (h : some (CodeO c q) = some (HO.lst xs)) : False := by
  unfold CodeO at h
  cases h
theorem nt_mut {H H3 : Hp} {D : Addr} {o : HO} (x : Evl.Ex (nt H) (nt H3)) (hD : H D = none) (n : ∀ ps, o ≠ .tbl ps) : Evl.Ex (nt H) (nt (upd H3 D o)) := fun p' o' h' => by
  have h1 := x _ _ h'
  have np : p' ≠ D := fun z => by rw [z] at h'; rw [nt_free hD] at h'; cases h'
  exact nt_of (by rw [upd_ne np]; exact (nt_some h1).1) (nt_some h1).2
theorem nt_mutL {H H3 : Hp} {D : Addr} {xs : List V} (x : Evl.Ex (nt H) (nt H3)) (hD : H D = none) : Evl.Ex (nt H) (nt (upd H3 D (.lst xs))) := nt_mut x hD fun _ z => by cases z
theorem tabs_mutL {T : List (Addr × Str)} {H3 : Hp} {D : Addr} {xs ys : List V} (T3 : Tabs T H3) (d3 : H3 D = some (.lst xs)) : Tabs T (upd H3 D (.lst ys)) := fun q hq => by
  obtain ⟨ts, t1, t2, t3⟩ := T3 q hq
  refine ⟨ts, by rw [upd_ne (fun z => by rw [z, d3] at t1; cases t1)]; exact t1, t2, fun pos cv hcv => ?_⟩
  obtain ⟨c', e1, e2⟩ := t3 pos cv hcv
  exact ⟨c', e1, by rw [upd_ne (fun z => by rw [z, d3] at e2; exact codeO_lst e2.symm)]; exact e2⟩
abbrev wishesL : List Str := ["home", "lost", "posts", "rings"]
theorem moving_sub {ends dots : List Str} {o n : Str → List (Str × V)} {z : Str} (h : z ∈ moving ends dots o n) : z ∈ dots := (List.mem_filter.mp h).1
theorem LotAt.l6 {H : Hp} {a : Addr} {zs ends dots : List Str} {o n : Str → List (Str × V)} (L : LotAt H a zs (moving ends dots o n)) (d6 : dots.length ≤ 6) : zs.length ≤ 6 :=
  Nat.le_trans (nodup_le zs dots L.nd fun z hz => moving_sub (L.sub z hz)) d6
end Rw
end T_NT

section T_E2
set_option Elab.async false
set_option linter.all false
set_option maxRecDepth 100000
set_option maxHeartbeats 8000000
namespace Rw
open PySem L2 PyProof.Rows LamX
theorem lot_app {P : List (List Str)} {k : Nat} : lotOf (P ++ [[]]) k = lotOf P k := by
  unfold lotOf
  by_cases h : k < P.length
  · rw [List.getElem?_append_left h]
  · rw [List.getElem?_append_right (by omega), List.getElem?_eq_none (l := P) (by omega)]
    by_cases h2 : k - P.length = 0
    · rw [h2]; rfl
    · rw [List.getElem?_eq_none (by simp; omega)]
section
variable {P : Program} {w : World} {K : PySem.W.Frag} {mg : Str → Option Value} {base : Heap}
/-! ### stages_of -/
def spStages (K : PySem.W.Frag) : Sp := fun vs H Q _ => ∃ (a : Addr) (L : List (Addr × List Str)), vs = [.ref a] ∧ SqR K H a (L.map fun q => V.ref q.1) ∧ RowsT H L ∧ (L.map (·.2)).flatten.length ≤ 6 ∧ L.length ≤ 6 ∧
  ∀ (p : Addr) (H' : Hp) (M : List Stg), Evl.Ex H H' → H p = none → H' p = some (.lst (M.map fun q => V.ref q.a)) → StgsT H' M → StgsOf (L.map (·.2)) M → Q (.ref p) H'
abbrev nStages : List Str := ["plan", "done", "found", "lot"]
theorem sc_stages : FnScope nStages ["plan"] (defScope p_stages_of) := ⟨rfl, rfl, rfl, by decide +kernel, rfl, by decide +kernel, by decide +kernel⟩
theorem ok_stages {f : Addr} {fd : FuncData} (F : Fun K "stages_of" "stages_of" p_stages_of f fd) (CJ : Cal P w K mg base 1 "joined" ["lot", "other"] (spJoined (K := K))) : FnOk P w K mg base CX0 2 f fd ["plan"] (spStages K) := by
  obtain ⟨fJ, fdJ, JN, kJ, bJ, gJ⟩ := CJ.ex
  refine F.ok sc_stages (fun vs H Q E h => ?_) (fun cdv A outer s H vs Q E hr h => ?_)
  · obtain ⟨a, L, rfl, _⟩ := h
    rfl
  · obtain ⟨a, L, rfl, hS, tL, l6, p6, k⟩ := h
    have nd := sc_stages.nd
    refine ⟨_, pss_cons (ps_set (i := 1) nd rfl (.inl rfl) (pe_tup pa_nil))
      (pss_cons (ps_set (i := 2) nd rfl (.inl rfl) (pe_lst pa_nil))
      (pss_cons (ps_for PassesOwn.never rfl (pi_list (pe_lst (StX.pa_star (pv 0) (pa_cons (pe_tup pa_nil) pa_nil)))) (pg_name (i := 3) nd rfl (.inl rfl))
        (pss_cons (ps_expr (pe_bm PySem.F.plainAttrs_list PySem.F.slot_list_append PySem.F.type_list_append mt_append (pv 2) (pa_cons (pe_tup (pa_cons (pv 1) (pa_cons (pv 3) pa_nil))) pa_nil)))
        (pss_one (ps_set (i := 1) nd rfl (.inl rfl) (pe_call JN hr rfl gJ kJ bJ .nil pass0 (pa_cons (pv 1) (pa_cons (pv 3) pa_nil)))))))
      (pss_one (ps_ret (pv 2))))), ?_⟩
    -- done = (), found = []
    refine ⟨by show 0 ≤ sizeLine; decide, fun d0 hd0 => ⟨by show 0 ≤ sizeLine; decide, fun fo hfo => ?_⟩⟩
    have y0 : Evl.Ex H (upd (upd H d0 (.tup [])) fo (.lst [])) := (Evl.Ex.new hd0).trans (Evl.Ex.new hfo)
    have d1 : (upd (upd H d0 (.tup [])) fo (.lst [])) d0 = some (.tup (([] : List Str).map V.str)) := Evl.Ex.new hfo _ _ upd_same
    have f1 : (upd (upd H d0 (.tup [])) fo (.lst [])) fo = some (.lst (([] : List Stg).map fun q => V.ref q.a)) := upd_same
    have hfo0 : H fo = none := ex_none (Evl.Ex.new hd0) hfo
    generalize upd (upd H d0 (.tup [])) fo (.lst []) = H1 at y0 d1 f1
    -- [*plan, ()]
    refine ⟨.ref a, rfl, a, _, rfl, (hS.ex y0).symm, by show 0 ≤ sizeLine; decide, fun e0 he0 => ?_⟩
    have y1 : Evl.Ex H1 (upd H1 e0 (.tup [])) := Evl.Ex.new he0
    have e1 : (upd H1 e0 (.tup [])) e0 = some (.tup (([] : List Str).map V.str)) := upd_same
    generalize upd H1 e0 (.tup []) = H2 at y1 e1
    refine ⟨by show (L.map (fun q => V.ref q.1) ++ [V.ref e0]).length ≤ sizeLine; rw [List.length_append, List.length_map]; exact Nat.le_of_lt (small1000 (by show L.length + 1 ≤ 1000; omega)), fun li hli => ?_⟩
    obtain ⟨R, hR⟩ : ∃ R, R = L ++ [(e0, ([] : List Str))] := ⟨_, rfl⟩
    have y2 : Evl.Ex H2 (upd H2 li (.lst (L.map (fun q => V.ref q.1) ++ [V.ref e0]))) := Evl.Ex.new hli
    have l2 : (upd H2 li (.lst (L.map (fun q => V.ref q.1) ++ [V.ref e0]))) li = some (.lst (R.map fun q => V.ref q.1)) := by rw [upd_same, hR, List.map_append]; rfl
    generalize upd H2 li (.lst (L.map (fun q => V.ref q.1) ++ [V.ref e0])) = H3 at y2 l2
    have y12 := y1.trans y2
    have y02 := y0.trans y12
    have tR : RowsT H3 R := by
      rw [hR]
      exact (tL.to y02).app fun q hq => by rw [List.mem_singleton.mp hq]; exact y2 _ _ e1
    have f3 := y12 _ _ f1
    have d3 := y12 _ _ d1
    have eR : R.map (·.2) = L.map (·.2) ++ [[]] := by rw [hR, List.map_append]; rfl
    have nlf : li ≠ fo := (ne_of_none (y1 _ _ f1) hli).symm
    have lR : R.length = L.length + 1 := by rw [hR, List.length_append]; rfl
    obtain ⟨Pl, hPl⟩ : ∃ Pl, Pl = L.map (·.2) := ⟨_, rfl⟩
    rw [← hPl] at eR l6 k
    have pl6 : Pl.length ≤ 6 := by rw [hPl, List.length_map]; exact p6
    have dl : ∀ i, (doneOf Pl i).length ≤ 6 := fun i => Nat.le_trans (done_sub i).length_le l6
    refine ⟨li, rfl, ⟨_, Evl.sq_of l2⟩, for_list (K := K) (a := li) (xs := R.map fun q => V.ref q.1)
      (fun i σ H' => ∃ (dn : Addr) (zs : List Str) (x3 : Option V) (M : List Stg), σ = [some (.ref a), some (.ref dn), some (.ref fo), x3] ∧ Evl.Ex H H' ∧ H' li = some (.lst (R.map fun q => V.ref q.1)) ∧ RowsT H' R ∧ H' fo = some (.lst (M.map fun q => V.ref q.a)) ∧ StgsT H' M ∧ M.length = i ∧
        (∀ k q, M[k]? = some q → q.ys = lotOf Pl k ∧ q.zs.Perm (doneOf Pl k) ∧ sortedS q.zs = true) ∧ H' dn = some (.tup (zs.map V.str)) ∧ zs.Perm (doneOf Pl i) ∧ sortedS zs = true)
      ⟨d0, [], none, [], rfl, y02, l2, tR, f3, (fun q hq => nomatch hq), rfl, (fun k q h => by simp at h), d3, by unfold doneOf; simp, rfl⟩ (fun i σ H' _ ⟨_, _, _, _, _, _, h, _⟩ => Evl.sq_of h) ?_ ?_⟩
    · rintro i v σ H4 hi ⟨dn, zs, x3, M, rfl, x4, l4, t4, f4, tM, lM, aM, d4, pz, sz⟩
      obtain ⟨q, hq, rfl⟩ := rowsT_at hi
      have mq := List.mem_of_getElem? hq
      have hil := (List.getElem?_eq_some_iff.mp hq).1
      have tq := t4 q mq
      have eq : q.2 = lotOf Pl i := by
        rw [← lot_app, ← eR]
        unfold lotOf
        rw [List.getElem?_map, hq]
        rfl
      have zl : zs.length ≤ 6 := by rw [pz.length_eq]; exact dl i
      have ql : q.2.length ≤ 6 := by rw [eq]; exact Nat.le_trans (lot_sub i).length_le l6
      -- found.append((done, lot))
      refine ⟨.ref fo, rfl, .inl ⟨rfl, _, Evl.sq_of f4⟩, .ref dn, rfl, .ref q.1, rfl, by show 2 ≤ sizeLine; decide, fun t ht => ?_⟩
      have y5 : Evl.Ex H4 (upd H4 t (.tup [.ref dn, .ref q.1])) := Evl.Ex.new ht
      have t5 : (upd H4 t (.tup [.ref dn, .ref q.1])) t = some (.tup [.ref dn, .ref q.1]) := upd_same
      generalize upd H4 t (.tup [.ref dn, .ref q.1]) = H5 at y5 t5
      have f5 := y5 _ _ f4
      refine ⟨fo, _, .ref t, rfl, rfl, f5, by rw [List.length_map]; exact small1000 (by omega), ?_⟩
      have kp : ∀ {b : Addr} {xs : List V}, H5 b = some (.tup xs) → (upd H5 fo (.lst (M.map (fun q => V.ref q.a) ++ [.ref t]))) b = some (.tup xs) := fun {b xs} h => by rw [upd_ne (ne_of h f5 (by intro z; cases z))]; exact h
      have x6 : Evl.Ex H (upd H5 fo (.lst (M.map (fun q => V.ref q.a) ++ [.ref t]))) := (x4.trans y5).mut hfo0
      have f6 : (upd H5 fo (.lst (M.map (fun q => V.ref q.a) ++ [.ref t]))) fo = some (.lst ((M ++ [(⟨t, dn, q.1, zs, q.2⟩ : Stg)]).map fun q => V.ref q.a)) := by rw [upd_same, List.map_append]; rfl
      have l6' : (upd H5 fo (.lst (M.map (fun q => V.ref q.a) ++ [.ref t]))) li = some (.lst (R.map fun q => V.ref q.1)) := by rw [upd_ne nlf]; exact y5 _ _ l4
      have t6 : RowsT (upd H5 fo (.lst (M.map (fun q => V.ref q.a) ++ [.ref t]))) R := fun r hr => kp (y5 _ _ (t4 r hr))
      have d6 := kp (y5 _ _ d4)
      have tM6 : StgsT (upd H5 fo (.lst (M.map (fun q => V.ref q.a) ++ [.ref t]))) (M ++ [(⟨t, dn, q.1, zs, q.2⟩ : Stg)]) := fun r hr => by
        rcases List.mem_append.mp hr with hr | hr
        · obtain ⟨h1, h2, h3⟩ := tM r hr
          exact ⟨kp (y5 _ _ h1), kp (y5 _ _ h2), kp (y5 _ _ h3)⟩
        · rw [List.mem_singleton.mp hr]
          exact ⟨kp t5, d6, kp (y5 _ _ tq)⟩
      have tq6 := t6 q mq
      generalize upd H5 fo (.lst (M.map (fun q => V.ref q.a) ++ [.ref t])) = H6 at x6 f6 l6' t6 d6 tM6 tq6
      -- done = joined(done, lot)
      refine ⟨.ref dn, rfl, .ref q.1, rfl, dn, q.1, zs, q.2, rfl, Evl.st_of d6, Evl.st_of tq6, by omega, fun j H7 js y7 _ hj pj sj => ?_⟩
      refine ⟨j, js, _, M ++ [(⟨t, dn, q.1, zs, q.2⟩ : Stg)], rfl, x6.trans y7, y7 _ _ l6', t6.to y7, y7 _ _ f6, tM6.to y7, by rw [List.length_append, lM]; rfl, fun k' r hr => ?_, hj, ?_, sj⟩
      · by_cases c : k' < M.length
        · rw [List.getElem?_append_left c] at hr
          exact aM k' r hr
        · rw [List.getElem?_append_right (by omega)] at hr
          have e0' : k' - M.length = 0 := by
            by_cases c2 : k' - M.length = 0
            · exact c2
            · rw [List.getElem?_eq_none (by simp; omega)] at hr
              cases hr
          rw [e0'] at hr
          cases hr
          rw [show k' = i by omega]
          exact ⟨eq, pz, sz⟩
      · rw [done_next, ← eq]
        exact pj.trans (List.Perm.append_right _ pz)
    · rintro σ H4 ⟨dn, zs, x3, M, rfl, x4, l4, t4, f4, tM, lM, aM, d4, pz, sz⟩
      rw [List.length_map, lR] at lM
      exact ⟨.ref fo, rfl, k fo H4 M x4 hfo0 f4 tM ⟨by rw [lM, hPl, List.length_map], aM⟩⟩
end
end Rw
end T_E2

section T_E3
set_option Elab.async false
set_option linter.all false
set_option maxRecDepth 100000
set_option maxHeartbeats 8000000
namespace Rw
open PySem L2 PyProof.Rows LamX
theorem lot_at {P : List (List Str)} {k : Nat} {l : List Str} (h : P[k]? = some l) : lotOf P k = l := by unfold lotOf; rw [h]; rfl
section
variable {P : Program} {w : World} {K : PySem.W.Frag} {mg : Str → Option Value} {base : Heap}
/-! ### first_wrong_round, check_plan -/
def spFirstWrong (K : PySem.W.Frag) (C : Addr) : Sp := fun vs H Q _ => ∃ (m a : Addr) (L : List (Addr × List Str)) (ends dots ss ps : List Str) (o n : Str → List (Str × V)), vs = [.ref m, .ref a] ∧ NetAt C H m ends dots ss ps o n ∧ ModelOk ends dots ss ps ∧ SqR K H a (L.map fun q => V.ref q.1) ∧ RowsT H L ∧ PlanOk (moving ends dots o n) (L.map (·.2)) ∧
  ∀ H', Evl.Ex H H' → Q .non H'
abbrev nFirstWrong : List Str := ["net", "rounds", "left", "at", "lot", "node"]
theorem sc_first_wrong : FnScope nFirstWrong ["net", "rounds"] (defScope p_first_wrong_round) := ⟨rfl, rfl, rfl, by decide +kernel, rfl, by decide +kernel, by decide +kernel⟩
theorem ok_first_wrong {f C : Addr} {fd : FuncData} (F : Fun K "first_wrong_round" "first_wrong_round" p_first_wrong_round f fd) (T : NetTxt K C) (Pg : Prp P w K mg base C 2 "changing" (spChanging C)) (C2 : Cal P w K mg base 1 "is_lot_of" ["value", "nodes"] spLotOf)
    (mEnum : mg "enumerate" = none) (mLen : mg "len" = none) (mTup : mg "tuple" = none) : FnOk P w K mg base CX0 4 f fd ["net", "rounds"] (spFirstWrong K C) := by
  obtain ⟨p1, g1, fd1, at1, F1, b1⟩ := Pg.ex
  obtain ⟨f2, fd2, F2, k2, b2, g2⟩ := C2.ex
  refine F.ok sc_first_wrong (fun vs H Q E h => ?_) (fun cdv A outer s H vs Q E hr h => ?_)
  · obtain ⟨m, a, L, ends, dots, ss, ps, o, n, rfl, _⟩ := h
    rfl
  · obtain ⟨m, a, L, ends, dots, ss, ps, o, n, rfl, N, ok, hS, tL, pk, k⟩ := h
    have nd := sc_first_wrong.nd
    have hr1 : Room 1 _ := hr.mono (by decide)
    have e2 := ok.e2
    have d6 := ok.d6
    refine ⟨_, pss_cons (ps_set (i := 2) nd rfl (.inl rfl) (pe_prop (pv 0) T.cl at1 F1 hr b1 .nil pass0 rfl))
      (pss_cons (ps_for PassesOwn.never rfl (pi_enumR (by rfl) mEnum (pa_cons (pv 1) pa_nil)) (pg_tup rfl (pgs_cons (pg_name (i := 3) nd rfl (.inl rfl)) (pgs_cons (pg_name (i := 4) nd rfl (.inr rfl)) pgs_nil)))
        (pss_cons (ps_if (PW.pt (pw_or (pt_not (pt_val (pe_call F2 hr1 rfl g2 k2 b2 .nil pass0 (pa_cons (pv 4) (pa_cons (pv 2) pa_nil))))) (pw_or1 (pt_cmpR op_eq (pe_callB call_len (by rfl) mLen PySem.boot_len (pa_cons (pv 4) pa_nil)) pe_int (nomark _))))) (pss_one (ps_ret (pv 3))) pss_nil)
        (pss_one (ps_set (i := 2) nd rfl (.inl rfl) (pe_callTy call_tuple_of (by rfl) mTup (by decide +kernel) (pa_cons
          (pe_lc (own := [("node", 5)]) (g := gName 5) (tt := tTest (tOp (rIn K true) (tVar 5) (tVar 4))) (te := tVar 5) rfl nd (pi_tup (pv 2)) (blkOk_by (own := [("node", 5)]) (N := nFirstWrong) (sc := defScope p_first_wrong_round) (by decide +kernel))
            (fun _ _ _ _ _ => pg_name (i := 5) nd rfl (Or.inl rfl)) (fun _ _ _ _ _ => pts_one (pt_cmpR op_notIn_seq (pv 5) (pv 4) rfl)) (fun _ _ _ _ _ => pv 5)) pa_nil))))))
      (pss_one (ps_ret pe_non))), ?_⟩
    have N2 := N
    obtain ⟨dx, T', N', S, Po, rows, h1, h2, h3, h4, h5, h6, h7⟩ := N.ex
    have mvl : (moving ends dots o n).length ≤ 6 := Nat.le_trans (List.length_filter_le _ _) d6
    obtain ⟨mv, hmv⟩ : ∃ mv, mv = moving ends dots o n := ⟨_, rfl⟩
    refine ⟨.ref m, rfl, m, dx, _, rfl, h1, m, ends, dots, ss, ps, o, n, rfl, N2, by omega, by omega, ok.en, fun l H1 x1 _ hl => ?_⟩
    rw [← hmv] at pk mvl hl
    obtain ⟨Pl, hPl⟩ : ∃ Pl, Pl = L.map (·.2) := ⟨_, rfl⟩
    rw [← hPl] at pk
    obtain ⟨J, G, kind, wk, gx⟩ := hS.enum
    refine ⟨.ref a, rfl, a, _, J, rfl, kind.ex x1, for_it wk
      (fun i σ H' => ∃ (le : Addr) (ls : List Str) (x3 x4 : Option V), σ = [some (.ref m), some (.ref a), some (.ref le), x3, x4, none] ∧ Evl.Ex H H' ∧ H' le = some (.tup (ls.map V.str)) ∧ (∀ z, z ∈ ls ↔ z ∈ mv ∧ z ∉ doneOf Pl i) ∧ ls.length ≤ 6)
      ⟨l, mv, none, none, rfl, x1, hl, (fun z => by unfold doneOf; simp), mvl⟩ (fun i σ H' _ ⟨_, _, _, _, _, x, _⟩ => gx _ x) ?_ ?_⟩
    · rintro i x σ H2 H2' hi ⟨le, ls, x3, x4, rfl, x2, h2', am, ll⟩ ⟨Tt, u1, u2, rfl, hTt, rfl, hy1, hy2⟩
      cases hy1
      obtain ⟨q, hq, rfl⟩ := rowsT_at hy2
      have mq := List.mem_of_getElem? hq
      have y3 : Evl.Ex H2 (upd H2 Tt (.tup [.int (i : Nat), .ref q.1])) := Evl.Ex.new hTt
      refine ⟨Tt, _, rfl, Evl.st_of upd_same, rfl, _, _, rfl, _, [], rfl, rfl, ?_⟩
      generalize upd H2 Tt (.tup [.int (i : Nat), .ref q.1]) = H3 at y3
      have x23 := x2.trans y3
      have tq := x23 _ _ (tL q mq)
      have qP : Pl[i]? = some q.2 := by rw [hPl, List.getElem?_map, hq]; rfl
      have ql := lot_at qP
      have qin : q.2 ∈ Pl := List.mem_of_getElem? qP
      have qsub : q.2.Sublist Pl.flatten := by rw [← ql]; exact lot_sub i
      have q6 : q.2.length ≤ 6 := Nat.le_trans qsub.length_le pk.l6
      have LA : LotAt H3 q.1 q.2 ls := ⟨tq, fun z hz => (am z).mpr ⟨pk.mv z (qsub.subset hz), fun hd => done_lot pk.fl hd (by rw [ql]; exact hz)⟩, pk.fl.sublist qsub, pk.so q.2 qin, fun z hz => pk.nm z (qsub.subset hz), by omega⟩
      refine ⟨.ref q.1, rfl, .ref le, rfl, q.1, le, q.2, ls, rfl, LA, y3 _ _ h2', fun H4 x4' => ⟨true, rfl, ?_⟩⟩
      have q0 : q.2.length ≠ 0 := fun z => pk.ne q.2 qin (List.length_eq_zero_iff.mp z)
      have tq4 := x4' _ _ tq
      refine ⟨.ref q.1, rfl, .ref q.1, q.2.length, rfl, .inr ⟨_, Evl.st_of tq4, by rw [List.length_map]⟩, rfl, _, rfl, ?_⟩
      rw [decide_eq_false (fun z => q0 (by injection z with z; omega))]
      refine iteF ?_
      have le4 := x4' _ _ (y3 _ _ h2')
      refine ⟨.ref le, rfl, le, rfl, ⟨_, Evl.st_of le4⟩, fun D hD => lc_tup (K := K) (a := le) (xs := ls.map V.str)
        (fun j H' => Evl.Ex H4 H' ∧ H' D = some (.lst (((ls.take j).filter fun z => decide (z ∉ q.2)).map V.str))) ⟨Evl.Ex.new hD, upd_same⟩ (fun j H' _ h => Evl.st_of (h.1 _ _ le4)) ?_ ?_⟩
      · rintro j y H5 hj ⟨x5, d5⟩
        obtain ⟨z, hz, rfl⟩ := str_at hj
        have ez : ls.take (j + 1) = ls.take j ++ [z] := by rw [List.take_add_one, hz]; rfl
        have fl : ((ls.take j).filter fun z => decide (z ∉ q.2)).length ≤ 100 := Nat.le_trans (List.length_filter_le _ _) (by rw [List.length_take]; omega)
        refine ⟨rfl, .str z, rfl, .ref q.1, rfl, q.1, q.2.map V.str, rfl, .inr (Evl.st_of (x5 _ _ tq4)), rfl, flat_strs _, _, rfl, ?_⟩
        rw [inV_str]
        by_cases mz : z ∈ q.2
        · rw [decide_eq_true mz]
          refine iteF ⟨x5, ?_⟩
          rw [d5, ez, List.filter_append, List.filter_cons_of_neg (by rw [decide_eq_false (not_not_intro mz)]; decide), List.filter_nil, List.append_nil]
        · rw [decide_eq_false mz]
          refine iteT ⟨.str z, rfl, _, d5, by rw [List.length_map]; exact small1000 (by omega), x5.mut hD, ?_⟩
          rw [upd_same, ez, List.filter_append, List.filter_cons_of_pos (by rw [decide_eq_true mz]), List.filter_nil, List.map_append]
          rfl
      rintro H5 ⟨x5, d5⟩
      rw [List.length_map, List.take_length] at d5
      refine ⟨D, _, rfl, .inl ⟨Evl.sq_of d5, fun p hp => ?_⟩⟩
      refine ⟨p, ls.filter fun z => decide (z ∉ q.2), _, _, rfl, ((x23.trans x4').trans x5).trans (Evl.Ex.new hp), upd_same, fun z => ?_, Nat.le_trans (List.length_filter_le _ _) ll⟩
      rw [List.mem_filter, am, done_next, ql, List.mem_append, decide_eq_true_eq]
      constructor
      · rintro ⟨⟨a1, a2⟩, a3⟩
        exact ⟨a1, fun h => h.elim a2 a3⟩
      · rintro ⟨a1, a2⟩
        exact ⟨⟨a1, fun h => a2 (.inl h)⟩, fun h => a2 (.inr h)⟩
    · rintro σ H2 ⟨le, ls, x3, x4, rfl, x2, _⟩
      exact k H2 x2
def spCheckPlan (K : PySem.W.Frag) (C : Addr) : Sp := spFirstWrong K C
theorem sc_check_plan : FnScope ["net", "plan", "wrong"] ["net", "plan"] (defScope p_check_plan) := ⟨rfl, rfl, rfl, by decide +kernel, rfl, by decide +kernel, by decide +kernel⟩
theorem ok_check_plan {f C : Addr} {fd : FuncData} (F : Fun K "check_plan" "check_plan" p_check_plan f fd) (C1 : Cal P w K mg base 1 "is_list" ["value"] (spIsList K)) (C2 : Cal P w K mg base 4 "first_wrong_round" ["net", "rounds"] (spFirstWrong K C)) : FnOk P w K mg base CX0 5 f fd ["net", "plan"] (spCheckPlan K C) := by
  obtain ⟨f1, fd1, F1, k1, b1, g1⟩ := C1.ex
  obtain ⟨f2, fd2, F2, k2, b2, g2⟩ := C2.ex
  refine F.ok sc_check_plan (fun vs H Q E h => ?_) (fun cdv A outer s H vs Q E hr h => ?_)
  · obtain ⟨m, a, L, ends, dots, ss, ps, o, n, rfl, _⟩ := h
    rfl
  · obtain ⟨m, a, L, ends, dots, ss, ps, o, n, rfl, N, ok, hS, tL, pk, k⟩ := h
    have nd := sc_check_plan.nd
    have hr1 : Room 1 _ := hr.mono (by decide)
    refine ⟨_, pss_cons (ps_if (pt_not (pt_val (pe_call F1 hr1 rfl g1 k1 b1 .nil pass0 (pa_cons (pv 1) pa_nil)))) (pss_one ps_never) pss_nil)
      (pss_cons (ps_set (i := 2) nd rfl (.inl rfl) (pe_call F2 hr rfl g2 k2 b2 .nil pass0 (pa_cons (pv 0) (pa_cons (pv 1) pa_nil))))
      (pss_one (ps_if (pt_cmpR op_notN (pv 2) pe_non (nomark _)) (pss_one ps_never) pss_nil))), ?_⟩
    refine ⟨.ref a, rfl, a, _, rfl, hS, fun H1 x1 => ⟨true, rfl, iteF ?_⟩⟩
    refine ⟨.ref m, rfl, .ref a, rfl, m, a, L, ends, dots, ss, ps, o, n, rfl, N.to x1, ok, hS.ex x1, tL.to x1, pk, fun H2 x2 => ?_⟩
    exact ⟨.non, rfl, rfl, false, rfl, iteF (k H2 (x1.trans x2))⟩
/-! ### is_sight, check_sights, check_asked -/
def spIsSight (C : Addr) : Sp := fun vs H Q _ => ∃ (m a : Addr) (s : Sig) (ends dots ss ps : List Str) (o n : Str → List (Str × V)), vs = [.ref m, .ref a] ∧ NetAt C H m ends dots ss ps o n ∧ ModelOk ends dots ss ps ∧ SigT H a s ∧ SigOk ends dots s ∧
  ∀ H', Evl.Ex H H' → Q (.bl true) H'
abbrev nIsSight : List Str := ["net", "value", "goal", "node", "place"]
theorem sc_is_sight : FnScope nIsSight ["net", "value"] (defScope p_is_sight) := ⟨rfl, rfl, rfl, by decide +kernel, rfl, by decide +kernel, by decide +kernel⟩
theorem ok_is_sight {f C : Addr} {fd : FuncData} (F : Fun K "is_sight" "is_sight" p_is_sight f fd) (T : NetTxt K C) (P1 : Prp P w K mg base C 1 "goals" (spGoals C)) (P2 : Prp P w K mg base C 1 "nodes" (spDots C)) (C1 : Cal P w K mg base 1 "is_place" ["value", "node", "nodes", "goal"] (spPlace K))
    (mIsi : mg "isinstance" = none) (mTup : mg "tuple" = none) (mLen : mg "len" = none) : FnOk P w K mg base CX0 3 f fd ["net", "value"] (spIsSight C) := by
  obtain ⟨p1, g1, fd1, at1, F1, b1⟩ := P1.ex
  obtain ⟨p2, g2, fd2, at2, F2, b2⟩ := P2.ex
  obtain ⟨f3, fd3, F3, k3, b3, g3⟩ := C1.ex
  refine F.ok sc_is_sight (fun vs H Q E h => ?_) (fun cdv A outer s H vs Q E hr h => ?_)
  · obtain ⟨m, a, sg, ends, dots, ss, ps, o, n, rfl, _⟩ := h
    rfl
  · obtain ⟨m, a, sg, ends, dots, ss, ps, o, n, rfl, N, ok, hs, sk, k⟩ := h
    have nd := sc_is_sight.nd
    have e2 := ok.e2
    have d6 := ok.d6
    refine ⟨_, pss_cons (ps_if (PW.pt (pw_or (pt_not (pt_val (pe_callB call_isi (by rfl) mIsi (by decide +kernel) (pa_cons (pv 1) (pa_cons (pe_bltn (v := .ty "tuple") (by rfl) mTup (by decide +kernel) rfl) pa_nil))))) (pw_or1 (pt_cmpR op_ne (pe_callB call_len (by rfl) mLen PySem.boot_len (pa_cons (pv 1) pa_nil)) pe_int (nomark _))))) (pss_one (ps_ret pe_bl)) pss_nil)
      (pss_cons (ps_asg (pv 1) (pg_tup rfl (pgs_cons (pg_name (i := 2) nd rfl (.inl rfl)) (pgs_cons (pg_name (i := 3) nd rfl (.inl rfl)) (pgs_cons (pg_name (i := 4) nd rfl (.inl rfl)) pgs_nil)))))
      (pss_one (ps_ret (pe_and (pe_cmpR op_in_seq (pv 2) (pe_prop (pv 0) T.cl at1 F1 hr b1 .nil pass0 rfl) rfl) (pe_and (pe_cmpR op_in_seq (pv 3) (pe_prop (pv 0) T.cl at2 F2 hr b2 .nil pass0 rfl) rfl)
        (pe_one (pe_call F3 (hr.mono (by decide)) rfl g3 k3 b3 .nil pass0 (pa_cons (pv 4) (pa_cons (pv 3) (pa_cons (pe_prop (pv 0) T.cl at2 F2 hr b2 .nil pass0 rfl) (pa_cons (pv 2) pa_nil))))))))))), ?_⟩
    obtain ⟨e, z, v⟩ := sg
    have hs' : H a = some (.tup [.str e, .str z, v]) := hs
    refine ⟨.ref a, rfl, .ref a, .ty "tuple", _, _, true, rfl, .ty _, .base (.tup hs'), kit_ty (by decide +kernel), true, rfl, ?_⟩
    refine ⟨.ref a, rfl, .ref a, 3, rfl, .inr ⟨_, Evl.st_of hs', rfl⟩, rfl, _, rfl, iteNS rfl ?_⟩
    refine ⟨.ref a, rfl, a, _, rfl, Evl.st_of hs', rfl, _, _, rfl, _, _, rfl, _, [], rfl, rfl, ?_⟩
    have N2 := N
    obtain ⟨dx, T', N', S, Po, rows, h1, h2, h3, h4, h5, h6, h7⟩ := N2.ex
    refine ⟨.str e, rfl, .ref m, rfl, m, dx, _, rfl, h1, m, ends, dots, ss, ps, o, n, rfl, N, by omega, fun p hp => ⟨p, ends.map V.str, rfl, .inr (Evl.st_of upd_same), rfl, flat_strs ends, ?_⟩⟩
    have y1 : Evl.Ex H (upd H p (.tup (ends.map V.str))) := Evl.Ex.new hp
    rw [inV_str, decide_eq_true sk.e]
    generalize upd H p (.tup (ends.map V.str)) = H1 at y1
    refine ⟨true, rfl, iteT ?_⟩
    have m1 := y1 _ _ h1
    have N1 := N.to y1
    refine ⟨.str z, rfl, .ref m, rfl, m, dx, _, rfl, m1, m, ends, dots, ss, ps, o, n, rfl, N1, fun q hq => ⟨q, dots.map V.str, rfl, .inr (Evl.st_of hq), rfl, flat_strs dots, ?_⟩⟩
    rw [inV_str, decide_eq_true sk.z]
    refine ⟨true, rfl, iteT ?_⟩
    refine ⟨v, rfl, .str z, rfl, .ref m, rfl, m, dx, _, rfl, m1, m, ends, dots, ss, ps, o, n, rfl, N1, fun q2 hq2 => ⟨.str e, rfl, v, z, e, q2, dots, rfl, .inr (Evl.st_of hq2), sk.p, fun H2 x2 => ?_⟩⟩
    exact k H2 (y1.trans x2)
end
end Rw
end T_E3

section T_F0
set_option Elab.async false
set_option linter.all false
set_option maxRecDepth 100000
set_option maxHeartbeats 8000000
namespace Rw
open PySem L2 PyProof.Rows LamX
theorem rowsT_off {d g : Addr} {H : Hp} {L : List (Addr × List Str)} {f : Addr} {xs ys : List V} (h : RowsT (off d g H) L) (hf : off d g H f = some (.lst xs)) : RowsT (off d g (upd H f (.lst ys))) L := fun q hq => by
  have h1 := off_some (h q hq)
  have nf : q.1 ≠ f := fun z => by rw [← z, h q hq] at hf; cases hf
  exact off_of (by rw [upd_ne nf]; exact h1.2.2) h1.1 h1.2.1
section
variable {P : Program} {w : World} {K : PySem.W.Frag} {mg : Str → Option Value} {base : Heap}
/-! ### the law's plan -/
def spPlan : Sp := fun vs H Q _ => ∃ (d g c m tb db sb pb : Addr) (ends dots ss ps : List Str) (rows : List (Str × V)) (o n : Str → List (Str × V)), vs = [.ref d, .ref m] ∧ DrawAt H d g c ∧ ModelAt (off d g H) m tb db sb pb ends dots ss ps rows ∧ RowsAt (off d g H) ends dots rows o n ∧
  ∀ (p : Addr) (L : List (Addr × List Str)) (H' : Hp), DrawAt H' d g c → Evl.Ex (off d g H) (off d g H') → off d g H' p = some (.lst (L.map fun q => V.ref q.1)) → RowsT (off d g H') L → PlanOk (moving ends dots o n) (L.map (·.2)) → Q (.ref p) H'
abbrev nLPlan : List Str := ["draw", "model", "left", "found", "size"]
theorem sc_lplan : FnScope nLPlan ["draw", "model"] (defScope s_plan) := ⟨rfl, rfl, rfl, by decide +kernel, rfl, by decide +kernel, by decide +kernel⟩
theorem ok_lplan {f : Addr} {fd : FuncData} (F : Fun K "_law_plan" "_law_plan" s_plan f fd) (CT : Cal P w K mg base 2 "_law_take" ["draw", "size"] spTake) (CM : Cal P w K mg base 3 "_law_mixed" ["draw", "some"] (spMixed K)) (CV : Cal P w K mg base 1 "_law_moving_dots" ["model"] spMoves)
    (mLen : mg "len" = none) (mTup : mg "tuple" = none) (mSorted : mg "sorted" = none) : FnOk P w K mg base CX0 4 f fd ["draw", "model"] spPlan := by
  obtain ⟨fT, fdT, T, kT, bT, gT⟩ := CT.ex
  obtain ⟨fM, fdM, M, kM, bM, gM⟩ := CM.ex
  obtain ⟨fV, fdV, MV, kV', bV, gV⟩ := CV.ex
  refine F.ok sc_lplan (fun vs H Q E h => ?_) (fun cdv A outer s H vs Q E hr h => ?_)
  · obtain ⟨d, g, c, m, tb, db, sb, pb, ends, dots, ss, ps, rows, o, n, rfl, _⟩ := h
    rfl
  · obtain ⟨d, g, c, m, tb, db, sb, pb, ends, dots, ss, ps, rows, o, n, rfl, D, MA, ro, k⟩ := h
    have nd := sc_lplan.nd
    have hr2 : Room 2 _ := hr.mono (by decide)
    have hr1 : Room 1 _ := hr.mono (by decide)
    refine ⟨_, pss_cons (ps_par (i := 2) (j := 3) (by rfl) nd rfl rfl (by decide) rfl rfl (pa_cons (pe_call M hr rfl gM kM bM .nil pass0 (pa_cons (pv 0) (pa_cons (pe_call MV hr1 rfl gV kV' bV .nil pass0 (pa_cons (pv 1) pa_nil)) pa_nil))) (pa_cons (pe_lst pa_nil) pa_nil)) (by rfl))
      (C8.pss_cut (ps_if (pt_cmpR op_eq (pe_call T hr2 rfl gT kT bT .nil pass0 (pa_cons (pv 0) (pa_cons pe_int pa_nil))) pe_int (nomark _)) (pss_one (ps_set (i := 2) nd rfl (.inl rfl) (pe_slice sl_list (pv 2) (po_some pe_int) po_none))) pss_nil)
      (pss_cons (ps_while PassesOwn.never (pt_cmpR (op_neD hr.units) (pv 2) (pe_lst pa_nil) (nomark _))
        (pss_cons (ps_set (i := 4) nd rfl (.inl rfl) (pe_op op_add pe_int (pe_call T hr2 rfl gT kT bT .nil pass0 (pa_cons (pv 0) (pa_cons (pe_callB call_len (by rfl) mLen PySem.boot_len (pa_cons (pv 2) pa_nil)) pa_nil)))))
        (pss_cons (ps_expr (pe_bm PySem.F.plainAttrs_list PySem.F.slot_list_append PySem.F.type_list_append mt_append (pv 3)
          (pa_cons (pe_callTy call_tuple_of (by rfl) mTup (by decide +kernel) (pa_cons (pe_callB cr_sortedS (by rfl) mSorted (by decide +kernel) (pa_cons (pe_slice sl_list (pv 2) po_none (po_some (pv 4))) pa_nil)) pa_nil)) pa_nil)))
        (pss_one (ps_set (i := 2) nd rfl (.inl rfl) (pe_slice sl_list (pv 2) (po_some (pv 4)) po_none))))))
      (pss_one (ps_ret (pv 3))))), ?_⟩
    have ok := MA.ok
    have d6 := ok.d6
    have mvl : (moving ends dots o n).length ≤ 6 := Nat.le_trans (List.length_filter_le _ _) d6
    have mvd : ∀ z ∈ moving ends dots o n, z ∈ dots := fun z hz => (List.mem_filter.mp hz).1
    have mvn : (moving ends dots o n).Nodup := ok.dn.sublist List.filter_sublist
    obtain ⟨mv, hmv⟩ : ∃ mv, mv = moving ends dots o n := ⟨_, rfl⟩
    -- left, found
    refine ⟨.ref d, rfl, .ref m, rfl, m, tb, db, sb, pb, ends, dots, ss, ps, rows, o, n, rfl, MA.ex (ex_off d g H), ro.ex (ex_off d g H), fun p H1 x1 hp hp1 => ?_⟩
    rw [← hmv] at hp1 mvl mvd mvn k
    have D1 := D.ext x1
    have np := D.ned hp
    refine ⟨d, g, c, p, _, rfl, D1, .inl (Evl.sq_of (off_of hp1 np.1 np.2.1)), by rw [List.length_map]; omega, fun v hv => ?_, fun l vs H2 perm D2 x2 hl hl2 => ?_⟩
    · obtain ⟨z, hz, rfl⟩ := List.mem_map.mp hv
      exact nm_data (ok.dm z (mvd z hz))
    obtain ⟨ws, rfl, wp⟩ := perm_strs perm
    have x02 := (off_ex (d := d) (g := g) x1).trans x2
    refine ⟨by show 0 ≤ sizeLine; decide, fun fo hfo => ⟨_, _, rfl, ?_⟩⟩
    have nf := D2.ned hfo
    have x3 : Evl.Ex H2 (upd H2 fo (.lst [])) := Evl.Ex.new hfo
    have f3 : off d g (upd H2 fo (.lst [])) fo = some (.lst (([] : List (Addr × List Str)).map fun q => V.ref q.1)) := off_of upd_same nf.1 nf.2.1
    have D3 := D2.ext x3
    have nlf : l ≠ fo := ne_of_none (off_some hl2).2.2 hfo
    generalize upd H2 fo (.lst []) = H3 at x3 f3 D3
    have l3 := off_ex (d := d) (g := g) x3 _ _ hl2
    have x03 := x02.trans (off_ex (d := d) (g := g) x3)
    have hfo2 : off d g H2 fo = none := off_free hfo
    have hfo0 : off d g H fo = none := ex_none x02 hfo2
    have wsub : ∀ z ∈ ws, z ∈ mv := fun z hz => wp.subset hz
    have wn : ws.Nodup := wp.nodup_iff.mpr mvn
    have wl : ws.length ≤ 6 := by rw [wp.length_eq]; exact mvl
    -- if ..: left = left[1:]
    refine ⟨fun σ' H' => ∃ (l : Addr) (ws : List Str), σ' = [some (.ref d), some (.ref m), some (.ref l), some (.ref fo), none] ∧ DrawAt H' d g c ∧ Evl.Ex (off d g H) (off d g H') ∧ off d g H' l = some (.lst (ws.map V.str)) ∧ off d g H' fo = some (.lst (([] : List (Addr × List Str)).map fun q => V.ref q.1)) ∧ l ≠ fo ∧ ws.Nodup ∧ (∀ z ∈ ws, z ∈ mv) ∧ ws.length ≤ 6, ?_, ?_⟩
    · refine ⟨.ref d, rfl, d, g, c, 4, rfl, by decide, by decide, D3, fun t H4 t0 t1 D4 x4 => ⟨rfl, _, rfl, ?_⟩⟩
      by_cases q : t = 0
      · rw [decide_eq_true (by rw [q])]
        refine iteT ⟨.ref l, rfl, 1, rfl, l, ws.map V.str, rfl, Evl.sq_of (off_some (x4 _ _ l3)).2.2, fun r hr0 => ?_⟩
        have ec : cutV (ws.map V.str) (some 1) none = (ws.drop 1).map V.str := by
          rw [show (some (1 : Int)) = some ((1 : Nat) : Int) from rfl, cut_drop, List.map_drop]
        rw [ec]
        have y5 : Evl.Ex H4 (upd H4 r (.lst ((ws.drop 1).map V.str))) := Evl.Ex.new hr0
        have nr := D4.ned hr0
        refine ⟨r, ws.drop 1, rfl, D4.ext y5, (x03.trans x4).trans (off_ex y5), off_of upd_same nr.1 nr.2.1, off_ex y5 _ _ (x4 _ _ f3), (ne_of_none (off_some (x4 _ _ f3)).2.2 hr0).symm, wn.sublist (List.drop_sublist _ _), fun z hz => wsub z (List.mem_of_mem_drop hz), by rw [List.length_drop]; omega⟩
      · rw [decide_eq_false (fun z => q (by injection z))]
        exact iteF ⟨l, ws, rfl, D4, x03.trans x4, x4 _ _ l3, x4 _ _ f3, nlf, wn, wsub, wl⟩
    · rintro σ' H4 ⟨l4, ws4, rfl, D4, x4, hl4, f4, nlf4, wn4, wsub4, wl4⟩
      refine while_by (fun σ H' => ∃ (l : Addr) (ls : List Str) (L : List (Addr × List Str)) (x4 : Option V), σ = [some (.ref d), some (.ref m), some (.ref l), some (.ref fo), x4] ∧ DrawAt H' d g c ∧ Evl.Ex (off d g H) (off d g H') ∧ off d g H' l = some (.lst (ls.map V.str)) ∧ off d g H' fo = some (.lst (L.map fun q => V.ref q.1)) ∧ l ≠ fo ∧ RowsT (off d g H') L ∧ ((L.map (·.2)).flatten ++ ls).Perm ws4 ∧ (∀ q ∈ L.map (·.2), q ≠ []) ∧ (∀ q ∈ L.map (·.2), sortedS q = true))
        (fun σ H' => match σ with | _ :: _ :: some (.ref l) :: _ => (match H' l with | some (.lst ls) => ls.length | _ => 0) | _ => 0)
        ⟨l4, ws4, [], none, rfl, D4, x4, hl4, f4, nlf4, (fun q hq => nomatch hq), List.Perm.refl _, (fun q hq => nomatch hq), (fun q hq => nomatch hq)⟩ ?_ ?_
      · rintro σ H5 ⟨l, ls, L, v4, rfl, D5, x5, hl5, f5, nlf5, tL, pm, ne, so⟩
        have lz : ls.length ≤ 6 := by
          have := pm.length_eq
          rw [List.length_append] at this
          omega
        have lL : L.length ≤ 6 := by
          have h1 := pm.length_eq
          rw [List.length_append] at h1
          have h2 := flat_le ne
          rw [List.length_map] at h2
          omega
        have lsub : ∀ z ∈ ls, z ∈ mv := fun z hz => wsub4 z (pm.subset (List.mem_append_right _ hz))
        refine ⟨.ref l, rfl, Nat.zero_le _, fun p hp0 => ?_⟩
        have y6 : Evl.Ex H5 (upd H5 p (.lst [])) := Evl.Ex.new hp0
        have l6 := off_ex (d := d) (g := g) y6 _ _ hl5
        have f6 := off_ex (d := d) (g := g) y6 _ _ f5
        have D6 := D5.ext y6
        obtain ⟨dd, g1, g2, g3⟩ := data_list (K := K) (H := upd H5 p (.lst [])) (Evl.sq_of (off_some l6).2.2) fun v hv => by
          obtain ⟨z, hz, rfl⟩ := List.mem_map.mp hv
          exact nm_data (ok.dm z (mvd z (lsub z hz)))
        refine ⟨dd, .list [], g1, .lst (Evl.sq_of upd_same) .nil, g2, by rfl, _, rfl, ?_⟩
        rw [g3]
        have x6 := x5.trans (off_ex (d := d) (g := g) y6)
        have tL6 := tL.to (off_ex (d := d) (g := g) y6)
        generalize upd H5 p (.lst []) = H6 at l6 f6 D6 x6 tL6 y6
        cases hls : (ls.map V.str).isEmpty with
        | true =>
          have e0 : ls = [] := by cases ls with
            | nil => rfl
            | cons y r => cases hls
          refine ⟨.ref fo, rfl, k fo L H6 D6 x6 f6 tL6 ?_⟩
          rw [e0, List.append_nil] at pm
          exact ⟨ne, so, pm.nodup_iff.mpr wn4, fun z hz => wsub4 z (pm.subset hz), fun z hz => ok.dm z (mvd z (wsub4 z (pm.subset hz))), by rw [pm.length_eq]; exact wl4⟩
        | false =>
          have l0 : 0 < ls.length := by cases ls with
            | nil => cases hls
            | cons y r => exact Nat.succ_pos _
          refine iteT ?_
          refine ⟨.ref d, rfl, .ref l, rfl, .ref l, (ls.map V.str).length, rfl, .inl ⟨_, Evl.sq_of (off_some l6).2.2, rfl⟩, ?_⟩
          rw [List.length_map]
          refine ⟨d, g, c, (ls.length : Int), rfl, by omega, by omega, D6, fun s_ H7 s0 s1 D7 x7 => ?_⟩
          obtain ⟨s', rfl⟩ := Int.eq_ofNat_of_zero_le s0
          refine ⟨1, (s' : Int), rfl, rfl, ?_⟩
          have l7 := x7 _ _ l6
          have f7 := x7 _ _ f6
          -- found.append(tuple(sorted(left[:size])))
          refine ⟨.ref fo, rfl, .inl ⟨rfl, _, Evl.sq_of (off_some f7).2.2⟩, .ref l, rfl, .int ((1 + s' : Nat) : Int), rfl, _, rfl, l, _, rfl, Evl.sq_of (off_some l7).2.2, fun q1 hq1 => ?_⟩
          rw [cut_take, ← List.map_take]
          refine ⟨q1, ls.take (1 + s'), rfl, Evl.sq_of upd_same, by rw [List.length_take]; omega, fun us q2 up us_s hq2 => ⟨q2, us.map V.str, rfl, .inl ⟨Evl.sq_of upd_same, fun q3 hq3 => ?_⟩⟩⟩
          have y1 : Evl.Ex H7 (upd (upd (upd H7 q1 (.lst ((ls.take (1 + s')).map V.str))) q2 (.lst (us.map V.str))) q3 (.tup (us.map V.str))) := (Evl.Ex.new hq1).trans ((Evl.Ex.new hq2).trans (Evl.Ex.new hq3))
          have e3 : (upd (upd (upd H7 q1 (.lst ((ls.take (1 + s')).map V.str))) q2 (.lst (us.map V.str))) q3 (.tup (us.map V.str))) q3 = some (.tup (us.map V.str)) := upd_same
          have D8 := D7.ext y1
          have n3 := ((D7.new (o := .lst ((ls.take (1 + s')).map V.str)) hq1).new (o := .lst (us.map V.str)) hq2).ned hq3
          generalize upd (upd (upd H7 q1 (.lst ((ls.take (1 + s')).map V.str))) q2 (.lst (us.map V.str))) q3 (.tup (us.map V.str)) = H8 at y1 e3 D8
          have l8 := off_ex (d := d) (g := g) y1 _ _ l7
          have f8 := off_ex (d := d) (g := g) y1 _ _ f7
          have tL8 := (tL6.to x7).to (off_ex (d := d) (g := g) y1)
          have x08 := (x6.trans x7).trans (off_ex (d := d) (g := g) y1)
          have e8 : off d g H8 q3 = some (.tup (us.map V.str)) := off_of e3 n3.1 n3.2.1
          refine ⟨fo, _, .ref q3, rfl, rfl, (off_some f8).2.2, by rw [List.length_map]; exact small1000 (by omega), ?_⟩
          have D9 : DrawAt (upd H8 fo (.lst (L.map (fun q => V.ref q.1) ++ [.ref q3]))) d g c := D8.mut nf.1 nf.2.1 nf.2.2
          have x9 : Evl.Ex (off d g H) (off d g (upd H8 fo (.lst (L.map (fun q => V.ref q.1) ++ [.ref q3])))) := off_mut x08 hfo0
          have l9 : off d g (upd H8 fo (.lst (L.map (fun q => V.ref q.1) ++ [.ref q3]))) l = some (.lst (ls.map V.str)) := off_of (by rw [upd_ne nlf5]; exact (off_some l8).2.2) (off_some l8).1 (off_some l8).2.1
          have f9 : off d g (upd H8 fo (.lst (L.map (fun q => V.ref q.1) ++ [.ref q3]))) fo = some (.lst ((L ++ [(q3, us)]).map fun q => V.ref q.1)) := off_of (by rw [upd_same, List.map_append]; rfl) nf.1 nf.2.1
          have tL9 : RowsT (off d g (upd H8 fo (.lst (L.map (fun q => V.ref q.1) ++ [.ref q3])))) (L ++ [(q3, us)]) := rowsT_off (fun q hq => by
            rcases List.mem_append.mp hq with hq | hq
            · exact tL8 q hq
            · rw [List.mem_singleton.mp hq]; exact e8) f8
          generalize upd H8 fo (.lst (L.map (fun q => V.ref q.1) ++ [.ref q3])) = H9 at D9 x9 l9 f9 tL9
          -- left = left[size:]
          refine ⟨.ref l, rfl, .int ((1 + s' : Nat) : Int), rfl, _, rfl, l, _, rfl, Evl.sq_of (off_some l9).2.2, fun r hr0 => ?_⟩
          rw [cut_drop, ← List.map_drop]
          have yA : Evl.Ex H9 (upd H9 r (.lst ((ls.drop (1 + s')).map V.str))) := Evl.Ex.new hr0
          have nr := D9.ned hr0
          have rA : (upd H9 r (.lst ((ls.drop (1 + s')).map V.str))) r = some (.lst ((ls.drop (1 + s')).map V.str)) := upd_same
          have eF : ((L ++ [(q3, us)]).map (·.2)).flatten = (L.map (·.2)).flatten ++ us := by rw [List.map_append, List.flatten_append]; show _ ++ (us ++ []) = _; rw [List.append_nil]
          refine ⟨⟨r, ls.drop (1 + s'), L ++ [(q3, us)], _, rfl, D9.ext yA, x9.trans (off_ex yA), off_of rA nr.1 nr.2.1, off_ex yA _ _ f9, (ne_of_none (off_some f9).2.2 hr0).symm, tL9.to (off_ex yA), ?_, fun q hq => ?_, fun q hq => ?_⟩, ?_⟩
          · rw [eF, List.append_assoc]
            refine List.Perm.trans (List.Perm.append_left _ ?_) pm
            refine (List.Perm.append_right _ up).trans ?_
            rw [List.take_append_drop]
          · rw [List.map_append] at hq
            rcases List.mem_append.mp hq with hq | hq
            · exact ne q hq
            · rw [List.mem_singleton.mp hq]
              show us ≠ []
              intro z
              have := up.length_eq
              rw [z, List.length_take] at this
              have h0 : ([] : List Str).length = 0 := rfl
              omega
          · rw [List.map_append] at hq
            rcases List.mem_append.mp hq with hq | hq
            · exact so q hq
            · rw [List.mem_singleton.mp hq]
              exact us_s
          · show (match (upd H9 r (.lst ((ls.drop (1 + s')).map V.str))) r with | some (.lst ls) => ls.length | _ => 0) < (match H5 l with | some (.lst ls) => ls.length | _ => 0)
            rw [rA, (off_some hl5).2.2]
            show ((ls.drop (1 + s')).map V.str).length < (ls.map V.str).length
            rw [List.length_map, List.length_map, List.length_drop]
            omega
      · intro σ H1 Q1 Q2 hq h
        obtain ⟨v, hv, hz, hk⟩ := h
        refine ⟨v, hv, hz, fun p hp => ?_⟩
        obtain ⟨d1, e1, a1, a2, a3, a4, k1, ek, q⟩ := hk p hp
        exact ⟨d1, e1, a1, a2, a3, a4, k1, ek, hq _ _ q⟩
end
end Rw
end T_F0

section T_E4
set_option Elab.async false
set_option linter.all false
set_option maxRecDepth 100000
set_option maxHeartbeats 8000000
namespace Rw
open PySem L2 PyProof.Rows LamX
section
variable {P : Program} {w : World} {K : PySem.W.Frag} {mg : Str → Option Value} {base : Heap}
theorem scal_spot {u v : V} (h1 : Spot u) (h2 : Spot v) : scal u v = true := by
  rcases h1 with rfl | ⟨y, rfl, _⟩ <;> rcases h2 with rfl | ⟨y2, rfl, _⟩ <;> rfl
/-! ### is_part, can_follow -/
def subB (xs ys : List Str) : Bool := xs.all fun x => decide (x ∈ ys)
def spIsPart : Sp := fun vs H Q _ => ∃ (a b : Addr) (xs ys : List Str), vs = [.ref a, .ref b] ∧ SqT K H a (xs.map V.str) ∧ SqT K H b (ys.map V.str) ∧ xs.length ≤ 100 ∧ ∀ H', Evl.Ex H H' → Q (.bl (subB xs ys)) H'
abbrev nIsPart : List Str := ["part", "lot", "node"]
theorem sc_is_part : FnScope nIsPart ["part", "lot"] (defScope p_is_part) := ⟨rfl, rfl, rfl, by decide +kernel, rfl, by decide +kernel, by decide +kernel⟩
theorem ok_is_part {f : Addr} {fd : FuncData} (F : Fun K "is_part" "is_part" p_is_part f fd) (mAll : mg "all" = none) : FnOk P w K mg base CX0 1 f fd ["part", "lot"] (spIsPart (K := K)) := by
  refine F.ok sc_is_part (fun vs H Q E h => ?_) (fun cdv A outer s H vs Q E hr h => ?_)
  · obtain ⟨a, b, xs, ys, rfl, _⟩ := h
    rfl
  · obtain ⟨a, b, xs, ys, rfl, ha, hb, few, k⟩ := h
    have nd := sc_is_part.nd
    refine ⟨_, pss_one (ps_ret (pe_callB (cr_all rfl) (by rfl) mAll (by decide +kernel) (pa_cons
        (pe_lc (own := [("node", 2)]) (g := gName 2) (tt := tYes) (te := tOp (rIn K false) (tVar 2) (tVar 1)) rfl nd (pi_tup (pv 0)) (blkOk_by (own := [("node", 2)]) (N := nIsPart) (sc := defScope p_is_part) (by decide +kernel))
            (fun _ _ _ _ _ => pg_name (i := 2) nd rfl (Or.inl rfl)) (fun _ _ _ _ _ => pts_nil) (fun _ _ _ _ _ => pe_cmpR op_in_seq (pv 2) (pv 1) rfl)) pa_nil))), ?_⟩
    refine ⟨.ref a, rfl, a, rfl, ⟨_, ha⟩, fun D hD => lc_tup (K := K) (a := a) (xs := xs.map V.str)
      (fun i H' => i ≤ xs.length ∧ Evl.Ex H H' ∧ H' D = some (.lst (((xs.take i).map fun x => decide (x ∈ ys)).map V.bl))) ⟨Nat.zero_le _, Evl.Ex.new hD, upd_same⟩ (fun i H' _ h => Evl.ex_t h.2.1 ha) ?_ ?_⟩
    · rintro i v H1 hi ⟨_, x1, d1⟩
      obtain ⟨z, hz, rfl⟩ := str_at hi
      have hil := (List.getElem?_eq_some_iff.mp hz).1
      refine ⟨rfl, yes_if ?_⟩
      refine ⟨.str z, rfl, .ref b, rfl, b, ys.map V.str, rfl, .inr (Evl.ex_t x1 hb), rfl, flat_strs ys, ?_⟩
      rw [inV_str]
      refine ⟨_, d1, by rw [List.length_map, List.length_map, List.length_take]; exact small1000 (by omega), hil, x1.mut hD, ?_⟩
      rw [upd_same, List.take_add_one, hz, List.map_append, List.map_append]
      rfl
    · rintro H1 ⟨_, x1, d1⟩
      rw [List.length_map, List.take_length] at d1
      refine ⟨D, _, rfl, Evl.sq_of d1, ?_⟩
      rw [List.all_map]
      exact k H1 x1
def StaT (H : Hp) (q : StaR) : Prop := H q.a = some (.tup [.int (q.k : Int), .ref q.b]) ∧ H q.b = some (.tup (q.B.map V.str))
theorem StaT.to {H H' : Hp} {q : StaR} (h : StaT H q) (x : Evl.Ex H H') : StaT H' q := ⟨x _ _ h.1, x _ _ h.2⟩
def spFol : Sp := fun vs H Q _ => ∃ (q r : StaR), vs = [.ref q.a, .ref r.a] ∧ StaT H q ∧ StaT H r ∧ q.B.length ≤ 100 ∧ ∀ H', Evl.Ex H H' → Q (.bl (folB q.st r.st)) H'
abbrev nFol : List Str := ["state", "later", "stage", "changed", "later_stage", "later_changed"]
theorem sc_fol : FnScope nFol ["state", "later"] (defScope p_can_follow) := ⟨rfl, rfl, rfl, by decide +kernel, rfl, by decide +kernel, by decide +kernel⟩
theorem ok_fol {f : Addr} {fd : FuncData} (F : Fun K "can_follow" "can_follow" p_can_follow f fd) (C1 : Cal P w K mg base 1 "is_part" ["part", "lot"] (spIsPart (K := K))) : FnOk P w K mg base CX0 2 f fd ["state", "later"] spFol := by
  obtain ⟨f1, fd1, F1, k1, b1, g1⟩ := C1.ex
  refine F.ok sc_fol (fun vs H Q E h => ?_) (fun cdv A outer s H vs Q E hr h => ?_)
  · obtain ⟨q, r, rfl, _⟩ := h
    rfl
  · obtain ⟨q, r, rfl, hq, hr', few, k⟩ := h
    have nd := sc_fol.nd
    refine ⟨_, pss_cons (ps_asg (pv 0) (pg_tup rfl (pgs_cons (pg_name (i := 2) nd rfl (.inl rfl)) (pgs_cons (pg_name (i := 3) nd rfl (.inl rfl)) pgs_nil))))
      (pss_cons (ps_asg (pv 1) (pg_tup rfl (pgs_cons (pg_name (i := 4) nd rfl (.inl rfl)) (pgs_cons (pg_name (i := 5) nd rfl (.inl rfl)) pgs_nil))))
      (pss_one (ps_ret (pe_or (pe_cmpR op_lt (pv 2) (pv 4) (nomark _)) (pe_one (pe_and (pe_cmpR op_eq (pv 2) (pv 4) (nomark _)) (pe_one (pe_call F1 hr rfl g1 k1 b1 .nil pass0 (pa_cons (pv 3) (pa_cons (pv 5) pa_nil)))))))))), ?_⟩
    refine ⟨.ref q.a, rfl, q.a, _, rfl, Evl.st_of hq.1, rfl, _, _, rfl, _, [], rfl, rfl, ?_⟩
    refine ⟨.ref r.a, rfl, r.a, _, rfl, Evl.st_of hr'.1, rfl, _, _, rfl, _, [], rfl, rfl, ?_⟩
    refine ⟨.int (q.k : Int), rfl, .int (r.k : Int), rfl, _, _, rfl, rfl, decide ((q.k : Int) < (r.k : Int)), rfl, ?_⟩
    have ef : folB q.st r.st = (decide (q.k < r.k) || (decide (q.k = r.k) && subB q.B r.B)) := rfl
    by_cases c : q.k < r.k
    · have c' : ((q.k : Int) < (r.k : Int)) := by omega
      rw [decide_eq_true c']
      rw [ef, decide_eq_true c] at k
      exact iteT (k H fun _ _ h => h)
    · have c' : ¬((q.k : Int) < (r.k : Int)) := by omega
      rw [decide_eq_false c']
      rw [ef, decide_eq_false c] at k
      refine iteF ?_
      refine ⟨.int (q.k : Int), rfl, .int (r.k : Int), rfl, rfl, decide (V.int (q.k : Int) = V.int (r.k : Int)), rfl, ?_⟩
      by_cases d : q.k = r.k
      · rw [decide_eq_true (by rw [d])]
        rw [decide_eq_true d] at k
        exact iteT ⟨.ref q.b, rfl, .ref r.b, rfl, q.b, r.b, q.B, r.B, rfl, Evl.st_of hq.2, Evl.st_of hr'.2, few, fun H1 x1 => k H1 x1⟩
      · rw [decide_eq_false (fun z => d (by injection z with z; omega))]
        rw [decide_eq_false d] at k
        exact iteF (k H fun _ _ h => h)
/-! ### now_new, is_seen_in -/
def spNowNew (K : PySem.W.Frag) : Sp := fun vs H Q _ => ∃ (rl : Addr) (M : List Stg) (Pl : List (List Str)) (q : StaR), vs = [.ref rl, .ref q.a] ∧ SqL K H rl (M.map fun q => V.ref q.a) ∧ StgsT H M ∧ StgsOf Pl M ∧ Pl.flatten.length ≤ 6 ∧ StaT H q ∧ q.k ≤ Pl.length ∧ q.B.length ≤ 6 ∧
  ∀ (p : Addr) (H' : Hp) (js : List Str), Evl.Ex H H' → H' p = some (.tup (js.map V.str)) → (∀ z, z ∈ js ↔ newB Pl q.st z = true) → Q (.ref p) H'
abbrev nNowNew : List Str := ["rounds", "state", "stage", "changed", "done", "_"]
theorem sc_now_new : FnScope nNowNew ["rounds", "state"] (defScope p_now_new) := ⟨rfl, rfl, rfl, by decide +kernel, rfl, by decide +kernel, by decide +kernel⟩
theorem ok_now_new {f : Addr} {fd : FuncData} (F : Fun K "now_new" "now_new" p_now_new f fd) (CJ : Cal P w K mg base 1 "joined" ["lot", "other"] (spJoined (K := K))) : FnOk P w K mg base CX0 2 f fd ["rounds", "state"] (spNowNew K) := by
  obtain ⟨fJ, fdJ, JN, kJ, bJ, gJ⟩ := CJ.ex
  refine F.ok sc_now_new (fun vs H Q E h => ?_) (fun cdv A outer s H vs Q E hr h => ?_)
  · obtain ⟨rl, M, Pl, q, rfl, _⟩ := h
    rfl
  · obtain ⟨rl, M, Pl, q, rfl, hS, tM, aM, l6, hq, qk, q6, k⟩ := h
    have nd := sc_now_new.nd
    refine ⟨_, pss_cons (ps_asg (pv 1) (pg_tup rfl (pgs_cons (pg_name (i := 2) nd rfl (.inl rfl)) (pgs_cons (pg_name (i := 3) nd rfl (.inl rfl)) pgs_nil))))
      (pss_cons (ps_asg (pe_ix ix_list (pv 0) (pv 2) (fun _ _ => rfl)) (pg_tup rfl (pgs_cons (pg_name (i := 4) nd rfl (.inl rfl)) (pgs_cons (pg_name (i := 5) nd rfl (.inl rfl)) pgs_nil))))
      (pss_one (ps_ret (pe_call JN hr rfl gJ kJ bJ .nil pass0 (pa_cons (pv 4) (pa_cons (pv 3) pa_nil)))))), ?_⟩
    refine ⟨.ref q.a, rfl, q.a, _, rfl, Evl.st_of hq.1, rfl, _, _, rfl, _, [], rfl, rfl, ?_⟩
    have kM : q.k < M.length := by rw [aM.1]; omega
    obtain ⟨g, hg⟩ : ∃ g, M[q.k]? = some g := ⟨_, List.getElem?_eq_getElem kM⟩
    obtain ⟨g1, g2, g3⟩ := tM g (List.mem_of_getElem? hg)
    obtain ⟨a1, a2, a3⟩ := aM.2 _ _ hg
    have gz : g.zs.length ≤ 6 := by rw [a2.length_eq]; exact Nat.le_trans (done_sub q.k).length_le l6
    refine ⟨.ref rl, rfl, .int (q.k : Int), rfl, rl, _, (q.k : Int), .ref g.a, rfl, rfl, hS, atI_nat (by rw [List.getElem?_map, hg]; rfl), g.a, _, rfl, Evl.st_of g1, rfl, _, _, rfl, _, [], rfl, rfl, ?_⟩
    refine ⟨.ref g.d, rfl, .ref q.b, rfl, g.d, q.b, g.zs, q.B, rfl, Evl.st_of g2, Evl.st_of hq.2, by omega, fun p H1 js x1 _ hp pj sj => k p H1 js x1 hp fun z => ?_⟩
    unfold newB
    rw [pj.mem_iff, List.mem_append, a2.mem_iff, decide_eq_true_eq]
    rfl
def spSeenIn (K : PySem.W.Frag) (C : Addr) : Sp := fun vs H Q _ => ∃ (m rl sa : Addr) (M : List Stg) (Pl : List (List Str)) (sg : Sig) (q : StaR) (ends dots ss ps : List Str) (o n : Str → List (Str × V)), vs = [.ref m, .ref rl, .ref sa, .ref q.a] ∧ NetAt C H m ends dots ss ps o n ∧ ModelOk ends dots ss ps ∧ SqL K H rl (M.map fun q => V.ref q.a) ∧ StgsT H M ∧ StgsOf Pl M ∧ Pl.flatten.length ≤ 6 ∧ SigT H sa sg ∧ SigOk ends dots sg ∧ StaT H q ∧ q.k ≤ Pl.length ∧ q.B.length ≤ 6 ∧
  ∀ H', Evl.Ex H H' → Q (.bl (seenB Pl o n sg q.st)) H'
abbrev nSeenIn : List Str := ["net", "rounds", "sight", "state", "goal", "node", "place"]
theorem sc_seen_in : FnScope nSeenIn ["net", "rounds", "sight", "state"] (defScope p_is_seen_in) := ⟨rfl, rfl, rfl, by decide +kernel, rfl, by decide +kernel, by decide +kernel⟩
theorem ok_seen_in {f C fw : Addr} {fd fdw : FuncData} (F : Fun K "is_seen_in" "is_seen_in" p_is_seen_in f fd) (T : NetTxt K C) (M : Meth K C "way" fw) (W : FnOk P w K mg base CX0 4 fw fdw ["self", "goal", "node", "is_new"] (spWay C)) (bw : Binds K fdw ["self", "goal", "node", "is_new"] [])
    (C1 : Cal P w K mg base 2 "now_new" ["rounds", "state"] (spNowNew K)) : FnOk P w K mg base CX0 5 f fd ["net", "rounds", "sight", "state"] (spSeenIn K C) := by
  obtain ⟨f1, fd1, F1, k1, b1, g1⟩ := C1.ex
  refine F.ok sc_seen_in (fun vs H Q E h => ?_) (fun cdv A outer s H vs Q E hr h => ?_)
  · obtain ⟨m, rl, sa, Mq, Pl, sg, q, ends, dots, ss, ps, o, n, rfl, _⟩ := h
    rfl
  · obtain ⟨m, rl, sa, Mq, Pl, sg, q, ends, dots, ss, ps, o, n, rfl, N, ok, hS, tM, aM, l6, hs, sk, hq, qk, q6, k⟩ := h
    have nd := sc_seen_in.nd
    refine ⟨_, pss_cons (ps_asg (pv 2) (pg_tup rfl (pgs_cons (pg_name (i := 4) nd rfl (.inl rfl)) (pgs_cons (pg_name (i := 5) nd rfl (.inl rfl)) (pgs_cons (pg_name (i := 6) nd rfl (.inl rfl)) pgs_nil)))))
      (pss_one (ps_ret (pe_cmpR op_eq (pv 6) (pe_meth (pv 0) T.cl M W hr bw .nil pass0 (pa_cons (pv 4) (pa_cons (pv 5) (pa_cons (pe_cmpR op_in_seq (pv 5) (pe_call F1 (hr.mono (by decide)) rfl g1 k1 b1 .nil pass0 (pa_cons (pv 1) (pa_cons (pv 3) pa_nil))) rfl) pa_nil)))) (nomark _)))), ?_⟩
    have e2 := ok.e2
    obtain ⟨e, z, v⟩ := sg
    have hs' : H sa = some (.tup [.str e, .str z, v]) := hs
    refine ⟨.ref sa, rfl, sa, _, rfl, Evl.st_of hs', rfl, _, _, rfl, _, _, rfl, _, [], rfl, rfl, ?_⟩
    obtain ⟨dx, T2, N', S, Po, rows0, h1, h2, h3, h4, h5, h6, h7⟩ := N.ex
    refine ⟨v, rfl, .ref m, rfl, m, dx, _, rfl, h1, by kernel_rfl, .str e, rfl, .str z, rfl, .str z, rfl, .ref rl, rfl, .ref q.a, rfl, rl, Mq, Pl, q, rfl, hS, tM, aM, l6, hq, qk, q6, fun p H1 js x1 hp hj => ?_⟩
    refine ⟨p, js.map V.str, rfl, .inr (Evl.st_of hp), rfl, flat_strs js, ?_⟩
    rw [inV_str]
    have ej : decide (z ∈ js) = newB Pl q.st z := by
      cases c : newB Pl q.st z with
      | true => exact decide_eq_true ((hj z).mpr c)
      | false => exact decide_eq_false fun h => by rw [(hj z).mp h] at c; cases c
    rw [ej]
    refine ⟨m, e, z, newB Pl q.st z, ends, dots, ss, ps, o, n, rfl, N.to x1, by omega, sk.e, sk.z, fun H2 x2 => ?_⟩
    have kk := k H2 (x1.trans x2)
    have sc : scal v (look (if newB Pl q.st z = true then n e else o e) z) = true := by
      obtain ⟨p', po, pn, hv, pa⟩ := h7 e sk.e
      refine scal_spot (place_spot sk.p ok.dm (ok.em e sk.e)) ?_
      by_cases c : newB Pl q.st z = true
      · rw [if_pos c]; have q' := (look_ok pa.o2 sk.z).1; exact place_spot (by rw [show look (canon dots (n e)) z = look (n e) z from look_canon sk.z] at q'; exact q') ok.dm (ok.em e sk.e)
      · rw [if_neg c]; have q' := (look_ok pa.o1 sk.z).1; exact place_spot (by rw [show look (canon dots (o e)) z = look (o e) z from look_canon sk.z] at q'; exact q') ok.dm (ok.em e sk.e)
    exact ⟨sc, kk⟩
end
end Rw
end T_E4

section T_F1
set_option Elab.async false
set_option linter.all false
set_option maxRecDepth 100000
set_option maxHeartbeats 8000000
namespace Rw
open PySem L2 PyProof.Rows LamX
section
variable {P : Program} {w : World} {K : PySem.W.Frag} {mg : Str → Option Value} {base : Heap}
/-! ### the law's nodes done, its ways -/
def spDoneIn (K : PySem.W.Frag) : Sp := fun vs H Q _ => ∃ (t : Addr) (k : Nat) (L : List (Addr × List Str)), vs = [.ref t, .int (k : Int)] ∧ SqL K H t (L.map fun q => V.ref q.1) ∧ RowsT H L ∧ (L.map (·.2)).flatten.length ≤ 6 ∧
  ∀ p H', Evl.Ex H H' → H' p = some (.lst ((doneOf (L.map (·.2)) k).map V.str)) → Q (.ref p) H'
abbrev nDoneIn : List Str := ["trail", "stage", "found", "lot_here"]
theorem sc_done_in : FnScope nDoneIn ["trail", "stage"] (defScope s_done_in) := ⟨rfl, rfl, rfl, by decide +kernel, rfl, by decide +kernel, by decide +kernel⟩
theorem ok_done_in {f : Addr} {fd : FuncData} (F : Fun K "_law_done_in" "_law_done_in" s_done_in f fd) (mList : mg "list" = none) : FnOk P w K mg base CX0 1 f fd ["trail", "stage"] (spDoneIn K) := by
  refine F.ok sc_done_in (fun vs H Q E h => ?_) (fun cdv A outer s H vs Q E hr h => ?_)
  · obtain ⟨t, k, L, rfl, _⟩ := h
    rfl
  · obtain ⟨t, kk, L, rfl, ht, tL, l6, k⟩ := h
    have nd := sc_done_in.nd
    refine ⟨_, pss_cons (ps_set (i := 2) nd rfl (.inl rfl) (pe_lst pa_nil))
      (pss_cons (ps_for PassesOwn.never rfl (pi_list (pe_slice sl_list (pv 0) po_none (po_some (pv 1)))) (pg_name (i := 3) nd rfl (.inl rfl))
        (pss_one (ps_set (i := 2) nd rfl (.inl rfl) (pe_op op_cat (pv 2) (pe_callTy call_list_of (by rfl) mList (by decide +kernel) (pa_cons (pv 3) pa_nil))))))
      (pss_one (ps_ret (pv 2)))), ?_⟩
    refine ⟨by show 0 ≤ sizeLine; decide, fun fo hfo => ?_⟩
    have y1 : Evl.Ex H (upd H fo (.lst [])) := Evl.Ex.new hfo
    have f1 : (upd H fo (.lst [])) fo = some (.lst (([] : List Str).map V.str)) := upd_same
    generalize upd H fo (.lst []) = H1 at y1 f1
    refine ⟨.ref t, rfl, .int (kk : Int), rfl, _, rfl, t, _, rfl, Evl.ex_l y1 ht, fun q hq => ?_⟩
    rw [cut_take, ← List.map_take]
    have y2 : Evl.Ex H1 (upd H1 q (.lst ((L.take kk).map fun q => V.ref q.1))) := Evl.Ex.new hq
    have q2 : (upd H1 q (.lst ((L.take kk).map fun q => V.ref q.1))) q = some (.lst ((L.take kk).map fun q => V.ref q.1)) := upd_same
    generalize upd H1 q (.lst ((L.take kk).map fun q => V.ref q.1)) = H2 at y2 q2
    have y02 := y1.trans y2
    refine ⟨q, rfl, ⟨_, Evl.sq_of q2⟩, for_list (K := K) (a := q) (xs := (L.take kk).map fun q => V.ref q.1)
      (fun i σ H' => ∃ (fo : Addr) (x3 : Option V), σ = [some (.ref t), some (.int (kk : Int)), some (.ref fo), x3] ∧ Evl.Ex H2 H' ∧ H' fo = some (.lst ((((L.take kk).map (·.2)).take i).flatten.map V.str)))
      ⟨fo, none, rfl, Evl.Ex.refl _, y2 _ _ f1⟩ (fun i σ H' _ ⟨_, _, _, x, _⟩ => Evl.sq_of (x _ _ q2)) ?_ ?_⟩
    · rintro i v σ H3 hi ⟨fo, x3, rfl, z3, f3⟩
      obtain ⟨r, hr0, rfl⟩ := rowsT_at hi
      have mr : r ∈ L := List.mem_of_mem_take (List.mem_of_getElem? hr0)
      have tr := (y02.trans z3) _ _ (tL r mr)
      have sub : ((L.take kk).map (·.2)).flatten.Sublist (L.map (·.2)).flatten := by rw [List.map_take]; exact done_sub kk
      have h1 : (((L.take kk).map (·.2)).take i).flatten.length ≤ 6 := Nat.le_trans (done_sub (P := (L.take kk).map (·.2)) i).length_le (Nat.le_trans sub.length_le l6)
      have e3 : ((L.take kk).map (·.2))[i]? = some r.2 := by rw [List.getElem?_map, hr0]; rfl
      have h2 : r.2.length ≤ 6 := by
        have := (lot_sub (P := (L.take kk).map (·.2)) i).length_le
        unfold lotOf at this
        rw [e3] at this
        exact Nat.le_trans this (Nat.le_trans sub.length_le l6)
      refine ⟨.ref fo, rfl, .ref r.1, rfl, r.1, _, rfl, .inr (Evl.st_of tr), fun l hl => ?_⟩
      have y4 : Evl.Ex H3 (upd H3 l (.lst (r.2.map V.str))) := Evl.Ex.new hl
      have l4 : (upd H3 l (.lst (r.2.map V.str))) l = some (.lst (r.2.map V.str)) := upd_same
      generalize upd H3 l (.lst (r.2.map V.str)) = H4 at y4 l4
      refine ⟨fo, l, _, _, rfl, rfl, y4 _ _ f3, l4, by rw [List.length_map, List.length_map]; exact Nat.le_of_lt (small1000 (by omega)), fun c hc => ?_⟩
      have y5 : Evl.Ex H4 (upd H4 c (.lst ((((L.take kk).map (·.2)).take i).flatten.map V.str ++ r.2.map V.str))) := Evl.Ex.new hc
      refine ⟨c, _, rfl, (z3.trans y4).trans y5, ?_⟩
      rw [upd_same, List.take_add_one, e3, List.flatten_append, List.map_append]
      show _ = some (HO.lst (_ ++ (r.2 ++ []).map V.str))
      rw [List.append_nil]
    · rintro σ H3 ⟨fo, x3, rfl, z3, f3⟩
      refine ⟨.ref fo, rfl, k fo H3 (y02.trans z3) ?_⟩
      rw [f3, List.length_map, List.take_of_length_le (by rw [List.length_map]; exact Nat.le_refl _), List.map_take]
      rfl
def spHop (K : PySem.W.Frag) : Sp := fun vs H Q _ => ∃ (m tb db sb pb t b : Addr) (e z : Str) (k : Nat) (L : List (Addr × List Str)) (on ends dots ss ps : List Str) (rows : List (Str × V)) (o n : Str → List (Str × V)), vs = [.ref m, .ref t, .str e, .str z, .int (k : Int), .ref b] ∧ ModelAt H m tb db sb pb ends dots ss ps rows ∧ RowsAt H ends dots rows o n ∧ SqL K H t (L.map fun q => V.ref q.1) ∧ RowsT H L ∧ (L.map (·.2)).flatten.length ≤ 6 ∧ H b = some (.tup (on.map V.str)) ∧ e ∈ ends ∧ z ∈ dots ∧
  ∀ H', Evl.Ex H H' → Q (look (if newB (L.map (·.2)) (k, on) z = true then n e else o e) z) H'
abbrev nHop : List Str := ["model", "trail", "end", "dot", "stage", "on"]
theorem sc_hop : FnScope nHop nHop (defScope s_hop) := ⟨rfl, rfl, rfl, by decide +kernel, rfl, by decide +kernel, by decide +kernel⟩
theorem ok_hop {f : Addr} {fd : FuncData} (F : Fun K "_law_hop" "_law_hop" s_hop f fd) (C1 : Cal P w K mg base 1 "_law_done_in" ["trail", "stage"] (spDoneIn K)) (mInt : mg "int" = none) : FnOk P w K mg base CX0 2 f fd nHop (spHop K) := by
  obtain ⟨f1, fd1, F1, k1, b1, g1⟩ := C1.ex
  refine F.ok sc_hop (fun vs H Q E h => ?_) (fun cdv A outer s H vs Q E hr h => ?_)
  · obtain ⟨m, tb, db, sb, pb, t, b, e, z, k, L, on, ends, dots, ss, ps, rows, o, n, rfl, _⟩ := h
    rfl
  · obtain ⟨m, tb, db, sb, pb, t, b, e, z, kk, L, on, ends, dots, ss, ps, rows, o, n, rfl, MA, ro, ht, tL, l6, hb, he, hz, k⟩ := h
    have nd := sc_hop.nd
    have hu := hu_of hr
    refine ⟨_, pss_one (ps_ret (pe_dget hu (pe_ix ix_tup (pe_dget hu (pe_dget hu (pv 0) pe_str (fun _ _ => rfl)) (pv 2) (fun _ _ => rfl))
      (pe_callTy call_int1 (by rfl) mInt (by decide +kernel) (pa_cons (pe_or (pe_cmpR op_in_seq (pv 3) (pe_call F1 hr rfl g1 k1 b1 .nil pass0 (pa_cons (pv 1) (pa_cons (pv 4) pa_nil))) rfl) (pe_one (pe_cmpR op_in_seq (pv 3) (pv 5) rfl))) pa_nil)) (fun _ _ => rfl)) (pv 3) (fun _ _ => rfl))), ?_⟩
    obtain ⟨p, po, pn, hv, pa⟩ := ro e he
    have c1 := look_ok pa.o1 hz
    have c2 := look_ok pa.o2 hz
    refine ⟨.ref m, rfl, m, _, rfl, dget_of MA.hm (mkv_tables _ _ _ _), .str e, rfl, tb, .ref p, rfl, dget_of (k := Sum.inr e) MA.ht hv, ?_⟩
    refine ⟨.str z, rfl, .ref t, rfl, .int (kk : Int), rfl, t, kk, L, rfl, ht, tL, l6, fun q H1 x1 hq => ⟨q, _, rfl, .inl (Evl.sq_of hq), rfl, flat_strs _, ?_⟩⟩
    rw [inV_str]
    have fin : ∀ b : Bool, newB (L.map (·.2)) (kk, on) z = b → ∃ k_1, [V.bl b] = [V.bl k_1] ∧ True := fun b _ => ⟨b, rfl, trivial⟩
    have ge : ∀ b : Bool, newB (L.map (·.2)) (kk, on) z = b → DGet H1 (if b = true then pn else po) (.str z) (some (look (if newB (L.map (·.2)) (kk, on) z = true then n e else o e) z)) := fun b hb => by
      rw [hb]
      cases b with
      | true => exact dget_of (k := Sum.inr z) (x1 _ _ pa.hn) c2.2
      | false => exact dget_of (k := Sum.inr z) (x1 _ _ pa.ho) c1.2
    have hp1 := Evl.st_of (K := K) (x1 _ _ pa.hp)
    refine ⟨_, rfl, ?_⟩
    by_cases m1 : z ∈ doneOf (L.map (·.2)) kk
    · have e0 : newB (L.map (·.2)) (kk, on) z = true := by unfold newB; exact decide_eq_true (.inl m1)
      rw [decide_eq_true m1]
      exact iteT (.inr ⟨true, rfl, p, _, 1, .ref pn, rfl, rfl, hp1, atI_nat (j := 1) rfl, .str z, rfl, pn, _, rfl, ge true e0, k H1 x1⟩)
    · rw [decide_eq_false m1]
      refine iteF ⟨.str z, rfl, .ref b, rfl, b, on.map V.str, rfl, .inr (Evl.st_of (x1 _ _ hb)), rfl, flat_strs on, ?_⟩
      rw [inV_str]
      by_cases m2 : z ∈ on
      · have e0 : newB (L.map (·.2)) (kk, on) z = true := by unfold newB; exact decide_eq_true (.inr m2)
        rw [decide_eq_true m2]
        exact .inr ⟨true, rfl, p, _, 1, .ref pn, rfl, rfl, hp1, atI_nat (j := 1) rfl, .str z, rfl, pn, _, rfl, ge true e0, k H1 x1⟩
      · have e0 : newB (L.map (·.2)) (kk, on) z = false := by unfold newB; exact decide_eq_false (fun h => h.elim m1 m2)
        rw [decide_eq_false m2]
        exact .inr ⟨false, rfl, p, _, 0, .ref po, rfl, rfl, hp1, atI_nat (j := 0) rfl, .str z, rfl, po, _, rfl, ge false e0, k H1 x1⟩
end
end Rw
end T_F1

section T_CU
set_option Elab.async false
set_option linter.all false
set_option maxRecDepth 100000
set_option maxHeartbeats 4000000
namespace Rw
open PySem L2 PyProof.Rows
/-- a + b of tuples that stand in the heap -/
def rCatU : R2 := fun x y H Q => ∃ (a b : Addr) (xs ys : List V), x = .ref a ∧ y = .ref b ∧ H a = some (.tup xs) ∧ H b = some (.tup ys) ∧ xs.length + ys.length ≤ sizeLine ∧ ∀ q H', Evl.Ex H H' → H' q = some (.tup (xs ++ ys)) → Q (.ref q) H'
theorem op_catU {X : Cx} : OpR X (binaryOp .Add) rCatU := by
  intro pins s σ H x y v u Q I rx ry h
  obtain ⟨a, b, xs, ys, rfl, rfl, ha, hb, hz, k⟩ := h
  refine op_catA pins s σ H _ _ v u Q I rx ry ⟨a, b, xs, ys, rfl, rfl, Evl.st_of ha, Evl.st_of hb, hz, fun e => ?_, fun _ e => ?_, fun _ _ p hp => ?_⟩
  · subst e
    exact k b H (Evl.Ex.refl H) hb
  · subst e
    refine k a H (Evl.Ex.refl H) ?_
    rw [List.append_nil]
    exact ha
  · exact k p _ (Evl.Ex.new hp) upd_same
end Rw
end T_CU

section T_E5
set_option Elab.async false
set_option linter.all false
set_option maxRecDepth 100000
set_option maxHeartbeats 8000000
namespace Rw
open PySem L2 PyProof.Rows LamX
/-- those of a row that follow one of the last list (all, if there is none) -/
def stepR (fol : Sta → Sta → Bool) (A : List (Addr × List StaR)) (r : List StaR) : List StaR := r.filter fun q => A.isEmpty || ((A.getLast?.map (·.2)).getD []).any fun o => fol o.st q.st
theorem stepR_st (fol : Sta → Sta → Bool) (A : List (Addr × List StaR)) (r : List StaR) : (stepR fol A r).map StaR.st = (r.map StaR.st).filter fun t => (stasOf A).isEmpty || ((stasOf A).getLastD []).any fun s => fol s t := by
  unfold stepR
  rw [List.filter_map]
  congr 1
  apply List.filter_congr
  intro q _
  show _ = ((stasOf A).isEmpty || ((stasOf A).getLastD []).any fun s => fol s q.st)
  rcases List.eq_nil_or_concat A with rfl | ⟨A0, l, rfl⟩
  · rfl
  · rw [List.concat_eq_append, List.getLast?_concat]
    show ((A0 ++ [l]).isEmpty || l.2.any fun o => fol o.st q.st) = _
    have e1 : stasOf (A0 ++ [l]) = stasOf A0 ++ [l.2.map StaR.st] := by show List.map _ _ = _; rw [List.map_append]; rfl
    rw [e1, List.getLastD_concat, List.any_map]
    have e2 : (A0 ++ [l]).isEmpty = false := by cases A0 <;> rfl
    have e3 : (stasOf A0 ++ [l.2.map StaR.st]).isEmpty = false := by cases stasOf A0 <;> rfl
    rw [e2, e3]
    rfl
theorem stepR_sub {fol : Sta → Sta → Bool} {A : List (Addr × List StaR)} {r : List StaR} {q : StaR} (h : q ∈ stepR fol A r) : q ∈ r := (List.mem_filter.mp h).1
theorem stepR_nil {fol : Sta → Sta → Bool} {r : List StaR} : stepR fol [] r = r := by
  unfold stepR
  exact List.filter_eq_self.mpr fun _ _ => rfl
theorem stepR_snoc {fol : Sta → Sta → Bool} {A0 : List (Addr × List StaR)} {l : Addr × List StaR} {r : List StaR} : stepR fol (A0 ++ [l]) r = r.filter fun q => l.2.any fun o => fol o.st q.st := by
  unfold stepR
  rw [List.getLast?_concat]
  have e2 : (A0 ++ [l]).isEmpty = false := by cases A0 <;> rfl
  rw [e2]
  rfl
theorem staR_at {L : List StaR} {i : Nat} {x : V} (h : (refsS L)[i]? = some x) : ∃ q, L[i]? = some q ∧ x = .ref q.a := map_at h
section
variable {P : Program} {w : World} {K : PySem.W.Frag} {mg : Str → Option Value} {base : Heap}
/-- the other way about -/
abbrev folR (s t : Sta) : Bool := folB t s
/-- what a list of lists of states is, its members from another one -/
structure FromL (LL A : List (Addr × List StaR)) : Prop where
  mem : ∀ r ∈ A, ∃ r0 ∈ LL, ∀ q ∈ r.2, q ∈ r0.2
  few : ∀ r ∈ A, r.2.length ≤ 500
def spInStories (K : PySem.W.Frag) : Sp := fun vs H Q _ => ∃ (a : Addr) (LL : List (Addr × List StaR)), vs = [.ref a] ∧ SqL K H a (LL.map fun r => V.ref r.1) ∧ ListsT H LL ∧ LL.length ≤ 12 ∧ (∀ r ∈ LL, r.2.length ≤ 500) ∧ (∀ r ∈ LL, ∀ q ∈ r.2, q.B.length ≤ 6) ∧
  ∀ (p : Addr) (H' : Hp) (A : List (Addr × List StaR)), Evl.Ex H H' → H p = none → H' p = some (.lst (A.map fun r => V.ref r.1)) → ListsT H' A → stasOf A = inStories (stasOf LL) → FromL LL A → A.length = LL.length → Q (.ref p) H'
abbrev nInStories : List Str := ["seen", "ahead", "states", "reached", "kept", "left", "state", "other"]
abbrev scIs1 : Scope := { kind := .function, names := [(".0", .local), ("state", .cell), ("any", .globalImplicit), ("ahead", .cell)], isGenerator := false, isCoroutine := false }
abbrev scIs2 : Scope := { kind := .function, names := [(".0", .local), ("state", .cell), ("any", .globalImplicit), ("kept", .cell)], isGenerator := false, isCoroutine := false }
theorem sc_in_stories : FnScope nInStories ["seen"] (defScope p_states_in_stories) := ⟨rfl, rfl, rfl, by decide +kernel, rfl, by decide +kernel, by decide +kernel⟩
theorem ok_in_stories {f : Addr} {fd : FuncData} (F : Fun K "states_in_stories" "states_in_stories" p_states_in_stories f fd) (C1 : Cal P w K mg base 2 "can_follow" ["state", "later"] spFol) (mAny : mg "any" = none) (mRev : mg "reversed" = none) : FnOk P w K mg base CX0 3 f fd ["seen"] (spInStories K) := by
  obtain ⟨f1, fd1, F1, k1, b1, g1⟩ := C1.ex
  refine F.ok sc_in_stories (fun vs H Q E h => ?_) (fun cdv A outer s H vs Q E hr h => ?_)
  · obtain ⟨a, LL, rfl, _⟩ := h
    rfl
  · obtain ⟨a, LL, rfl, hS, tL, l12, few, b6, k⟩ := h
    have nd := sc_in_stories.nd
    refine ⟨_, pss_cons (ps_set (i := 1) nd rfl (.inr rfl) (pe_lst pa_nil))
      (pss_cons (ps_for PassesOwn.never rfl (pi_list (pv 0)) (pg_name (i := 2) nd rfl (.inl rfl))
        (pss_cons (ps_setLc (i := 3) (own := [("state", 6)]) (g := gName 6) (tt := tOr (tNot (fun σ H Q => tVar 1 σ H fun x H' => ∃ k, TruV K x H' k ∧ Q k H')) (tB (tCB (rAny K) (tCons (tLc (iList K (tOp (rIxL K) (tVar 1) (tUn (rU fun i => .int (-i)) (tC (.int 1))))) (gName 7) tYes (tCall spFol [] E0 (tCons (tVar 7) (tCons (tVar 6) tNil))) [7]) tNil)))) (te := tVar 6) (by rfl) nd rfl rfl (sw_true rfl rfl rfl (by decide +kernel)) (pi_list (pv 2)) (blkOk_by (own := [("state", 6)]) (N := nInStories) (sc := defScope p_states_in_stories) (by decide +kernel))
            (fun _ _ _ _ _ => pg_name (i := 6) nd rfl (Or.inr rfl))
            (fun _ _ _ _ _ => pts_one (PW.pt (pw_or (pt_not (pt_truth (pv 1) (fun _ => rfl))) (pw_or1 (pt_val (pe_callB (cr_any rfl) (by rfl) mAny (by decide +kernel) (pa_cons
              (pe_lc (own := [("other", 7)]) (g := gName 7) (tt := tYes) (te := tCall spFol [] E0 (tCons (tVar 7) (tCons (tVar 6) tNil))) rfl nd (pi_list (pe_ix ix_list (pv 1) (pe_un un_neg pe_int) (fun _ _ => rfl))) (by
                have q : ∀ {sc : Scope}, blkC nInStories scIs1 sc [("other", 7)] = true → BlkOk nInStories scIs1 sc [("other", 7)] := fun h => blkOk_by h
                refine q ?_
                decide +kernel)
                (fun _ _ _ _ _ => pg_name (i := 7) nd rfl (Or.inl rfl)) (fun _ _ _ _ _ => pts_nil) (fun _ _ _ _ _ => pe_call F1 hr rfl g1 k1 b1 .nil pass0 (pa_cons (pv 7) (pa_cons (pv 6) pa_nil)))) pa_nil)))))))
            (fun _ _ _ _ _ => pv 6))
        (pss_one (ps_expr (pe_bm PySem.F.plainAttrs_list PySem.F.slot_list_append PySem.F.type_list_append mt_append (pv 1) (pa_cons (pv 3) pa_nil))))))
      (pss_cons (ps_set (i := 4) nd rfl (.inr rfl) (pe_lst pa_nil))
      (pss_cons (ps_for PassesOwn.never rfl (pi_reversed (by rfl) mRev (pa_cons (pv 1) pa_nil)) (pg_name (i := 2) nd rfl (.inl rfl))
        (pss_cons (ps_setLc (i := 5) (own := [("state", 6)]) (g := gName 6) (tt := tOr (tNot (fun σ H Q => tVar 4 σ H fun x H' => ∃ k, TruV K x H' k ∧ Q k H')) (tB (tCB (rAny K) (tCons (tLc (iList K (tOp (rIxL K) (tVar 4) (tUn (rU fun i => .int (-i)) (tC (.int 1))))) (gName 7) tYes (tCall spFol [] E0 (tCons (tVar 6) (tCons (tVar 7) tNil))) [7]) tNil)))) (te := tVar 6) (by rfl) nd rfl rfl (sw_true rfl rfl rfl (by decide +kernel)) (pi_list (pv 2)) (blkOk_by (own := [("state", 6)]) (N := nInStories) (sc := defScope p_states_in_stories) (by decide +kernel))
            (fun _ _ _ _ _ => pg_name (i := 6) nd rfl (Or.inr rfl))
            (fun _ _ _ _ _ => pts_one (PW.pt (pw_or (pt_not (pt_truth (pv 4) (fun _ => rfl))) (pw_or1 (pt_val (pe_callB (cr_any rfl) (by rfl) mAny (by decide +kernel) (pa_cons
              (pe_lc (own := [("other", 7)]) (g := gName 7) (tt := tYes) (te := tCall spFol [] E0 (tCons (tVar 6) (tCons (tVar 7) tNil))) rfl nd (pi_list (pe_ix ix_list (pv 4) (pe_un un_neg pe_int) (fun _ _ => rfl))) (by
                have q : ∀ {sc : Scope}, blkC nInStories scIs2 sc [("other", 7)] = true → BlkOk nInStories scIs2 sc [("other", 7)] := fun h => blkOk_by h
                refine q ?_
                decide +kernel)
                (fun _ _ _ _ _ => pg_name (i := 7) nd rfl (Or.inl rfl)) (fun _ _ _ _ _ => pts_nil) (fun _ _ _ _ _ => pe_call F1 hr rfl g1 k1 b1 .nil pass0 (pa_cons (pv 6) (pa_cons (pv 7) pa_nil)))) pa_nil)))))))
            (fun _ _ _ _ _ => pv 6))
        (pss_one (ps_expr (pe_bm PySem.F.plainAttrs_list PySem.F.slot_list_append PySem.F.type_list_append mt_append (pv 4) (pa_cons (pv 5) pa_nil))))))
      (pss_one (ps_ret (pe_revL (pv 4))))))), ?_⟩
    -- ahead = []
    refine ⟨by show 0 ≤ sizeLine; decide, fun ah hah => ?_⟩
    have y1 : Evl.Ex H (upd H ah (.lst [])) := Evl.Ex.new hah
    have a1 : (upd H ah (.lst [])) ah = some (.lst (([] : List (Addr × List StaR)).map fun r => V.ref r.1)) := upd_same
    generalize upd H ah (.lst []) = H1 at y1 a1
    refine ⟨.ref a, rfl, a, rfl, ⟨_, Evl.ex_l y1 hS⟩, for_list (K := K) (a := a) (xs := LL.map fun r => V.ref r.1)
      (fun i σ H' => ∃ (x2 x3 : Option V) (A : List (Addr × List StaR)), σ = [some (.ref a), some (.ref ah), x2, x3, none, none, none, none] ∧ Evl.Ex H H' ∧ H' ah = some (.lst (A.map fun r => V.ref r.1)) ∧ ListsT H' A ∧ (∀ r ∈ A, r.1 ≠ ah) ∧ stasOf A = ((stasOf LL).take i).foldl aheadStep [] ∧ FromL LL A ∧ A.length = i)
      ⟨none, none, [], rfl, y1, a1, (fun r hr => nomatch hr), (fun r hr => nomatch hr), rfl, ⟨(fun r hr => nomatch hr), (fun r hr => nomatch hr)⟩, rfl⟩ (fun i σ H' _ ⟨_, _, _, _, x, _⟩ => Evl.ex_l x hS) ?_ ?_⟩
    · rintro i v σ H2 hi ⟨x2, x3, A, rfl, z2, a2, tA, nA, eA, fA, lA⟩
      obtain ⟨r, hr0, rfl⟩ := map_at hi
      have mr := List.mem_of_getElem? hr0
      have il := (List.getElem?_eq_some_iff.mp hr0).1
      have tr := tL r mr
      have rl := few r mr
      have hr1 := z2 _ _ tr.1
      have sr := tr.2.to z2
      have br := b6 r mr
      refine ⟨.ref r.1, rfl, r.1, rfl, ⟨_, Evl.sq_of hr1⟩, fun D hD => lc_list (K := K) (a := r.1) (xs := refsS r.2)
        (fun j H' => j ≤ r.2.length ∧ Evl.Ex H2 H' ∧ H' D = some (.lst (refsS (stepR folB A (r.2.take j))))) ⟨Nat.zero_le _, Evl.Ex.new hD, upd_same⟩ (fun j H' _ h => Evl.sq_of (h.2.1 _ _ hr1)) ?_ ?_⟩
      · rintro j v H3 hj ⟨_, x3, d3⟩
        obtain ⟨q, hq, rfl⟩ := staR_at hj
        have mq := List.mem_of_getElem? hq
        have jl := (List.getElem?_eq_some_iff.mp hq).1
        have tq : StaT H3 q := ⟨x3 _ _ (sr q mq).1, x3 _ _ (sr q mq).2⟩
        have qb := br q mq
        have dl : (stepR folB A (r.2.take j)).length ≤ 500 := Nat.le_trans (List.length_filter_le _ _) (by rw [List.length_take]; omega)
        have et : ∀ b : Bool, (A.isEmpty || ((A.getLast?.map (·.2)).getD []).any fun o => folB o.st q.st) = b → stepR folB A (r.2.take (j + 1)) = stepR folB A (r.2.take j) ++ (if b = true then [q] else []) := fun b hb => by
          unfold stepR
          rw [List.take_add_one, hq, List.filter_append]
          show _ ++ List.filter _ [q] = _
          rw [List.filter_cons, hb]
          cases b <;> rfl
        refine ⟨rfl, .ref ah, rfl, !A.isEmpty, .inl ⟨_, Evl.sq_of (x3 _ _ a2), by rw [List.isEmpty_map]⟩, ?_⟩
        have put : ∀ H4 : Hp, Evl.Ex H3 H4 → ∀ b : Bool, (A.isEmpty || ((A.getLast?.map (·.2)).getD []).any fun o => folB o.st q.st) = b → b = true → ∃ acc, H4 D = some (.lst acc) ∧ acc.length < sizeLine ∧ (j + 1 ≤ r.2.length ∧ Evl.Ex H2 (upd H4 D (HO.lst (acc ++ [V.ref q.a]))) ∧ (upd H4 D (HO.lst (acc ++ [V.ref q.a]))) D = some (.lst (refsS (stepR folB A (r.2.take (j + 1)))))) := fun H4 x4 b hb e => by
          refine ⟨_, x4 _ _ d3, by rw [List.length_map]; exact small1000 (by omega), jl, (x3.trans x4).mut hD, ?_⟩
          rw [upd_same, et b hb, if_pos e]
          show _ = some (HO.lst (List.map _ _))
          rw [List.map_append]
          rfl
        rcases List.eq_nil_or_concat A with eA0 | ⟨A0, l, eA0⟩
        · refine (if_pos (show (!(!A.isEmpty)) = true by rw [eA0]; rfl)).mpr ?_
          exact iteT ⟨.ref q.a, rfl, put H3 (Evl.Ex.refl _) true (by rw [eA0]; rfl) rfl⟩
        rw [List.concat_eq_append] at eA0
        have eE : A.isEmpty = false := by rw [eA0]; cases A0 <;> rfl
        have eL : (A.getLast?.map (·.2)).getD [] = l.2 := by rw [eA0, List.getLast?_concat]; rfl
        refine (if_neg (show ¬((!(!A.isEmpty)) = true) by rw [eE]; decide)).mpr ?_
        have ml : l ∈ A := by rw [eA0]; exact List.mem_append_right _ List.mem_cons_self
        have tl := tA l ml
        have ll := fA.few l ml
        have hl1 := x3 _ _ tl.1
        have at1 : atI (A.map fun r => V.ref r.1) (-1) = some (V.ref l.1) := by rw [eA0, List.map_append]; exact atI_last _ _
        refine ⟨.ref ah, rfl, 1, rfl, ah, _, -1, _, rfl, rfl, Evl.sq_of (x3 _ _ a2), at1, l.1, rfl, ⟨_, Evl.sq_of hl1⟩, fun D2 hD2 => lc_list (K := K) (a := l.1) (xs := refsS l.2)
          (fun i H' => i ≤ l.2.length ∧ Evl.Ex H3 H' ∧ H' D2 = some (.lst (((l.2.take i).map fun o => folB o.st q.st).map V.bl))) ⟨Nat.zero_le _, Evl.Ex.new hD2, upd_same⟩ (fun i H' _ h => Evl.sq_of (h.2.1 _ _ hl1)) ?_ ?_⟩
        · rintro i v H4 hi2 ⟨_, x4, d4⟩
          obtain ⟨o, ho, rfl⟩ := staR_at hi2
          have mo := List.mem_of_getElem? ho
          have iol := (List.getElem?_eq_some_iff.mp ho).1
          have to : StaT H4 o := ⟨x4 _ _ (x3 _ _ (tl.2 o mo).1), x4 _ _ (x3 _ _ (tl.2 o mo).2)⟩
          obtain ⟨l0, ml0, sub0⟩ := fA.mem l ml
          have ob := b6 l0 ml0 o (sub0 o mo)
          refine ⟨rfl, yes_if ?_⟩
          refine ⟨.ref o.a, rfl, .ref q.a, rfl, o, q, rfl, to, tq.to x4, by omega, fun H5 x5 => ?_⟩
          refine ⟨_, x5 _ _ d4, by rw [List.length_map, List.length_map, List.length_take]; exact small1000 (by omega), iol, (x4.trans x5).mut hD2, ?_⟩
          rw [upd_same, List.take_add_one, ho, List.map_append, List.map_append]
          rfl
        · rintro H4 ⟨_, x4, d4⟩
          rw [List.length_map, List.take_length] at d4
          refine ⟨D2, _, rfl, Evl.sq_of d4, _, rfl, ?_⟩
          rw [List.any_map]
          cases hb : (l.2.any (id ∘ fun o => folB o.st q.st)) with
          | true => exact iteT ⟨.ref q.a, rfl, put H4 x4 true (by rw [eE, eL]; exact hb) rfl⟩
          | false =>
            refine iteF ⟨jl, x3.trans x4, ?_⟩
            rw [x4 _ _ d3, et false (by rw [eE, eL]; exact hb)]
            show _ = some (HO.lst (refsS (_ ++ [])))
            rw [List.append_nil]
      · rintro H3 ⟨_, x3, d3⟩
        rw [List.length_map, List.take_length] at d3
        refine ⟨.ref ah, rfl, .inl ⟨rfl, _, Evl.sq_of (x3 _ _ a2)⟩, .ref D, rfl, ah, _, .ref D, rfl, rfl, x3 _ _ a2, by rw [List.length_map]; exact small1000 (by omega), ?_⟩
        have nD : D ≠ ah := (ne_of_none a2 hD).symm
        obtain ⟨q1, q2⟩ : True ∧ True := ⟨trivial, trivial⟩
        refine ⟨_, _, A ++ [(D, stepR folB A r.2)], rfl, (z2.trans x3).mut hah, ?_, fun r' hr' => ?_, fun r' hr' => ?_, ?_, ⟨fun r' hr' => ?_, fun r' hr' => ?_⟩, ?_⟩
        · rw [upd_same, List.map_append]
          rfl
        · rcases List.mem_append.mp hr' with hr' | hr'
          · have nr := nA r' hr'
            obtain ⟨h1, h2⟩ := tA r' hr'
            refine ⟨by rw [upd_ne nr]; exact x3 _ _ h1, fun q hq => ?_⟩
            have g1 := x3 _ _ (h2 q hq).1
            have g2 := x3 _ _ (h2 q hq).2
            exact ⟨by rw [upd_ne (ne_of g1 (x3 _ _ a2) (by intro z; cases z))]; exact g1, by rw [upd_ne (ne_of g2 (x3 _ _ a2) (by intro z; cases z))]; exact g2⟩
          · rw [List.mem_singleton.mp hr']
            refine ⟨by rw [upd_ne nD]; exact d3, fun q hq => ?_⟩
            have hq' := stepR_sub hq
            have g1 := x3 _ _ (sr q hq').1
            have g2 := x3 _ _ (sr q hq').2
            exact ⟨by rw [upd_ne (ne_of g1 (x3 _ _ a2) (by intro z; cases z))]; exact g1, by rw [upd_ne (ne_of g2 (x3 _ _ a2) (by intro z; cases z))]; exact g2⟩
        · rcases List.mem_append.mp hr' with hr' | hr'
          · exact nA r' hr'
          · rw [List.mem_singleton.mp hr']
            exact nD
        · have e1 : stasOf (A ++ [(D, stepR folB A r.2)]) = stasOf A ++ [(stepR folB A r.2).map StaR.st] := by show List.map _ _ = _; rw [List.map_append]; rfl
          have e2 : (stasOf LL)[i]? = some (r.2.map StaR.st) := by show (List.map _ _)[i]? = _; rw [List.getElem?_map, hr0]; rfl
          rw [e1, stepR_st, List.take_add_one, e2, List.foldl_append, ← eA]
          rfl
        · rcases List.mem_append.mp hr' with hr' | hr'
          · exact fA.mem r' hr'
          · rw [List.mem_singleton.mp hr']
            exact ⟨r, mr, fun q hq => stepR_sub hq⟩
        · rcases List.mem_append.mp hr' with hr' | hr'
          · exact fA.few r' hr'
          · rw [List.mem_singleton.mp hr']
            exact Nat.le_trans (List.length_filter_le _ _) rl
        · rw [List.length_append, lA]
          rfl
    · rintro σ H2 ⟨x2, x3, B, rfl, z2, b2, tB', nB, eB, fB, lB⟩
      rw [List.length_map] at eB lB
      rw [List.take_of_length_le (by show (List.map _ _).length ≤ _; rw [List.length_map]; exact Nat.le_refl _)] at eB
      -- kept = []
      refine ⟨by show 0 ≤ sizeLine; decide, fun kp hkp => ?_⟩
      have y3 : Evl.Ex H2 (upd H2 kp (.lst [])) := Evl.Ex.new hkp
      have a3 : (upd H2 kp (.lst [])) kp = some (.lst (([] : List (Addr × List StaR)).map fun r => V.ref r.1)) := upd_same
      generalize upd H2 kp (.lst []) = H3 at y3 a3
      have bl : (B.map fun r => V.ref r.1).length = B.length := List.length_map ..
      refine ⟨.ref ah, rfl, ah, _, rfl, Evl.sq_of (y3 _ _ b2), for_it (walk_rev (K := K) (a := ah) (xs := B.map fun r => V.ref r.1))
        (fun i σ H' => ∃ (x2 x3 x5 : Option V) (A : List (Addr × List StaR)), σ = [some (.ref a), some (.ref ah), x2, x3, some (.ref kp), x5, none, none] ∧ Evl.Ex H2 H' ∧ H' kp = some (.lst (A.map fun r => V.ref r.1)) ∧ ListsT H' A ∧ (∀ r ∈ A, r.1 ≠ kp) ∧ stasOf A = ((stasOf B).reverse.take i).foldl keptStep [] ∧ FromL LL A ∧ A.length = i)
        ⟨_, _, none, [], rfl, y3, a3, (fun r hr => nomatch hr), (fun r hr => nomatch hr), rfl, ⟨(fun r hr => nomatch hr), (fun r hr => nomatch hr)⟩, rfl⟩ (fun i σ H' _ ⟨_, _, _, _, _, x, _⟩ => Evl.sq_of (x _ _ b2)) ?_ ?_⟩
      · rintro i v σ H9 H4 hi ⟨x2, x3, x5, A, rfl, z2, a2, tA, nA, eA, fA, lA⟩ ⟨rfl, hv⟩
        obtain ⟨r, hr0, rfl⟩ := map_at hv
        rw [bl] at hr0 hi
        have mr := List.mem_of_getElem? hr0
        have tr := tB' r mr
        have rl := fB.few r mr
        have hr1 := z2 _ _ tr.1
        have sr := tr.2.to z2
        have br : ∀ q ∈ r.2, q.B.length ≤ 6 := fun q hq => by
          obtain ⟨r0, h0, s0⟩ := fB.mem r mr
          exact b6 r0 h0 q (s0 q hq)
        refine ⟨.ref r.1, rfl, r.1, rfl, ⟨_, Evl.sq_of hr1⟩, fun D hD => lc_list (K := K) (a := r.1) (xs := refsS r.2)
          (fun j H' => j ≤ r.2.length ∧ Evl.Ex H4 H' ∧ H' D = some (.lst (refsS (stepR folR A (r.2.take j))))) ⟨Nat.zero_le _, Evl.Ex.new hD, upd_same⟩ (fun j H' _ h => Evl.sq_of (h.2.1 _ _ hr1)) ?_ ?_⟩
        · rintro j v H6 hj ⟨_, x3, d3⟩
          obtain ⟨q, hq, rfl⟩ := staR_at hj
          have mq := List.mem_of_getElem? hq
          have jl := (List.getElem?_eq_some_iff.mp hq).1
          have tq : StaT H6 q := ⟨x3 _ _ (sr q mq).1, x3 _ _ (sr q mq).2⟩
          have qb := br q mq
          have dl : (stepR folR A (r.2.take j)).length ≤ 500 := Nat.le_trans (List.length_filter_le _ _) (by rw [List.length_take]; omega)
          have et : ∀ b : Bool, (A.isEmpty || ((A.getLast?.map (·.2)).getD []).any fun o => folR o.st q.st) = b → stepR folR A (r.2.take (j + 1)) = stepR folR A (r.2.take j) ++ (if b = true then [q] else []) := fun b hb => by
            unfold stepR
            rw [List.take_add_one, hq, List.filter_append]
            show _ ++ List.filter _ [q] = _
            rw [List.filter_cons, hb]
            cases b <;> rfl
          refine ⟨rfl, .ref kp, rfl, !A.isEmpty, .inl ⟨_, Evl.sq_of (x3 _ _ a2), by rw [List.isEmpty_map]⟩, ?_⟩
          have put : ∀ H7 : Hp, Evl.Ex H6 H7 → ∀ b : Bool, (A.isEmpty || ((A.getLast?.map (·.2)).getD []).any fun o => folR o.st q.st) = b → b = true → ∃ acc, H7 D = some (.lst acc) ∧ acc.length < sizeLine ∧ (j + 1 ≤ r.2.length ∧ Evl.Ex H4 (upd H7 D (HO.lst (acc ++ [V.ref q.a]))) ∧ (upd H7 D (HO.lst (acc ++ [V.ref q.a]))) D = some (.lst (refsS (stepR folR A (r.2.take (j + 1)))))) := fun H7 x4 b hb e => by
            refine ⟨_, x4 _ _ d3, by rw [List.length_map]; exact small1000 (by omega), jl, (x3.trans x4).mut hD, ?_⟩
            rw [upd_same, et b hb, if_pos e]
            show _ = some (HO.lst (List.map _ _))
            rw [List.map_append]
            rfl
          rcases List.eq_nil_or_concat A with eA0 | ⟨A0, l, eA0⟩
          · refine (if_pos (show (!(!A.isEmpty)) = true by rw [eA0]; rfl)).mpr ?_
            exact iteT ⟨.ref q.a, rfl, put H6 (Evl.Ex.refl _) true (by rw [eA0]; rfl) rfl⟩
          rw [List.concat_eq_append] at eA0
          have eE : A.isEmpty = false := by rw [eA0]; cases A0 <;> rfl
          have eL : (A.getLast?.map (·.2)).getD [] = l.2 := by rw [eA0, List.getLast?_concat]; rfl
          refine (if_neg (show ¬((!(!A.isEmpty)) = true) by rw [eE]; decide)).mpr ?_
          have ml : l ∈ A := by rw [eA0]; exact List.mem_append_right _ List.mem_cons_self
          have tl := tA l ml
          have ll := fA.few l ml
          have hl1 := x3 _ _ tl.1
          have at1 : atI (A.map fun r => V.ref r.1) (-1) = some (V.ref l.1) := by rw [eA0, List.map_append]; exact atI_last _ _
          refine ⟨.ref kp, rfl, 1, rfl, kp, _, -1, _, rfl, rfl, Evl.sq_of (x3 _ _ a2), at1, l.1, rfl, ⟨_, Evl.sq_of hl1⟩, fun D2 hD2 => lc_list (K := K) (a := l.1) (xs := refsS l.2)
            (fun i H' => i ≤ l.2.length ∧ Evl.Ex H6 H' ∧ H' D2 = some (.lst (((l.2.take i).map fun o => folR o.st q.st).map V.bl))) ⟨Nat.zero_le _, Evl.Ex.new hD2, upd_same⟩ (fun i H' _ h => Evl.sq_of (h.2.1 _ _ hl1)) ?_ ?_⟩
          · rintro i v H7 hi2 ⟨_, x4, d4⟩
            obtain ⟨o, ho, rfl⟩ := staR_at hi2
            have mo := List.mem_of_getElem? ho
            have iol := (List.getElem?_eq_some_iff.mp ho).1
            have to : StaT H7 o := ⟨x4 _ _ (x3 _ _ (tl.2 o mo).1), x4 _ _ (x3 _ _ (tl.2 o mo).2)⟩
            obtain ⟨l0, ml0, sub0⟩ := fA.mem l ml
            have ob := b6 l0 ml0 o (sub0 o mo)
            refine ⟨rfl, yes_if ?_⟩
            refine ⟨.ref q.a, rfl, .ref o.a, rfl, q, o, rfl, tq.to x4, to, by omega, fun H8 x5 => ?_⟩
            refine ⟨_, x5 _ _ d4, by rw [List.length_map, List.length_map, List.length_take]; exact small1000 (by omega), iol, (x4.trans x5).mut hD2, ?_⟩
            rw [upd_same, List.take_add_one, ho, List.map_append, List.map_append]
            rfl
          · rintro H7 ⟨_, x4, d4⟩
            rw [List.length_map, List.take_length] at d4
            refine ⟨D2, _, rfl, Evl.sq_of d4, _, rfl, ?_⟩
            rw [List.any_map]
            cases hb : (l.2.any (id ∘ fun o => folR o.st q.st)) with
            | true => exact iteT ⟨.ref q.a, rfl, put H7 x4 true (by rw [eE, eL]; exact hb) rfl⟩
            | false =>
              refine iteF ⟨jl, x3.trans x4, ?_⟩
              rw [x4 _ _ d3, et false (by rw [eE, eL]; exact hb)]
              show _ = some (HO.lst (refsS (_ ++ [])))
              rw [List.append_nil]
        · rintro H6 ⟨_, x3, d3⟩
          rw [List.length_map, List.take_length] at d3
          refine ⟨.ref kp, rfl, .inl ⟨rfl, _, Evl.sq_of (x3 _ _ a2)⟩, .ref D, rfl, kp, _, .ref D, rfl, rfl, x3 _ _ a2, by rw [List.length_map]; exact small1000 (by omega), ?_⟩
          have nD : D ≠ kp := (ne_of_none a2 hD).symm
          refine ⟨_, _, _, A ++ [(D, stepR folR A r.2)], rfl, (z2.trans x3).mut hkp, ?_, fun r' hr' => ?_, fun r' hr' => ?_, ?_, ⟨fun r' hr' => ?_, fun r' hr' => ?_⟩, ?_⟩
          · rw [upd_same, List.map_append]
            rfl
          · rcases List.mem_append.mp hr' with hr' | hr'
            · have nr := nA r' hr'
              obtain ⟨h1, h2⟩ := tA r' hr'
              refine ⟨by rw [upd_ne nr]; exact x3 _ _ h1, fun q hq => ?_⟩
              have g1 := x3 _ _ (h2 q hq).1
              have g2 := x3 _ _ (h2 q hq).2
              exact ⟨by rw [upd_ne (ne_of g1 (x3 _ _ a2) (by intro z; cases z))]; exact g1, by rw [upd_ne (ne_of g2 (x3 _ _ a2) (by intro z; cases z))]; exact g2⟩
            · rw [List.mem_singleton.mp hr']
              refine ⟨by rw [upd_ne nD]; exact d3, fun q hq => ?_⟩
              have hq' := stepR_sub hq
              have g1 := x3 _ _ (sr q hq').1
              have g2 := x3 _ _ (sr q hq').2
              exact ⟨by rw [upd_ne (ne_of g1 (x3 _ _ a2) (by intro z; cases z))]; exact g1, by rw [upd_ne (ne_of g2 (x3 _ _ a2) (by intro z; cases z))]; exact g2⟩
          · rcases List.mem_append.mp hr' with hr' | hr'
            · exact nA r' hr'
            · rw [List.mem_singleton.mp hr']
              exact nD
          · have e1 : stasOf (A ++ [(D, stepR folR A r.2)]) = stasOf A ++ [(stepR folR A r.2).map StaR.st] := by show List.map _ _ = _; rw [List.map_append]; rfl
            have e2 : (stasOf B).reverse[i]? = some (r.2.map StaR.st) := by
              rw [List.getElem?_reverse (by show i < (List.map _ _).length; rw [List.length_map]; omega)]
              show (List.map _ _)[_]? = _
              rw [List.getElem?_map, show (stasOf B).length = B.length from List.length_map .., hr0]
              rfl
            rw [e1, stepR_st, List.take_add_one, e2, List.foldl_append, ← eA]
            rfl
          · rcases List.mem_append.mp hr' with hr' | hr'
            · exact fA.mem r' hr'
            · rw [List.mem_singleton.mp hr']
              obtain ⟨r0, h0, s0⟩ := fB.mem r mr
              exact ⟨r0, h0, fun q hq => s0 q (stepR_sub hq)⟩
          · rcases List.mem_append.mp hr' with hr' | hr'
            · exact fA.few r' hr'
            · rw [List.mem_singleton.mp hr']
              exact Nat.le_trans (List.length_filter_le _ _) rl
          · rw [List.length_append, lA]
            rfl
      · rintro σ H4 ⟨x2, x3, x5, A, rfl, z4, a4, tA, nA, eA, fA, lA⟩
        rw [bl] at eA lA
        rw [List.take_of_length_le (by rw [List.length_reverse]; show (List.map _ _).length ≤ _; rw [List.length_map]; exact Nat.le_refl _)] at eA
        refine ⟨.ref kp, rfl, kp, _, rfl, Evl.sq_of a4, fun p hp => ?_⟩
        have y5 : Evl.Ex H4 (upd H4 p (.lst (A.map fun r => V.ref r.1).reverse)) := Evl.Ex.new hp
        have p5 : (upd H4 p (.lst (A.map fun r => V.ref r.1).reverse)) p = some (.lst (A.reverse.map fun r => V.ref r.1)) := by rw [upd_same, List.map_reverse]
        generalize upd H4 p (.lst (A.map fun r => V.ref r.1).reverse) = H5 at y5 p5
        refine k p H5 A.reverse ((z2.trans z4).trans y5) (ex_none (z2.trans z4) hp) p5 (fun r hr => tA.to y5 r (List.mem_reverse.mp hr)) ?_ ⟨fun r hr => fA.mem r (List.mem_reverse.mp hr), fun r hr => fA.few r (List.mem_reverse.mp hr)⟩ (by rw [List.length_reverse, lA, lB])
        show List.map _ _ = _
        rw [List.map_reverse]
        show (stasOf A).reverse = _
        rw [eA, eB]
        rfl
end
end Rw
end T_E5

section T_EA
set_option Elab.async false
set_option linter.all false
set_option maxRecDepth 100000
set_option maxHeartbeats 4000000
namespace Rw
open PySem L2 PyProof.Rows
/-! ### stories, without the heap -/
/-- from each of a list's states on there is one of the next list -/
def Onw : List (List Sta) → Prop
  | a :: b :: r => (∀ s ∈ a, ∃ t ∈ b, folB s t = true) ∧ Onw (b :: r)
  | _ => True
theorem onw_cons {a : List Sta} {r : List (List Sta)} (h : Onw r) (g : ∀ b r', r = b :: r' → ∀ s ∈ a, ∃ t ∈ b, folB s t = true) : Onw (a :: r) := by
  cases r with
  | nil => trivial
  | cons b r' => exact ⟨g b r' rfl, h⟩
theorem kept_onw : ∀ (L : List (List Sta)) (acc : List (List Sta)), Onw acc.reverse → Onw (L.foldl keptStep acc).reverse
  | [], acc, h => h
  | ss :: L, acc, h => by
    refine kept_onw L _ ?_
    unfold keptStep
    rw [List.reverse_append]
    refine onw_cons h fun b r' e s hs => ?_
    have hs' := (List.mem_filter.mp hs).2
    have e0 : acc.reverse = b :: r' := e
    have e1 : acc = r'.reverse ++ [b] := by rw [← List.reverse_reverse acc, e0, List.reverse_cons]
    have e2 : acc.getLastD [] = b := by rw [e1, List.getLastD_concat]
    have e3 : acc.isEmpty = false := by rw [e1]; cases r'.reverse <;> rfl
    rw [e2, e3] at hs'
    obtain ⟨t, ht, f⟩ := List.any_eq_true.mp hs'
    exact ⟨t, ht, f⟩
theorem stories_onw (seen : List (List Sta)) : Onw (inStories seen) := kept_onw _ _ trivial
theorem onw_at : ∀ {L : List (List Sta)} {i : Nat} {a b : List Sta}, Onw L → L[i]? = some a → L[i + 1]? = some b → ∀ s ∈ a, ∃ t ∈ b, folB s t = true
  | [], i, a, b, _, h1, _ => by cases i <;> cases h1
  | [x], i, a, b, _, _, h2 => by cases i <;> cases h2
  | x :: y :: r, 0, a, b, h, h1, h2 => by
    injection h1 with h1
    injection h2 with h2
    rw [← h1, ← h2]
    exact h.1
  | x :: y :: r, i + 1, a, b, h, h1, h2 => onw_at (L := y :: r) h.2 h1 h2
/-- one of each list, each behind the one before -/
structure Story (seen : List (List Sta)) (ss : List Sta) : Prop where
  ln : ss.length = seen.length
  mem : ∀ (i : Nat) (l : List Sta) (s : Sta), seen[i]? = some l → ss[i]? = some s → s ∈ l
  fol : ∀ (i : Nat) (s t : Sta), ss[i]? = some s → ss[i + 1]? = some t → folB s t = true
theorem mem_snoc {seen : List (List Sta)} {X : List Sta} {l : List Sta} {s : Sta} (h : ∀ (j : Nat) (l : List Sta) (s : Sta), seen[j]? = some l → X[j]? = some s → s ∈ l) (g : seen[X.length]? = some l) (m : s ∈ l) :
    ∀ (j : Nat) (l : List Sta) (u : Sta), seen[j]? = some l → (X ++ [s])[j]? = some u → u ∈ l := fun j l' u h1 h2 => by
  by_cases c : j < X.length
  · rw [List.getElem?_append_left c] at h2
    exact h j l' u h1 h2
  · have hj := (List.getElem?_eq_some_iff.mp h2).1
    rw [List.length_append, List.length_singleton] at hj
    have e : j = X.length := by omega
    rw [e, List.getElem?_concat_length] at h2
    rw [e, g] at h1
    injection h1 with h1
    injection h2 with h2
    rw [← h1, ← h2]
    exact m
theorem fol_snoc {X : List Sta} {s : Sta} (h : ∀ (j : Nat) (s t : Sta), X[j]? = some s → X[j + 1]? = some t → folB s t = true) (g : ∀ u, X.getLast? = some u → folB u s = true) :
    ∀ (j : Nat) (a b : Sta), (X ++ [s])[j]? = some a → (X ++ [s])[j + 1]? = some b → folB a b = true := fun j a b h1 h2 => by
  by_cases c : j + 1 < X.length
  · rw [List.getElem?_append_left (by omega)] at h1
    rw [List.getElem?_append_left c] at h2
    exact h j a b h1 h2
  · have hj := (List.getElem?_eq_some_iff.mp h2).1
    rw [List.length_append, List.length_singleton] at hj
    have e : j + 1 = X.length := by omega
    rw [e, List.getElem?_concat_length] at h2
    injection h2 with h2
    rw [List.getElem?_append_left (by omega)] at h1
    rw [← h2]
    refine g a ?_
    rw [List.getLast?_eq_getElem?, ← h1]
    congr 1
    omega
end Rw
end T_EA

section T_LC
set_option Elab.async false
set_option linter.all false
set_option maxRecDepth 100000
set_option maxHeartbeats 4000000
namespace Rw
open PySem L2 PyProof.Rows
/-! ### comprehensions with two for -/
theorem lc2_out {J : It} {n : Nat} {G : Hp → Prop} {Y : Nat → Hp → V → Hp → Prop} (wk : Walk J n G Y) {g g1 : TG} {tt tt1 : TT} {te : TE} {wi1 : TI} {vs vs1 : List Nat} {σ : L2.St} {H1 : Hp} {D : Addr} {Qd : Hp → Prop} (Pv : Nat → Hp → Prop) (start : Pv 0 (upd H1 D (.lst []))) (hG : ∀ i H, i ≤ n → Pv i H → G H)
    (turn : ∀ i x H H', i < n → Pv i H → Y i H x H' → g x (wipe σ vs) H' fun σ2 H2 => wipe σ2 vs = wipe σ vs ∧ tt σ2 H2 fun b H3 => if b = true then wi1 σ2 H3 fun J1 H4 => ∃ W1 : Nat → Nat → Hp → Prop, (∃ m, W1 0 m H4) ∧ ∀ j k H, W1 j k H →
      (J1.stop j H ∧ Pv (i + 1) H) ∨ (J1.go j H ∧ ∃ Nx1 : Hp → Prop, (∀ H', Nx1 H' → ∃ k', k' < k ∧ W1 (j + 1) k' H') ∧ ∀ x H', J1.yld j H x H' → g1 x (wipe σ2 vs1) H' fun σ3 H5 => wipe σ3 vs1 = wipe σ2 vs1 ∧ tt1 σ3 H5 fun b H6 =>
        if b = true then te σ3 H6 fun y H7 => ∃ acc, H7 D = some (.lst acc) ∧ acc.length < sizeLine ∧ Nx1 (upd H7 D (.lst (acc ++ [y]))) else Nx1 H6) else Pv (i + 1) H3) (fin : ∀ H, Pv n H → Qd H) :
    ∃ W : Nat → Nat → Hp → Prop, (∃ m, W 0 m (upd H1 D (.lst []))) ∧ ∀ i m H, W i m H →
      (J.stop i H ∧ Qd H) ∨ (J.go i H ∧ ∃ Nx : Hp → Prop, (∀ H', Nx H' → ∃ m', m' < m ∧ W (i + 1) m' H') ∧ ∀ x H', J.yld i H x H' → g x (wipe σ vs) H' fun σ2 H2 => wipe σ2 vs = wipe σ vs ∧ tt σ2 H2 fun b H3 =>
        if b = true then wi1 σ2 H3 fun J1 H4 => ∃ W1 : Nat → Nat → Hp → Prop, (∃ m, W1 0 m H4) ∧ ∀ j k H, W1 j k H →
          (J1.stop j H ∧ Nx H) ∨ (J1.go j H ∧ ∃ Nx1 : Hp → Prop, (∀ H', Nx1 H' → ∃ k', k' < k ∧ W1 (j + 1) k' H') ∧ ∀ x H', J1.yld j H x H' → g1 x (wipe σ2 vs1) H' fun σ3 H5 => wipe σ3 vs1 = wipe σ2 vs1 ∧ tt1 σ3 H5 fun b H6 =>
            if b = true then te σ3 H6 fun y H7 => ∃ acc, H7 D = some (.lst acc) ∧ acc.length < sizeLine ∧ Nx1 (upd H7 D (.lst (acc ++ [y]))) else Nx1 H6)
        else Nx H3) := by
  refine ⟨fun i m H => m = n - i ∧ i ≤ n ∧ Pv i H, ⟨n, by simp, Nat.zero_le _, start⟩, ?_⟩
  rintro i m H ⟨rfl, hi, p⟩
  by_cases lt : i < n
  · exact .inr ⟨wk.goes i H lt (hG i H hi p), Pv (i + 1), fun H' p' => ⟨n - (i + 1), by omega, rfl, lt, p'⟩, fun x H' y => turn i x H H' lt p (wk.yields i H x H' lt (hG i H hi p) y)⟩
  · have e : i = n := by omega
    subst e
    exact .inl ⟨wk.stops H (hG _ H hi p), fin H p⟩
theorem lc2_in {J : It} {n : Nat} {G : Hp → Prop} {Y : Nat → Hp → V → Hp → Prop} (wk : Walk J n G Y) {g1 : TG} {tt1 : TT} {te : TE} {vs1 : List Nat} {σ : L2.St} {H4 : Hp} {D : Addr} {Nx : Hp → Prop} (Pv : Nat → Hp → Prop) (start : Pv 0 H4) (hG : ∀ i H, i ≤ n → Pv i H → G H)
    (turn : ∀ j x H H', j < n → Pv j H → Y j H x H' → g1 x (wipe σ vs1) H' fun σ3 H5 => wipe σ3 vs1 = wipe σ vs1 ∧ tt1 σ3 H5 fun b H6 =>
      if b = true then te σ3 H6 fun y H7 => ∃ acc, H7 D = some (.lst acc) ∧ acc.length < sizeLine ∧ Pv (j + 1) (upd H7 D (.lst (acc ++ [y]))) else Pv (j + 1) H6) (fin : ∀ H, Pv n H → Nx H) :
    ∃ W1 : Nat → Nat → Hp → Prop, (∃ m, W1 0 m H4) ∧ ∀ j k H, W1 j k H →
      (J.stop j H ∧ Nx H) ∨ (J.go j H ∧ ∃ Nx1 : Hp → Prop, (∀ H', Nx1 H' → ∃ k', k' < k ∧ W1 (j + 1) k' H') ∧ ∀ x H', J.yld j H x H' → g1 x (wipe σ vs1) H' fun σ3 H5 => wipe σ3 vs1 = wipe σ vs1 ∧ tt1 σ3 H5 fun b H6 =>
        if b = true then te σ3 H6 fun y H7 => ∃ acc, H7 D = some (.lst acc) ∧ acc.length < sizeLine ∧ Nx1 (upd H7 D (.lst (acc ++ [y]))) else Nx1 H6) := by
  refine ⟨fun j k H => k = n - j ∧ j ≤ n ∧ Pv j H, ⟨n, by simp, Nat.zero_le _, start⟩, ?_⟩
  rintro j k H ⟨rfl, hj, p⟩
  by_cases lt : j < n
  · exact .inr ⟨wk.goes j H lt (hG j H hj p), Pv (j + 1), fun H' p' => ⟨n - (j + 1), by omega, rfl, lt, p'⟩, fun x H' y => turn j x H H' lt p (wk.yields j H x H' lt (hG j H hj p) y)⟩
  · have e : j = n := by omega
    subst e
    exact .inl ⟨wk.stops H (hG _ H hj p), fin H p⟩
end Rw
end T_LC

section T_E6
set_option Elab.async false
set_option linter.all false
set_option maxRecDepth 100000
set_option maxHeartbeats 8000000
namespace Rw
open PySem L2 PyProof.Rows LamX
theorem allStas_mem {P : List (List Str)} {s : Sta} : s ∈ allStas P ↔ s.1 ≤ P.length ∧ s.2 ∈ partsS (lotOf P s.1) := by
  unfold allStas
  rw [List.mem_flatMap]
  constructor
  · rintro ⟨k, hk, hs⟩
    obtain ⟨B, hB, rfl⟩ := List.mem_map.mp hs
    exact ⟨by have := List.mem_range.mp hk; show k ≤ _; omega, hB⟩
  · rintro ⟨h1, h2⟩
    exact ⟨s.1, List.mem_range.mpr (by omega), List.mem_map.mpr ⟨s.2, h2, rfl⟩⟩
theorem allStas_sub {P : List (List Str)} {s : Sta} (h : s ∈ allStas P) : s.2.Sublist (lotOf P s.1) := partsS_sub (allStas_mem.mp h).2
theorem StasT.nt {H : Hp} {L : List StaR} (h : StasT H L) : StasT (nt H) L := fun q hq => ⟨nt_tup (h q hq).1, nt_tup (h q hq).2⟩
theorem StgsT.nt {H : Hp} {L : List Stg} (h : StgsT H L) : StgsT (nt H) L := fun q hq => ⟨nt_tup (h q hq).1, nt_tup (h q hq).2.1, nt_tup (h q hq).2.2⟩
theorem SigsT.nt {H : Hp} {L : List (Addr × Sig)} (h : SigsT H L) : SigsT (nt H) L := fun q hq => nt_tup (h q hq)
theorem StasT.mut {H : Hp} {L : List StaR} {p : Addr} {xs ys : List V} (h : StasT H L) (hp : H p = some (.lst xs)) : StasT (upd H p (.lst ys)) L := fun q hq =>
  ⟨by rw [upd_ne (ne_of (h q hq).1 hp (by intro z; cases z))]; exact (h q hq).1, by rw [upd_ne (ne_of (h q hq).2 hp (by intro z; cases z))]; exact (h q hq).2⟩
section
variable {P : Program} {w : World} {K : PySem.W.Frag} {mg : Str → Option Value} {base : Heap}
theorem SqR.nt {H : Hp} {a : Addr} {xs : List V} (h : SqR K H a xs) : SqR K (nt H) a xs := h.imp sql_nt sqt_nt
def spStatesSeen (K : PySem.W.Frag) (T : List (Addr × Str)) (C : Addr) : Sp := fun vs H Q _ => ∃ (m a sl : Addr) (L : List (Addr × List Str)) (S : List (Addr × Sig)) (ends dots ss ps : List Str) (o n : Str → List (Str × V)), vs = [.ref m, .ref a, .ref sl] ∧ NetAt C H m ends dots ss ps o n ∧ ModelOk ends dots ss ps ∧ SqR K H a (L.map fun q => V.ref q.1) ∧ RowsT H L ∧ PlanOk (moving ends dots o n) (L.map (·.2)) ∧ SqR K H sl (S.map fun q => V.ref q.1) ∧ SigsT H S ∧ (∀ q ∈ S, SigOk ends dots q.2) ∧ S.length ≤ 12 ∧ Tabs T H ∧
  ∀ (p : Addr) (H' : Hp) (A : List (Addr × List StaR)), Evl.Ex (nt H) (nt H') → Tabs T H' → H' p = some (.lst (A.map fun r => V.ref r.1)) → ListsT H' A → stasOf A = seenStas (L.map (·.2)) o n (S.map (·.2)) → A.length = S.length → (∀ r ∈ A, r.2.length ≤ 500) → (∀ r ∈ A, ∀ q ∈ r.2, q.B.length ≤ 6) → Q (.ref p) H'
abbrev nSeen : List Str := ["net", "plan", "sights", "rounds", "states", "stage", "changed", "sight", "state"]
abbrev scSs : Scope := { kind := .function, names := [(".0", .local), ("sight", .cell), ("net", .cell), ("rounds", .cell), ("states", .cell)], isGenerator := false, isCoroutine := false }
theorem sc_seen : FnScope nSeen ["net", "plan", "sights"] (defScope p_states_seen) := ⟨rfl, rfl, rfl, by decide +kernel, rfl, by decide +kernel, by decide +kernel⟩
theorem ok_seen {f C : Addr} {fd : FuncData} {T : List (Addr × Str)} (F : Fun K "states_seen" "states_seen" p_states_seen f fd) (C1 : Cal P w K mg base 2 "stages_of" ["plan"] (spStages K)) (C2 : Cal P w K mg base 5 "parts_of" ["lot"] (spParts (K := K) T)) (C3 : Cal P w K mg base 5 "is_seen_in" ["net", "rounds", "sight", "state"] (spSeenIn K C))
    (mRange : mg "range" = none) (mLen : mg "len" = none) : FnOk P w K mg base CX0 6 f fd ["net", "plan", "sights"] (spStatesSeen K T C) := by
  obtain ⟨f1, fd1, F1, k1, b1, g1⟩ := C1.ex
  obtain ⟨f2, fd2, F2, k2, b2, g2⟩ := C2.ex
  obtain ⟨f3, fd3, F3, k3, b3, g3⟩ := C3.ex
  refine F.ok sc_seen (fun vs H Q E h => ?_) (fun cdv A outer s H vs Q E hr h => ?_)
  · obtain ⟨m, a, sl, L, S, ends, dots, ss, ps, o, n, rfl, _⟩ := h
    rfl
  · obtain ⟨m, a, sl, L, S, ends, dots, ss, ps, o, n, rfl, N, ok, hS, tL, pk, hsl, tS, okS, s12, hT, k⟩ := h
    have nd := sc_seen.nd
    refine ⟨_, pss_cons (ps_set (i := 3) nd rfl (.inr rfl) (pe_call F1 (hr.mono (by decide)) rfl g1 k1 b1 .nil pass0 (pa_cons (pv 1) pa_nil)))
      (pss_cons (ps_set (i := 4) nd rfl (.inr rfl)
        (pe_lc2 (own := [("stage", 5), ("changed", 6)]) (vs1 := [6]) (g := gName 5) (tt := tYes) (g1 := gName 6) (tt1 := tYes) (wi1 := iList K (tCall (spParts (K := K) T) [] E0 (tCons (tOp (rIxT K) (tOp (rIxL K) (tVar 3) (tVar 5)) (tC (.int 1))) tNil))) (te := tTup (tCons (tVar 5) (tCons (tVar 6) tNil))) rfl nd (pi_range1 (by rfl) mRange (pa_cons (pe_callB call_len (by rfl) mLen PySem.boot_len (pa_cons (pv 3) pa_nil)) pa_nil)) (blkOk_by (own := [("stage", 5), ("changed", 6)]) (N := nSeen) (sc := defScope p_states_seen) (by decide +kernel)) (by decide)
            (fun _ _ _ _ _ => pg_name (i := 5) nd rfl (Or.inl rfl)) (fun _ _ _ _ _ => pts_nil) (fun _ _ _ _ _ => pi_list (pe_call F2 hr rfl g2 k2 b2 .nil pass0 (pa_cons (pe_ix ix_tup (pe_ix ix_list (pv 3) (pv 5) (fun _ _ => rfl)) pe_int (fun _ _ => rfl)) pa_nil)))
            (fun _ _ _ _ _ => pg_name (i := 6) nd rfl (Or.inl rfl)) (fun _ _ _ _ _ => pts_nil) (fun _ _ _ _ _ => pe_tup (pa_cons (pv 5) (pa_cons (pv 6) pa_nil)))))
      (pss_one (ps_ret
        (pe_lc (own := [("sight", 7)]) (g := gName 7) (tt := tYes) (te := tLc (iList K (tVar 4)) (gName 8) (tB (tCall (spSeenIn K C) [] E0 (tCons (tVar 0) (tCons (tVar 3) (tCons (tVar 7) (tCons (tVar 8) tNil)))))) (tVar 8) [8]) rfl nd (pi_seqR (pv 2)) (blkOk_by (own := [("sight", 7)]) (N := nSeen) (sc := defScope p_states_seen) (by decide +kernel))
          (fun _ _ _ _ _ => pg_name (i := 7) nd rfl (Or.inr rfl)) (fun _ _ _ _ _ => pts_nil)
          (fun _ _ _ _ _ => pe_lc (own := [("state", 8)]) (g := gName 8) (tt := tB (tCall (spSeenIn K C) [] E0 (tCons (tVar 0) (tCons (tVar 3) (tCons (tVar 7) (tCons (tVar 8) tNil)))))) (te := tVar 8) rfl nd (pi_list (pv 4)) (by
              have q : ∀ {sc : Scope}, blkC nSeen scSs sc [("state", 8)] = true → BlkOk nSeen scSs sc [("state", 8)] := fun h => blkOk_by h
              refine q ?_
              decide +kernel)
            (fun _ _ _ _ _ => pg_name (i := 8) nd rfl (Or.inl rfl)) (fun _ _ _ _ _ => pts_one (pt_val (pe_call F3 hr rfl g3 k3 b3 .nil pass0 (pa_cons (pv 0) (pa_cons (pv 3) (pa_cons (pv 7) (pa_cons (pv 8) pa_nil))))))) (fun _ _ _ _ _ => pv 8)))))), ?_⟩
    obtain ⟨Pl, hPl⟩ : ∃ Pl, Pl = L.map (·.2) := ⟨_, rfl⟩
    rw [← hPl] at pk k
    have l6 := pk.l6
    have p6 := pk.p6
    have pL : L.length ≤ 6 := by rw [hPl, List.length_map] at p6; exact p6
    refine ⟨.ref a, rfl, a, L, rfl, hS, tL, by rw [← hPl]; exact l6, pL, fun rl H1 M x1 _ hrl tM aM => ?_⟩
    rw [← hPl] at aM
    have T1 : Tabs T H1 := hT.ext x1
    have Ml : M.length ≤ 7 := by rw [aM.1]; omega
    refine ⟨.ref rl, rfl, .ref rl, M.length, rfl, .inl ⟨_, Evl.sq_of hrl, by rw [List.length_map]⟩, (M.length : Int), rfl, by omega, by omega, fun D hD => lc2_out walk_range
      (fun i H' => Evl.Ex (nt H1) (nt H') ∧ Tabs T H' ∧ ∃ L2 : List StaR, H' D = some (.lst (refsS L2)) ∧ StasT H' L2 ∧ L2.map StaR.st = (List.range i).flatMap (fun k => (partsS (lotOf Pl k)).map fun B => (k, B)) ∧ L2.length ≤ 64 * i)
      ⟨nt_new hD, T1.ext (Evl.Ex.new hD), [], upd_same, (fun q hq => nomatch hq), rfl, Nat.le_refl _⟩ (fun _ _ _ _ => trivial) ?_ ?_⟩
    · rintro i v H2' H2 hi ⟨x2, T2, L2, d2, t2, e2, l2⟩ ⟨rfl, hv⟩
      have hv' : v = .int (i : Int) := by rw [hv]; show V.int (0 + (i : Int)) = _; rw [Int.zero_add]
      subst hv'
      rw [Int.toNat_natCast] at hi
      have iM : i < M.length := by omega
      have gi : M[i]? = some M[i] := List.getElem?_eq_getElem iM
      obtain ⟨g, hg⟩ : ∃ g, g = M[i] := ⟨_, rfl⟩
      rw [← hg] at gi
      have mg' := List.mem_of_getElem? gi
      obtain ⟨a1, a2, a3⟩ := aM.2 _ _ gi
      have y2 : Evl.Ex (nt H1) H2 := x2.trans (ex_nt H2)
      obtain ⟨q1, q2, q3⟩ := tM.nt.to y2 g mg'
      have gl6 : g.ys.length ≤ 6 := by rw [a1]; exact Nat.le_trans (lot_sub i).length_le l6
      refine ⟨rfl, yes_if ?_⟩
      refine ⟨.ref rl, rfl, .int (i : Int), rfl, rl, _, (i : Int), .ref g.a, rfl, rfl, Evl.sq_of (y2 _ _ (nt_lst hrl)), atI_nat (by rw [List.getElem?_map, gi]; rfl), g.a, _, 1, .ref g.l, rfl, rfl, Evl.st_of q1, atI_nat (j := 1) rfl, g.l, g.ys, rfl, Evl.st_of q3, gl6, T2, fun p H3 L3 x3 T3 hp tL3 pL3 sL3 => ?_⟩
      have eL3 : L3.map (·.2) = partsS (lotOf Pl i) := by rw [← a1]; exact partsS_is pL3 sL3
      have l3 : L3.length ≤ 64 := by
        have := congrArg List.length eL3
        rw [List.length_map] at this
        rw [this]
        exact partsS_len (Nat.le_trans (lot_sub i).length_le l6)
      have l30 : 0 < L3.length := by
        have h1 : ([] : List Str) ∈ L3.map (·.2) := by rw [eL3]; exact partsS_has (List.nil_sublist _)
        obtain ⟨q, hq, _⟩ := List.mem_map.mp h1
        exact List.length_pos_of_mem hq
      have d3 : H3 D = some (.lst (refsS L2)) := (nt_some (x3 _ _ (nt_lst d2))).1
      have t3 : StasT H3 L2 := t2.nt.to (x3.trans (ex_nt H3))
      have npD : p ≠ D := fun z => by
        rw [z, d3] at hp
        injection hp with hp
        injection hp with hp
        obtain ⟨q, hq⟩ : ∃ q, L3[0]? = some q := ⟨_, List.getElem?_eq_getElem l30⟩
        have h1 : (refsS L2)[0]? = some (V.ref q.1) := by rw [hp, List.getElem?_map, hq]; rfl
        obtain ⟨r, hr', er⟩ := map_at h1
        injection er with er
        have h2 := tL3 q (List.mem_of_getElem? hq)
        rw [er, (t3 r (List.mem_of_getElem? hr')).1] at h2
        injection h2 with h2
        injection h2 with h2
        cases hz : q.2 with
        | nil => rw [hz] at h2; cases h2
        | cons z' zs' => rw [hz] at h2; cases h2
      refine ⟨p, rfl, ⟨_, Evl.sq_of hp⟩, lc2_in (walk_list (xs := L3.map fun q => V.ref q.1))
        (fun j H8 => Evl.Ex (nt H1) (nt H8) ∧ Tabs T H8 ∧ H8 p = some (.lst (L3.map fun q => V.ref q.1)) ∧ RowsT H8 L3 ∧ ∃ L4 : List StaR, H8 D = some (.lst (refsS L4)) ∧ StasT H8 L4 ∧ L4.map StaR.st = L2.map StaR.st ++ ((L3.map (·.2)).take j).map (fun B => (i, B)) ∧ L4.length ≤ 64 * i + j)
        ⟨x2.trans x3, T3, hp, tL3, L2, d3, t3, by rw [List.take_zero]; exact (List.append_nil _).symm, l2⟩ (fun j H8 _ h => Evl.sq_of h.2.2.1) ?_ ?_⟩
      · rintro j v H9 H8 hj ⟨x8, T8, p8, tL8, L4, d8, t8, e8, l8⟩ ⟨rfl, hv⟩
        obtain ⟨q, hq, rfl⟩ := rowsT_at hv
        rw [List.length_map] at hj
        have mq := List.mem_of_getElem? hq
        refine ⟨rfl, yes_if ?_⟩
        refine ⟨.int (i : Int), rfl, .ref q.1, rfl, by show 2 ≤ sizeLine; decide, fun t ht => ?_⟩
        have y9 : Evl.Ex H8 (upd H8 t (.tup [.int (i : Int), .ref q.1])) := Evl.Ex.new ht
        have t9 : (upd H8 t (.tup [.int (i : Int), .ref q.1])) t = some (.tup [.int (i : Int), .ref q.1]) := upd_same
        generalize upd H8 t (.tup [.int (i : Int), .ref q.1]) = H9 at y9 t9
        have d9 := y9 _ _ d8
        have tL9 := tL8.to y9
        refine ⟨_, d9, by rw [List.length_map]; exact small1000 (by omega), nt_mutL (x8.trans (nt_ex y9)) hD, tabs_mutL (T8.ext y9) d9, by rw [upd_ne npD]; exact y9 _ _ p8, tL9.mut d9, L4 ++ [(⟨t, q.1, i, q.2⟩ : StaR)], ?_, ?_, ?_, ?_⟩
        · rw [upd_same]
          show _ = some (HO.lst (List.map _ _))
          rw [List.map_append]
          rfl
        · refine StasT.mut (xs := refsS L4) (fun r hr' => ?_) d9
          rcases List.mem_append.mp hr' with hr' | hr'
          · exact t8.to y9 r hr'
          · rw [List.mem_singleton.mp hr']
            exact ⟨t9, tL9 q mq⟩
        · rw [List.map_append, e8, List.take_add_one, List.getElem?_map, hq, List.map_append, List.append_assoc]
          rfl
        · rw [List.length_append]
          show L4.length + 1 ≤ _
          omega
      · rintro H8 ⟨x8, T8, p8, tL8, L4, d8, t8, e8, l8⟩
        rw [List.length_map] at e8 l8
        rw [List.take_of_length_le (by rw [List.length_map]; exact Nat.le_refl _), eL3] at e8
        refine ⟨x8, T8, L4, d8, t8, ?_, by omega⟩
        rw [e8, e2, List.range_succ, List.flatMap_append, List.flatMap_singleton]
    · rintro H2 ⟨x2, T2, L2, d2, t2, e2, l2⟩
      rw [Int.toNat_natCast] at e2 l2
      have eA : L2.map StaR.st = allStas Pl := by rw [e2, aM.1]; rfl
      have in2 : ∀ q ∈ L2, q.k ≤ Pl.length ∧ q.B.length ≤ 6 := fun q hq => by
        have h1 : q.st ∈ allStas Pl := by rw [← eA]; exact List.mem_map_of_mem hq
        exact ⟨(allStas_mem.mp h1).1, Nat.le_trans (allStas_sub h1).length_le (Nat.le_trans (lot_sub _).length_le l6)⟩
      have y2 : Evl.Ex (nt H1) H2 := x2.trans (ex_nt H2)
      have z2 : Evl.Ex (nt H) H2 := (nt_ex x1).trans y2
      have N2 := N.nt.to z2
      have hsl2 := hsl.nt.ex z2
      obtain ⟨J, G, kind, wk, gx⟩ := hsl2.seq
      have tS2 := tS.nt.to z2
      have rl2 := y2 _ _ (nt_lst hrl)
      have tM2 := tM.nt.to y2
      have l448 : L2.length ≤ 448 := by omega
      refine ⟨.ref sl, rfl, sl, J, rfl, kind, fun D3 hD3 => lc_it wk
        (fun i H' => Evl.Ex H2 H' ∧ ∃ A : List (Addr × List StaR), H' D3 = some (.lst (A.map fun r => V.ref r.1)) ∧ ListsT H' A ∧ (∀ r ∈ A, r.1 ≠ D3) ∧ stasOf A = ((S.take i).map (·.2)).map (fun s => (allStas Pl).filter (seenB Pl o n s)) ∧ A.length = i ∧ (∀ r ∈ A, ∀ q ∈ r.2, q ∈ L2) ∧ (∀ r ∈ A, r.2.length ≤ 448))
        ⟨Evl.Ex.new hD3, [], upd_same, (fun r hr => nomatch hr), (fun r hr => nomatch hr), rfl, rfl, (fun r hr => nomatch hr), (fun r hr => nomatch hr)⟩ (fun i H' _ h => gx _ h.1) ?_ ?_⟩
      · rintro i v H3' H3 hi0 ⟨x3, A, d3, tA, nA, eS, lA, fA, gA⟩ ⟨rfl, hi⟩
        obtain ⟨sg, hsg, rfl⟩ := map_at hi
        have msg := List.mem_of_getElem? hsg
        have il := (List.getElem?_eq_some_iff.mp hsg).1
        refine ⟨rfl, yes_if ?_⟩
        have D3D := x3 _ _ d2
        refine ⟨.ref D, rfl, D, rfl, ⟨_, Evl.sq_of D3D⟩, fun D4 hD4 => lc_list (K := K) (a := D) (xs := refsS L2)
          (fun j H' => Evl.Ex H3 H' ∧ H' D4 = some (.lst (refsS ((L2.take j).filter fun q => seenB Pl o n sg.2 q.st)))) ⟨Evl.Ex.new hD4, upd_same⟩ (fun j H' _ h => Evl.sq_of (h.1 _ _ D3D)) ?_ ?_⟩
        · rintro j v H4 hj ⟨x4, d4⟩
          obtain ⟨q, hq, rfl⟩ := map_at hj
          have mq := List.mem_of_getElem? hq
          have x34 := x3.trans x4
          have fl : ((L2.take j).filter fun q => seenB Pl o n sg.2 q.st).length ≤ 448 := Nat.le_trans (List.length_filter_le _ _) (by rw [List.length_take]; omega)
          refine ⟨rfl, .ref m, rfl, .ref rl, rfl, .ref sg.1, rfl, .ref q.a, rfl, m, rl, sg.1, M, Pl, sg.2, q, ends, dots, ss, ps, o, n, rfl, N2.to x34, ok, Evl.sq_of (x34 _ _ rl2), tM2.to x34, aM, l6, x34 _ _ (tS2 sg msg), okS sg msg, ⟨x34 _ _ (t2 q mq).1, x34 _ _ (t2 q mq).2⟩, (in2 q mq).1, (in2 q mq).2, fun H5 x5 => ⟨_, rfl, ?_⟩⟩
          cases hb : seenB Pl o n sg.2 q.st with
          | true =>
            refine iteT ⟨.ref q.a, rfl, _, x5 _ _ d4, by rw [List.length_map]; exact small1000 (by omega), (x4.trans x5).mut hD4, ?_⟩
            rw [upd_same, List.take_add_one, hq, List.filter_append]
            show _ = some (HO.lst (List.map _ (_ ++ List.filter _ [q])))
            rw [List.filter_cons_of_pos (by exact hb), List.filter_nil, List.map_append]
            rfl
          | false =>
            refine iteF ⟨x4.trans x5, ?_⟩
            rw [x5 _ _ d4, List.take_add_one, hq, List.filter_append]
            show _ = some (HO.lst (List.map _ (_ ++ List.filter _ [q])))
            rw [List.filter_cons_of_neg (by rw [hb]; decide), List.filter_nil, List.append_nil]
        · rintro H4 ⟨x4, d4⟩
          rw [List.length_map, List.take_length] at d4
          have nD : D4 ≠ D3 := (ne_of_none d3 hD4).symm
          have d34 := x4 _ _ d3
          refine ⟨_, d34, by rw [List.length_map]; exact small1000 (by omega), (x3.trans x4).mut hD3, A ++ [(D4, L2.filter fun q => seenB Pl o n sg.2 q.st)], ?_, fun r' hr' => ?_, fun r' hr' => ?_, ?_, ?_, fun r' hr' => ?_, fun r' hr' => ?_⟩
          · rw [upd_same, List.map_append]
            rfl
          · rcases List.mem_append.mp hr' with hr' | hr'
            · have nr := nA r' hr'
              obtain ⟨h1, h2⟩ := tA r' hr'
              exact ⟨by rw [upd_ne nr]; exact x4 _ _ h1, (h2.to x4).mut d34⟩
            · rw [List.mem_singleton.mp hr']
              refine ⟨by rw [upd_ne nD]; exact d4, StasT.mut (fun q hq => ?_) d34⟩
              exact (t2.to (x3.trans x4)) q (List.mem_filter.mp hq).1
          · rcases List.mem_append.mp hr' with hr' | hr'
            · exact nA r' hr'
            · rw [List.mem_singleton.mp hr']
              exact nD
          · show List.map _ _ = _
            rw [List.map_append, List.take_add_one, hsg, List.map_append, List.map_append]
            show stasOf A ++ [(L2.filter fun q => seenB Pl o n sg.2 q.st).map StaR.st] = _
            have ef : (L2.filter fun q => seenB Pl o n sg.2 q.st).map StaR.st = (L2.map StaR.st).filter (seenB Pl o n sg.2) := by rw [List.filter_map]; rfl
            rw [eS, ← eA, ef]
            rfl
          · rw [List.length_append, lA]
            rfl
          · rcases List.mem_append.mp hr' with hr' | hr'
            · exact fA r' hr'
            · rw [List.mem_singleton.mp hr']
              exact fun q hq => (List.mem_filter.mp hq).1
          · rcases List.mem_append.mp hr' with hr' | hr'
            · exact gA r' hr'
            · rw [List.mem_singleton.mp hr']
              exact Nat.le_trans (List.length_filter_le _ _) l448
      · rintro H3 ⟨x3, A, d3, tA, nA, eS, lA, fA, gA⟩
        rw [List.length_map] at eS lA
        rw [List.take_length] at eS
        exact k D3 H3 A ((nt_ex x1).trans (x2.trans (nt_ex x3))) (T2.ext x3) d3 tA eS lA (fun r hr => Nat.le_trans (gA r hr) (by decide)) (fun r hr q hq => (in2 q (fA r hr q hq)).2)
end
end Rw
end T_E6

section T_EB
set_option Elab.async false
set_option linter.all false
set_option maxRecDepth 100000
set_option maxHeartbeats 4000000
namespace Rw
open PySem L2 PyProof.Rows
/-! ### which rows of states have a story -/
def stepG (R : Sta → Sta → Bool) (acc : List (List Sta)) (ss : List Sta) : List (List Sta) := acc ++ [ss.filter fun t => acc.isEmpty || (acc.getLastD []).any fun s => R s t]
def StoryL (R : Sta → Sta → Bool) : List (List Sta) → List Sta → Prop
  | [], [] => True
  | l :: L, s :: ss => s ∈ l ∧ (∀ t, ss.head? = some t → R s t = true) ∧ StoryL R L ss
  | _, _ => False
theorem storyL_snoc {R : Sta → Sta → Bool} {l : List Sta} {s : Sta} (m : s ∈ l) : ∀ {L : List (List Sta)} {ss : List Sta}, StoryL R L ss → (∀ u, ss.getLast? = some u → R u s = true) → StoryL R (L ++ [l]) (ss ++ [s])
  | [], [], _, _ => ⟨m, (fun t h => by cases h), trivial⟩
  | [], _ :: _, h, _ => h.elim
  | _ :: _, [], h, _ => h.elim
  | x :: L, t :: ss, ⟨h1, h2, h3⟩, g => by
    refine ⟨h1, fun u hu => ?_, storyL_snoc m h3 fun u hu => g u ?_⟩
    · cases ss with
      | nil => injection hu with hu; rw [← hu]; exact g t rfl
      | cons y ys => exact h2 u hu
    · cases ss with
      | nil => cases hu
      | cons y ys => rw [List.getLast?_cons_cons]; exact hu
theorem storyL_rev {R : Sta → Sta → Bool} : ∀ {L : List (List Sta)} {ss : List Sta}, StoryL R L ss → StoryL (fun a b => R b a) L.reverse ss.reverse
  | [], [], _ => trivial
  | [], _ :: _, h => h.elim
  | _ :: _, [], h => h.elim
  | x :: L, t :: ss, ⟨h1, h2, h3⟩ => by
    rw [List.reverse_cons, List.reverse_cons]
    exact storyL_snoc h1 (storyL_rev h3) fun u hu => h2 u (by rw [List.getLast?_reverse] at hu; exact hu)
theorem stepG_story {R : Sta → Sta → Bool} : ∀ (L : List (List Sta)) (ss : List Sta) (acc : List (List Sta)), StoryL R L ss → (acc = [] ∨ ∃ s0 ∈ acc.getLastD [], ∀ t, ss.head? = some t → R s0 t = true) →
    ∃ A, L.foldl (stepG R) acc = acc ++ A ∧ StoryL R A ss
  | [], [], acc, _, _ => ⟨[], (List.append_nil _).symm, trivial⟩
  | [], _ :: _, _, h, _ => h.elim
  | _ :: _, [], _, h, _ => h.elim
  | x :: L, t :: ss, acc, ⟨h1, h2, h3⟩, g => by
    obtain ⟨y, hy⟩ : ∃ y, y = x.filter fun t => acc.isEmpty || (acc.getLastD []).any fun s => R s t := ⟨_, rfl⟩
    have ty : t ∈ y := by
      rw [hy]
      refine List.mem_filter.mpr ⟨h1, ?_⟩
      rcases g with rfl | ⟨s0, m0, f0⟩
      · rfl
      · show (acc.isEmpty || (acc.getLastD []).any fun s => R s t) = true
        rw [Bool.or_eq_true]
        exact .inr (List.any_eq_true.mpr ⟨s0, m0, f0 t rfl⟩)
    have e0 : stepG R acc x = acc ++ [y] := by rw [hy]; rfl
    obtain ⟨A, e, hA⟩ := stepG_story L ss (acc ++ [y]) h3 (.inr ⟨t, by rw [List.getLastD_concat]; exact ty, h2⟩)
    refine ⟨y :: A, ?_, ty, h2, hA⟩
    rw [List.foldl_cons, e0, e, List.append_assoc]
    rfl
def SubL : List (List Sta) → List (List Sta) → Prop
  | [], [] => True
  | a :: A, l :: L => (∀ s ∈ a, s ∈ l) ∧ SubL A L
  | _, _ => False
theorem subL_snoc {a l : List Sta} (h : ∀ s ∈ a, s ∈ l) : ∀ {A L : List (List Sta)}, SubL A L → SubL (A ++ [a]) (L ++ [l])
  | [], [], _ => ⟨h, trivial⟩
  | [], _ :: _, g => g.elim
  | _ :: _, [], g => g.elim
  | x :: A, y :: L, ⟨g1, g2⟩ => ⟨g1, subL_snoc h g2⟩
theorem subL_rev : ∀ {A L : List (List Sta)}, SubL A L → SubL A.reverse L.reverse
  | [], [], _ => trivial
  | [], _ :: _, g => g.elim
  | _ :: _, [], g => g.elim
  | x :: A, y :: L, ⟨g1, g2⟩ => by
    rw [List.reverse_cons, List.reverse_cons]
    exact subL_snoc g1 (subL_rev g2)
theorem subL_trans : ∀ {A B C : List (List Sta)}, SubL A B → SubL B C → SubL A C
  | [], [], [], _, _ => trivial
  | [], [], _ :: _, _, h => h.elim
  | [], _ :: _, _, h, _ => h.elim
  | _ :: _, [], _, h, _ => h.elim
  | _ :: _, _ :: _, [], _, h => h.elim
  | a :: A, b :: B, c :: C, ⟨h1, h2⟩, ⟨g1, g2⟩ => ⟨fun s hs => g1 s (h1 s hs), subL_trans h2 g2⟩
theorem stepG_sub {R : Sta → Sta → Bool} : ∀ (L : List (List Sta)) (acc : List (List Sta)), ∃ A, L.foldl (stepG R) acc = acc ++ A ∧ SubL A L
  | [], acc => ⟨[], (List.append_nil _).symm, trivial⟩
  | x :: L, acc => by
    obtain ⟨A, e, hA⟩ := stepG_sub (R := R) L (stepG R acc x)
    refine ⟨(x.filter fun t => acc.isEmpty || (acc.getLastD []).any fun s => R s t) :: A, ?_, fun s hs => (List.mem_filter.mp hs).1, hA⟩
    · rw [List.foldl_cons, e]
      unfold stepG
      rw [List.append_assoc]
      rfl
theorem storyL_sub {R : Sta → Sta → Bool} : ∀ {A L : List (List Sta)} {ss : List Sta}, StoryL R A ss → SubL A L → StoryL R L ss
  | [], [], [], _, _ => trivial
  | [], [], _ :: _, h, _ => h.elim
  | [], _ :: _, _, _, h => h.elim
  | _ :: _, [], _, _, h => h.elim
  | _ :: _, _ :: _, [], h, _ => h.elim
  | a :: A, l :: L, s :: ss, ⟨h1, h2, h3⟩, ⟨g1, g2⟩ => ⟨g1 s h1, h2, storyL_sub h3 g2⟩
theorem ahead_is (seen : List (List Sta)) : aheadOfS seen = seen.foldl (stepG folB) [] := rfl
theorem inStories_is (seen : List (List Sta)) : inStories seen = ((aheadOfS seen).reverse.foldl (stepG fun a b => folB b a) []).reverse := rfl
theorem inStories_sub (seen : List (List Sta)) : SubL (inStories seen) seen := by
  obtain ⟨A, e, hA⟩ := stepG_sub (R := folB) seen []
  obtain ⟨B, e2, hB⟩ := stepG_sub (R := fun a b => folB b a) (aheadOfS seen).reverse []
  rw [List.nil_append] at e e2
  rw [inStories_is, e2]
  have h1 := subL_rev hB
  rw [List.reverse_reverse] at h1
  refine subL_trans h1 ?_
  rw [ahead_is, e]
  exact hA
theorem storyL_full : ∀ {R : Sta → Sta → Bool} {L : List (List Sta)} {ss : List Sta}, StoryL R L ss → ∀ l ∈ L, l ≠ []
  | R, [], [], _ => fun l h => by cases h
  | R, [], _ :: _, h => h.elim
  | R, _ :: _, [], h => h.elim
  | R, x :: L, t :: ss, ⟨h1, h2, h3⟩ => fun l hl => by
    rcases List.mem_cons.mp hl with rfl | hl
    · exact List.ne_nil_of_mem h1
    · exact storyL_full h3 l hl
theorem onw_story : ∀ (K : List (List Sta)) (l : List Sta), Onw (l :: K) → (∀ x ∈ l :: K, x ≠ []) → ∀ s ∈ l, ∃ ss, StoryL folB (l :: K) (s :: ss)
  | [], l, _, _, s, hs => ⟨[], hs, (fun t h => by cases h), trivial⟩
  | b :: K, l, h, ne, s, hs => by
    obtain ⟨t, ht, f⟩ := h.1 s hs
    obtain ⟨ss, g⟩ := onw_story K b h.2 (fun x hx => ne x (List.mem_cons_of_mem _ hx)) t ht
    exact ⟨t :: ss, hs, (fun u hu => by injection hu with hu; rw [← hu]; exact f), g⟩
theorem full_iff (seen : List (List Sta)) : fullB (inStories seen) = true ↔ ∃ ss, StoryL folB seen ss := by
  constructor
  · intro h
    have ne : ∀ l ∈ inStories seen, l ≠ [] := fun l hl z => by
      have := List.all_eq_true.mp h l hl
      rw [z] at this
      cases this
    have key : ∃ ss, StoryL folB (inStories seen) ss := by
      have on := stories_onw seen
      cases e : inStories seen with
      | nil => exact ⟨[], trivial⟩
      | cons l K =>
        rw [e] at on ne
        obtain ⟨s, hs⟩ := List.exists_mem_of_ne_nil _ (ne l List.mem_cons_self)
        obtain ⟨ss, g⟩ := onw_story K l on ne s hs
        exact ⟨_, g⟩
    obtain ⟨ss, g⟩ := key
    exact ⟨ss, storyL_sub g (inStories_sub seen)⟩
  · rintro ⟨ss, h⟩
    obtain ⟨A, e, hA⟩ := stepG_story seen ss [] h (.inl rfl)
    rw [List.nil_append] at e
    obtain ⟨B, e2, hB⟩ := stepG_story A.reverse ss.reverse [] (storyL_rev hA) (.inl rfl)
    rw [List.nil_append] at e2
    have e3 : inStories seen = B.reverse := by rw [inStories_is, ahead_is, e, e2]
    rw [e3]
    unfold fullB
    refine List.all_eq_true.mpr fun l hl => ?_
    have := storyL_full hB l (List.mem_reverse.mp hl)
    cases l with
    | nil => exact absurd rfl this
    | cons _ _ => rfl
end Rw
end T_EB

section T_EC
set_option Elab.async false
set_option linter.all false
set_option maxRecDepth 100000
set_option maxHeartbeats 4000000
namespace Rw
open PySem L2 PyProof.Rows
/-! ### which sights fit -/
/-- the round in which a node changes (how many rounds there are, if in none) -/
def rdOf (P : List (List Str)) (z : Str) : Nat := P.findIdx fun l => decide (z ∈ l)
theorem rd_lt {P : List (List Str)} {z : Str} (h : z ∈ P.flatten) : rdOf P z < P.length := by
  obtain ⟨l, hl, hz⟩ := List.mem_flatten.mp h
  exact List.findIdx_lt_length_of_exists ⟨l, hl, decide_eq_true hz⟩
theorem rd_le {P : List (List Str)} {z : Str} {k : Nat} (h : z ∈ lotOf P k) : rdOf P z ≤ k := by
  unfold lotOf at h
  cases e : P[k]? with
  | none => rw [e] at h; cases h
  | some l =>
    rw [e] at h
    obtain ⟨hk, el⟩ := List.getElem?_eq_some_iff.mp e
    by_cases c : k < rdOf P z
    · have := List.not_of_lt_findIdx (p := fun l => decide (z ∈ l)) (xs := P) c
      rw [decide_eq_false_iff_not] at this
      exact absurd (by rw [el]; exact h) this
    · omega
theorem rd_in {P : List (List Str)} {z : Str} (h : rdOf P z < P.length) : z ∈ lotOf P (rdOf P z) := by
  unfold lotOf
  rw [List.getElem?_eq_getElem h]
  have := List.findIdx_getElem (p := fun l => decide (z ∈ l)) (xs := P) (w := h)
  exact of_decide_eq_true this
theorem mem_done {P : List (List Str)} {z : Str} {k : Nat} (hk : k ≤ P.length) : z ∈ doneOf P k ↔ rdOf P z < k := by
  unfold doneOf
  constructor
  · intro h
    obtain ⟨l, hl, hz⟩ := List.mem_flatten.mp h
    obtain ⟨i, hi, e⟩ := List.getElem_of_mem hl
    rw [List.length_take] at hi
    rw [List.getElem_take] at e
    have h1 : rdOf P z ≤ i := rd_le (k := i) (by unfold lotOf; rw [List.getElem?_eq_getElem (by omega), e]; exact hz)
    omega
  · intro h
    have h1 := rd_in (P := P) (z := z) (by omega)
    refine List.mem_flatten.mpr ⟨lotOf P (rdOf P z), ?_, h1⟩
    unfold lotOf
    rw [List.getElem?_eq_getElem (by omega)]
    exact List.mem_take_iff_getElem.mpr ⟨rdOf P z, by omega, rfl⟩
theorem mem_lot {P : List (List Str)} (nd : P.flatten.Nodup) {z : Str} {k : Nat} (h : z ∈ lotOf P k) : rdOf P z = k := by
  have h1 := rd_le h
  have hk : k < P.length := by
    by_cases c : k < P.length
    · exact c
    · unfold lotOf at h
      rw [List.getElem?_eq_none (by omega)] at h
      cases h
  by_cases c : rdOf P z < k
  · exact (done_lot nd ((mem_done (by omega)).mpr c) h).elim
  · omega
section
variable (P : List (List Str)) (o n : Str → List (Str × V))
/-- what a sight tells of its node -/
def oldB (s : Sig) : Bool := decide (s.2.2 = look (o s.1) s.2.1)
def newS (s : Sig) : Bool := decide (rdOf P s.2.1 < P.length) && decide (s.2.2 = look (n s.1) s.2.1)
def upB (s : Sig) : Bool := newS P n s && !oldB o s
def downB (s : Sig) : Bool := oldB o s && !newS P n s
def foeB (s t : Sig) : Bool := upB P o n s && downB P o n t && (decide (rdOf P t.2.1 < rdOf P s.2.1) || decide (t.2.1 = s.2.1))
/-- they fit -/
def Fit (S : List Sig) : Prop := (∀ s ∈ S, oldB o s = true ∨ newS P n s = true) ∧ S.Pairwise fun s t => foeB P o n s t = false
end
section
variable {P : List (List Str)} {o n : Str → List (Str × V)}
theorem folB_iff {s t : Sta} : folB s t = true ↔ s.1 < t.1 ∨ s.1 = t.1 ∧ ∀ z ∈ s.2, z ∈ t.2 := by
  unfold folB
  rw [Bool.or_eq_true, Bool.and_eq_true, decide_eq_true_eq, decide_eq_true_eq, List.all_eq_true]
  exact or_congr Iff.rfl (and_congr Iff.rfl ⟨fun h z hz => of_decide_eq_true (h z hz), fun h z hz => decide_eq_true (h z hz)⟩)
theorem folB_trans {s t u : Sta} (h1 : folB s t = true) (h2 : folB t u = true) : folB s u = true := by
  rw [folB_iff] at *
  rcases h1 with h1 | ⟨h1, g1⟩ <;> rcases h2 with h2 | ⟨h2, g2⟩
  · exact .inl (by omega)
  · exact .inl (by omega)
  · exact .inl (by omega)
  · exact .inr ⟨by omega, fun z hz => g2 z (g1 z hz)⟩
/-- new at a moment: its round is behind, or it has changed -/
theorem new_iff (nd : P.flatten.Nodup) {t : Sta} (ht : t ∈ allStas P) {z : Str} : newB P t z = true ↔ rdOf P z < t.1 ∨ z ∈ t.2 := by
  unfold newB
  rw [decide_eq_true_eq, mem_done (allStas_mem.mp ht).1]
theorem sta_rd (nd : P.flatten.Nodup) {t : Sta} (ht : t ∈ allStas P) {z : Str} (hz : z ∈ t.2) : rdOf P z = t.1 := mem_lot nd ((allStas_sub ht).subset hz)
theorem new_rd (nd : P.flatten.Nodup) {t : Sta} (ht : t ∈ allStas P) {z : Str} (h : newB P t z = true) : rdOf P z < P.length := by
  have hk := (allStas_mem.mp ht).1
  rcases (new_iff nd ht).mp h with h | h
  · omega
  · have h2 := (allStas_sub ht).subset h
    have h3 : z ∈ P.flatten := (lot_sub t.1).subset h2
    exact rd_lt h3
theorem seen_iff (nd : P.flatten.Nodup) {t : Sta} (ht : t ∈ allStas P) {s : Sig} : seenB P o n s t = true ↔ (newB P t s.2.1 = true ∧ newS P n s = true) ∨ (newB P t s.2.1 = false ∧ oldB o s = true) := by
  unfold seenB newS oldB
  rw [decide_eq_true_eq, Bool.and_eq_true, decide_eq_true_eq, decide_eq_true_eq, decide_eq_true_eq]
  cases c : newB P t s.2.1 with
  | true =>
    rw [if_pos rfl]
    exact ⟨fun h => .inl ⟨rfl, new_rd nd ht c, h⟩, fun h => h.elim (fun h => h.2.2) fun h => by cases h.1⟩
  | false =>
    rw [if_neg (by decide)]
    exact ⟨fun h => .inr ⟨rfl, h⟩, fun h => h.elim (fun h => by cases h.1) fun h => h.2⟩
theorem no_foe (nd : P.flatten.Nodup) {t u : Sta} (ht : t ∈ allStas P) (hu : u ∈ allStas P) (f : folB t u = true) {a b : Sig} (ha : seenB P o n a t = true) (hb : seenB P o n b u = true) : foeB P o n a b = false := by
  cases c : foeB P o n a b with
  | false => rfl
  | true =>
    exfalso
    unfold foeB upB downB at c
    rw [Bool.and_eq_true, Bool.and_eq_true, Bool.and_eq_true, Bool.and_eq_true, Bool.or_eq_true, decide_eq_true_eq, decide_eq_true_eq, Bool.not_eq_true', Bool.not_eq_true'] at c
    obtain ⟨⟨⟨a1, a2⟩, b1, b2⟩, c⟩ := c
    have na : newB P t a.2.1 = true := by
      rcases (seen_iff nd ht).mp ha with h | h
      · exact h.1
      · rw [a2] at h; cases h.2
    have nb : newB P u b.2.1 = false := by
      rcases (seen_iff nd hu).mp hb with h | h
      · rw [b2] at h; cases h.2
      · exact h.1
    have nb' : ¬(rdOf P b.2.1 < u.1 ∨ b.2.1 ∈ u.2) := fun h => by rw [(new_iff nd hu).mpr h] at nb; cases nb
    have ra : rdOf P a.2.1 ≤ t.1 := by
      rcases (new_iff nd ht).mp na with h | h
      · omega
      · rw [sta_rd nd ht h]; exact Nat.le_refl _
    have tu : t.1 ≤ u.1 := by rcases folB_iff.mp f with h | h <;> omega
    have rb : ¬ rdOf P b.2.1 < u.1 := fun h => nb' (.inl h)
    rcases c with c | c
    · omega
    · rw [c] at nb' rb
      rcases (new_iff nd ht).mp na with h | h
      · omega
      · rcases folB_iff.mp f with g | ⟨g1, g2⟩
        · have := sta_rd nd ht h
          omega
        · exact nb' (.inr (g2 _ h))
theorem story_mem {R : Sta → Sta → Bool} (tr : ∀ (s t u : Sta), R s t = true → R t u = true → R s u = true) {F : Sig → List Sta} : ∀ {S : List Sig} {ss : List Sta}, StoryL R (S.map F) ss → ∀ t0, (∀ t, ss.head? = some t → R t0 t = true) → ∀ s ∈ S, ∃ t ∈ F s, R t0 t = true
  | [], _, _, _, _, s, hs => by cases hs
  | x :: S, [], h, _, _, _, _ => h.elim
  | x :: S, t :: ss, ⟨h1, h2, h3⟩, t0, g, s, hs => by
    have r0 := g t rfl
    rcases List.mem_cons.mp hs with rfl | hs
    · exact ⟨t, h1, r0⟩
    · exact story_mem tr h3 t0 (fun u hu => tr _ _ _ r0 (h2 u hu)) s hs
theorem story_fit (nd : P.flatten.Nodup) : ∀ {S : List Sig} {ss : List Sta}, StoryL folB (seenStas P o n S) ss → Fit P o n S
  | [], _, _ => ⟨(fun s hs => by cases hs), List.Pairwise.nil⟩
  | x :: S, [], h => h.elim
  | x :: S, t :: ss, ⟨h1, h2, h3⟩ => by
    obtain ⟨i1, i2⟩ := story_fit nd h3
    have m1 := List.mem_filter.mp h1
    refine ⟨fun s hs => ?_, List.pairwise_cons.mpr ⟨fun s hs => ?_, i2⟩⟩
    · rcases List.mem_cons.mp hs with rfl | hs
      · rcases (seen_iff nd m1.1).mp m1.2 with h | h
        · exact .inr h.2
        · exact .inl h.2
      · exact i1 s hs
    · obtain ⟨u, hu, f⟩ := story_mem (R := folB) (fun _ _ _ h1 h2 => folB_trans h1 h2) (F := fun s => (allStas P).filter (seenB P o n s)) h3 t h2 s hs
      have m2 := List.mem_filter.mp hu
      exact no_foe nd m1.1 m2.1 f m1.2 m2.2
/-- the least moment at which these nodes have changed -/
noncomputable def stOf (P : List (List Str)) (U : List Str) : Sta := ((U.map (rdOf P)).foldl max 0, (lotOf P ((U.map (rdOf P)).foldl max 0)).filter fun z => decide (z ∈ U))
theorem max_le : ∀ (L : List Nat) (k : Nat), k ≤ L.foldl max k ∧ ∀ x ∈ L, x ≤ L.foldl max k
  | [], k => ⟨Nat.le_refl _, fun x h => by cases h⟩
  | y :: L, k => by
    obtain ⟨h1, h2⟩ := max_le L (max k y)
    have h3 := Nat.le_max_left k y
    have h4 := Nat.le_max_right k y
    refine ⟨Nat.le_trans h3 h1, fun x hx => ?_⟩
    rcases List.mem_cons.mp hx with rfl | hx
    · exact Nat.le_trans h4 h1
    · exact h2 x hx
theorem max_is : ∀ (L : List Nat) (k : Nat), L.foldl max k = k ∨ L.foldl max k ∈ L
  | [], k => .inl rfl
  | y :: L, k => by
    rcases max_is L (max k y) with h | h
    · rcases Nat.le_total k y with c | c
      · rw [Nat.max_eq_right c] at h
        exact .inr (by show L.foldl max (max k y) ∈ _; rw [Nat.max_eq_right c, h]; exact List.mem_cons_self)
      · rw [Nat.max_eq_left c] at h
        exact .inl (by show L.foldl max (max k y) = _; rw [Nat.max_eq_left c]; exact h)
    · exact .inr (List.mem_cons_of_mem _ h)
theorem stOf_k (U : List Str) : (stOf P U).1 = 0 ∨ ∃ u ∈ U, (stOf P U).1 = rdOf P u := by
  rcases max_is (U.map (rdOf P)) 0 with h | h
  · exact .inl h
  · obtain ⟨u, hu, e⟩ := List.mem_map.mp h
    exact .inr ⟨u, hu, e.symm⟩
theorem stOf_le {U : List Str} {u : Str} (hu : u ∈ U) : rdOf P u ≤ (stOf P U).1 := (max_le _ 0).2 _ (List.mem_map_of_mem hu)
theorem stOf_in {U : List Str} (hU : ∀ u ∈ U, rdOf P u < P.length) : stOf P U ∈ allStas P := by
  refine allStas_mem.mpr ⟨?_, partsS_has List.filter_sublist⟩
  rcases stOf_k (P := P) U with h | ⟨u, hu, h⟩
  · rw [h]; exact Nat.zero_le _
  · rw [h]; exact Nat.le_of_lt (hU u hu)
theorem stOf_mem {U : List Str} {z : Str} : z ∈ (stOf P U).2 ↔ z ∈ lotOf P (stOf P U).1 ∧ z ∈ U := by
  show z ∈ List.filter _ _ ↔ _
  rw [List.mem_filter, decide_eq_true_eq]
  rfl
theorem stOf_new (nd : P.flatten.Nodup) {U : List Str} (hU : ∀ u ∈ U, rdOf P u < P.length) {u : Str} (hu : u ∈ U) : newB P (stOf P U) u = true := by
  refine (new_iff nd (stOf_in hU)).mpr ?_
  have h1 := stOf_le (P := P) hu
  by_cases c : rdOf P u < (stOf P U).1
  · exact .inl c
  · refine .inr (stOf_mem.mpr ⟨?_, hu⟩)
    rw [show (stOf P U).1 = rdOf P u by omega]
    exact rd_in (hU u hu)
theorem stOf_fol {U U' : List Str} (h : ∀ u ∈ U, u ∈ U') : folB (stOf P U) (stOf P U') = true := by
  have h1 : (stOf P U).1 ≤ (stOf P U').1 := by
    rcases stOf_k (P := P) U with e | ⟨u, hu, e⟩
    · omega
    · rw [e]; exact stOf_le (h u hu)
  rw [folB_iff]
  by_cases c : (stOf P U).1 < (stOf P U').1
  · exact .inl c
  · have e : (stOf P U).1 = (stOf P U').1 := by omega
    refine .inr ⟨e, fun z hz => ?_⟩
    obtain ⟨z1, z2⟩ := stOf_mem.mp hz
    exact stOf_mem.mpr ⟨by rw [← e]; exact z1, h z z2⟩
theorem fit_story (nd : P.flatten.Nodup) : ∀ (S : List Sig) (U : List Str), (∀ u ∈ U, rdOf P u < P.length) → Fit P o n S → (∀ s ∈ S, downB P o n s = true → ∀ u ∈ U, ¬(rdOf P s.2.1 < rdOf P u ∨ s.2.1 = u)) →
    ∃ ss, StoryL folB (seenStas P o n S) ss ∧ ∀ t, ss.head? = some t → folB (stOf P U) t = true
  | [], U, _, _, _ => ⟨[], trivial, fun t h => by cases h⟩
  | x :: S, U, hU, ⟨f1, f2⟩, g => by
    obtain ⟨p1, p2⟩ := List.pairwise_cons.mp f2
    obtain ⟨U', hU'⟩ : ∃ U', U' = if upB P o n x = true then x.2.1 :: U else U := ⟨_, rfl⟩
    have sub : ∀ u ∈ U, u ∈ U' := fun u hu => by
      rw [hU']
      by_cases c : upB P o n x = true
      · rw [if_pos c]; exact List.mem_cons_of_mem _ hu
      · rw [if_neg c]; exact hu
    have all : ∀ u ∈ U', rdOf P u < P.length := fun u hu => by
      rw [hU'] at hu
      by_cases c : upB P o n x = true
      · rw [if_pos c] at hu
        rcases List.mem_cons.mp hu with rfl | hu
        · unfold upB newS at c
          rw [Bool.and_eq_true, Bool.and_eq_true, decide_eq_true_eq] at c
          exact c.1.1
        · exact hU u hu
      · rw [if_neg c] at hu; exact hU u hu
    obtain ⟨ss, h1, h2⟩ := fit_story nd S U' all ⟨fun s hs => f1 s (List.mem_cons_of_mem _ hs), p2⟩ fun s hs ds u hu => by
      rw [hU'] at hu
      by_cases c : upB P o n x = true
      · rw [if_pos c] at hu
        rcases List.mem_cons.mp hu with rfl | hu
        · have h := p1 s hs
          unfold foeB at h
          rw [c, ds] at h
          rintro (z | z)
          · rw [decide_eq_true z] at h; cases h
          · rw [decide_eq_true z, Bool.or_true] at h; cases h
        · exact g s (List.mem_cons_of_mem _ hs) ds u hu
      · rw [if_neg c] at hu
        exact g s (List.mem_cons_of_mem _ hs) ds u hu
    refine ⟨stOf P U' :: ss, ⟨List.mem_filter.mpr ⟨stOf_in all, ?_⟩, h2, h1⟩, fun t ht => by injection ht with ht; rw [← ht]; exact stOf_fol sub⟩
    rw [seen_iff nd (stOf_in all)]
    cases c1 : newS P n x with
    | true =>
      cases c2 : oldB o x with
      | true => cases c3 : newB P (stOf P U') x.2.1 with
        | true => exact .inl ⟨rfl, rfl⟩
        | false => exact .inr ⟨rfl, rfl⟩
      | false =>
        refine .inl ⟨stOf_new nd all ?_, rfl⟩
        rw [hU', if_pos (by unfold upB; rw [c1, c2]; rfl)]
        exact List.mem_cons_self
    | false =>
      have c2 : oldB o x = true := (f1 x List.mem_cons_self).resolve_right (by rw [c1]; decide)
      have nu : ¬upB P o n x = true := by unfold upB; rw [c1, Bool.false_and]; decide
      rw [if_neg nu] at hU'
      refine .inr ⟨?_, c2⟩
      have dn : downB P o n x = true := by unfold downB; rw [c1, c2]; rfl
      cases c3 : newB P (stOf P U') x.2.1 with
      | false => rfl
      | true =>
        exfalso
        rw [hU'] at c3 all
        rcases (new_iff nd (stOf_in all)).mp c3 with h | h
        · rcases stOf_k (P := P) U with e | ⟨u, hu, e⟩
          · omega
          · exact g x List.mem_cons_self dn u hu (.inl (by omega))
        · exact g x List.mem_cons_self dn _ (stOf_mem.mp h).2 (.inr rfl)
/-- the heart: sights fit if and only if there is a story -/
theorem full_fit (nd : P.flatten.Nodup) (S : List Sig) : fullB (inStories (seenStas P o n S)) = true ↔ Fit P o n S := by
  rw [full_iff]
  constructor
  · rintro ⟨ss, h⟩
    exact story_fit nd h
  · intro h
    obtain ⟨ss, h1, _⟩ := fit_story nd S [] (fun u hu => by cases hu) h fun s _ _ u hu => by cases hu
    exact ⟨ss, h1⟩
end
end Rw
end T_EC

section T_EE
set_option Elab.async false
set_option linter.all false
set_option maxRecDepth 100000
set_option maxHeartbeats 4000000
namespace Rw
open PySem L2 PyProof.Rows
/-! ### the states of the last sight in all stories -/
theorem storyL_unsnoc {R : Sta → Sta → Bool} {l : List Sta} {s : Sta} : ∀ {L : List (List Sta)} {ss : List Sta}, StoryL R (L ++ [l]) (ss ++ [s]) → s ∈ l ∧ StoryL R L ss ∧ ∀ u, ss.getLast? = some u → R u s = true
  | [], [], h => ⟨h.1, trivial, fun u hu => by cases hu⟩
  | [], [t], h => h.2.2.elim
  | [], t :: u :: ss, h => h.2.2.elim
  | x :: L, [], h => by
    cases L with
    | nil => exact h.2.2.elim
    | cons y L => exact h.2.2.elim
  | x :: L, t :: ss, h => by
    obtain ⟨h1, h2, h3⟩ := h
    obtain ⟨k1, k2, k3⟩ := storyL_unsnoc (L := L) (ss := ss) h3
    cases ss with
    | nil =>
      refine ⟨k1, ⟨h1, (fun u hu => by cases hu), k2⟩, fun u hu => ?_⟩
      injection hu with hu
      rw [← hu]
      exact h2 s rfl
    | cons y ys =>
      exact ⟨k1, ⟨h1, h2, k2⟩, fun u hu => k3 u (by rw [List.getLast?_cons_cons] at hu; exact hu)⟩
theorem storyL_len {R : Sta → Sta → Bool} : ∀ {L : List (List Sta)} {ss : List Sta}, StoryL R L ss → ss.length = L.length
  | [], [], _ => rfl
  | [], _ :: _, h => h.elim
  | _ :: _, [], h => h.elim
  | x :: L, t :: ss, h => by rw [List.length_cons, List.length_cons, storyL_len h.2.2]
theorem stepG_last {R : Sta → Sta → Bool} (L : List (List Sta)) : (L.foldl (stepG R) []).length = L.length ∧ ∀ t, t ∈ (L.foldl (stepG R) []).getLastD [] ↔ ∃ ss, StoryL R L (ss ++ [t]) := by
  obtain ⟨M, hM⟩ : ∃ M, M = L.reverse := ⟨_, rfl⟩
  have e : L = M.reverse := by rw [hM, List.reverse_reverse]
  subst e
  clear hM
  induction M with
  | nil =>
    refine ⟨rfl, fun t => ⟨(fun h => by cases h), fun ⟨ss, h⟩ => ?_⟩⟩
    cases ss with
    | nil => exact h.elim
    | cons _ _ => exact h.elim
  | cons l M ih =>
    obtain ⟨i1, i2⟩ := ih
    rw [List.reverse_cons, List.foldl_append]
    have ef : List.foldl (stepG R) (List.foldl (stepG R) [] M.reverse) [l] = (List.foldl (stepG R) [] M.reverse) ++ [l.filter fun t => (List.foldl (stepG R) [] M.reverse).isEmpty || ((List.foldl (stepG R) [] M.reverse).getLastD []).any fun s => R s t] := rfl
    rw [ef]
    refine ⟨by rw [List.length_append, i1, List.length_append]; rfl, fun t => ?_⟩
    rw [List.getLastD_concat, List.mem_filter, Bool.or_eq_true]
    constructor
    · rintro ⟨h1, h2 | h2⟩
      · have e0 : M.reverse = [] := by
          have : (List.foldl (stepG R) [] M.reverse).length = 0 := by rw [List.isEmpty_iff] at h2; rw [h2]; rfl
          rw [i1] at this
          exact List.length_eq_zero_iff.mp this
        refine ⟨[], ?_⟩
        rw [e0]
        exact ⟨h1, (fun u hu => by cases hu), trivial⟩
      · obtain ⟨s, hs, f⟩ := List.any_eq_true.mp h2
        obtain ⟨ss, h⟩ := (i2 s).mp hs
        exact ⟨ss ++ [s], storyL_snoc h1 h fun u hu => by rw [List.getLast?_concat] at hu; injection hu with hu; rw [← hu]; exact f⟩
    · rintro ⟨ss, h⟩
      obtain ⟨k1, k2, k3⟩ := storyL_unsnoc h
      refine ⟨k1, ?_⟩
      rcases List.eq_nil_or_concat ss with e0 | ⟨ss0, s, e0⟩
      · left
        rw [e0] at k2
        have := storyL_len k2
        rw [← i1] at this
        exact List.isEmpty_iff.mpr (List.length_eq_zero_iff.mp this.symm)
      · right
        rw [List.concat_eq_append] at e0
        rw [e0] at k2 k3
        exact List.any_eq_true.mpr ⟨s, (i2 s).mpr ⟨ss0, k2⟩, k3 s (by rw [List.getLast?_concat])⟩
end Rw
end T_EE

section T_EG
set_option Elab.async false
set_option linter.all false
set_option maxRecDepth 100000
set_option maxHeartbeats 4000000
namespace Rw
open PySem L2 PyProof.Rows
/-! ### what is known of the nodes at the last sight -/
section
variable {P : List (List Str)} {o n : Str → List (Str × V)}
/-- the nodes that were seen to have changed -/
def upsOf (P : List (List Str)) (o n : Str → List (Str × V)) (S : List Sig) : List Str := (S.filter (upB P o n)).map fun s => s.2.1
theorem mem_ups {S : List Sig} {u : Str} : u ∈ upsOf P o n S ↔ ∃ s ∈ S, upB P o n s = true ∧ s.2.1 = u := by
  unfold upsOf
  rw [List.mem_map]
  constructor
  · rintro ⟨s, hs, e⟩
    obtain ⟨h1, h2⟩ := List.mem_filter.mp hs
    exact ⟨s, h1, h2, e⟩
  · rintro ⟨s, h1, h2, e⟩
    exact ⟨s, List.mem_filter.mpr ⟨h1, h2⟩, e⟩
theorem up_rd {s : Sig} (h : upB P o n s = true) : rdOf P s.2.1 < P.length := by
  unfold upB newS at h
  rw [Bool.and_eq_true, Bool.and_eq_true, decide_eq_true_eq] at h
  exact h.1.1
theorem ups_rd {S : List Sig} {u : Str} (h : u ∈ upsOf P o n S) : rdOf P u < P.length := by
  obtain ⟨s, _, h2, rfl⟩ := mem_ups.mp h
  exact up_rd h2
theorem folB_self (t : Sta) : folB t t = true := folB_iff.mpr (.inr ⟨rfl, fun z hz => hz⟩)
theorem fol_rd {s t : Sta} (h : folB s t = true) : s.1 ≤ t.1 := by rcases folB_iff.mp h with h | h <;> omega
/-- what has changed stays changed -/
theorem new_mono (nd : P.flatten.Nodup) {s t : Sta} (hs : s ∈ allStas P) (ht : t ∈ allStas P) (f : folB s t = true) {z : Str} (h : newB P s z = true) : newB P t z = true := by
  refine (new_iff nd ht).mpr ?_
  have st := fol_rd f
  rcases (new_iff nd hs).mp h with h | h
  · exact .inl (by omega)
  · have e := sta_rd nd hs h
    rcases folB_iff.mp f with g | ⟨_, g⟩
    · exact .inl (by omega)
    · exact .inr (g z h)
theorem up_seen (nd : P.flatten.Nodup) {t : Sta} (ht : t ∈ allStas P) {s : Sig} (h : seenB P o n s t = true) (u : upB P o n s = true) : newB P t s.2.1 = true := by
  rcases (seen_iff nd ht).mp h with h | h
  · exact h.1
  · unfold upB at u
    rw [h.2, Bool.and_eq_true] at u
    cases u.2
theorem down_seen (nd : P.flatten.Nodup) {t : Sta} (ht : t ∈ allStas P) {s : Sig} (h : seenB P o n s t = true) (d : downB P o n s = true) : newB P t s.2.1 = false := by
  rcases (seen_iff nd ht).mp h with h | h
  · unfold downB at d
    rw [h.2, Bool.and_eq_true] at d
    cases d.2
  · exact h.1
/-- the least moment of these nodes is ahead of each at which they have changed -/
theorem stOf_least (nd : P.flatten.Nodup) {U : List Str} {t : Sta} (ht : t ∈ allStas P) (h : ∀ u ∈ U, newB P t u = true) : folB (stOf P U) t = true := by
  have h1 : (stOf P U).1 ≤ t.1 := by
    rcases stOf_k (P := P) U with e | ⟨u, hu, e⟩
    · omega
    · rcases (new_iff nd ht).mp (h u hu) with g | g
      · omega
      · have := sta_rd nd ht g
        omega
  rw [folB_iff]
  by_cases c : (stOf P U).1 < t.1
  · exact .inl c
  · refine .inr ⟨by omega, fun z hz => ?_⟩
    obtain ⟨z1, z2⟩ := stOf_mem.mp hz
    have e := mem_lot nd z1
    rcases (new_iff nd ht).mp (h z z2) with g | g
    · omega
    · exact g
/-- a story of sights that fit, whose moments are least ones of nodes that were seen to have changed -/
theorem fit_tale (nd : P.flatten.Nodup) : ∀ (S : List Sig) (U : List Str), (∀ u ∈ U, rdOf P u < P.length) → Fit P o n S → (∀ s ∈ S, downB P o n s = true → ∀ u ∈ U, ¬(rdOf P s.2.1 < rdOf P u ∨ s.2.1 = u)) →
    ∃ ss, StoryL folB (seenStas P o n S) ss ∧ (∀ t, ss.head? = some t → folB (stOf P U) t = true) ∧ ∀ t ∈ ss, ∃ V, t = stOf P V ∧ ∀ v ∈ V, v ∈ U ∨ v ∈ upsOf P o n S
  | [], U, _, _, _ => ⟨[], trivial, (fun t h => by cases h), fun t h => by cases h⟩
  | x :: S, U, hU, ⟨f1, f2⟩, g => by
    obtain ⟨p1, p2⟩ := List.pairwise_cons.mp f2
    obtain ⟨V, hV⟩ : ∃ V, V = if upB P o n x = true then x.2.1 :: U else U := ⟨_, rfl⟩
    have inV : ∀ v, v ∈ V ↔ v ∈ U ∨ (upB P o n x = true ∧ v = x.2.1) := fun v => by
      rw [hV]
      by_cases c : upB P o n x = true
      · rw [if_pos c, List.mem_cons]
        exact ⟨fun h => h.elim (fun h => .inr ⟨c, h⟩) .inl, fun h => h.elim .inr fun h => .inl h.2⟩
      · rw [if_neg c]
        exact ⟨.inl, fun h => h.elim id fun h => absurd h.1 c⟩
    have all : ∀ v ∈ V, rdOf P v < P.length := fun v hv => by
      rcases (inV v).mp hv with h | ⟨h, rfl⟩
      · exact hU v h
      · exact up_rd h
    obtain ⟨ss, h1, h2, h3⟩ := fit_tale nd S V all ⟨fun s hs => f1 s (List.mem_cons_of_mem _ hs), p2⟩ fun s hs ds v hv => by
      rcases (inV v).mp hv with h | ⟨h, rfl⟩
      · exact g s (List.mem_cons_of_mem _ hs) ds v h
      · have q := p1 s hs
        unfold foeB at q
        rw [h, ds] at q
        rintro (z | z)
        · rw [decide_eq_true z] at q; cases q
        · rw [decide_eq_true z, Bool.or_true] at q; cases q
    have upx : ∀ v, upB P o n x = true → v = x.2.1 → v ∈ upsOf P o n (x :: S) := fun v h e => mem_ups.mpr ⟨x, List.mem_cons_self, h, e.symm⟩
    refine ⟨stOf P V :: ss, ⟨List.mem_filter.mpr ⟨stOf_in all, ?_⟩, h2, h1⟩, (fun t ht => by injection ht with ht; rw [← ht]; exact stOf_fol fun u hu => (inV u).mpr (.inl hu)), fun t ht => ?_⟩
    · rw [seen_iff nd (stOf_in all)]
      cases c1 : newS P n x with
      | true =>
        cases c2 : oldB o x with
        | true => cases c3 : newB P (stOf P V) x.2.1 with
          | true => exact .inl ⟨rfl, rfl⟩
          | false => exact .inr ⟨rfl, rfl⟩
        | false => exact .inl ⟨stOf_new nd all ((inV _).mpr (.inr ⟨by unfold upB; rw [c1, c2]; rfl, rfl⟩)), rfl⟩
      | false =>
        have c2 : oldB o x = true := (f1 x List.mem_cons_self).resolve_right (by rw [c1]; decide)
        have dn : downB P o n x = true := by unfold downB; rw [c1, c2]; rfl
        refine .inr ⟨?_, c2⟩
        cases c3 : newB P (stOf P V) x.2.1 with
        | false => rfl
        | true =>
          exfalso
          have inU : ∀ v ∈ V, v ∈ U := fun v hv => by
            rcases (inV v).mp hv with h | ⟨h, _⟩
            · exact h
            · unfold upB at h
              rw [c1, Bool.false_and] at h
              cases h
          rcases (new_iff nd (stOf_in all)).mp c3 with h | h
          · rcases stOf_k (P := P) V with e | ⟨u, hu, e⟩
            · omega
            · exact g x List.mem_cons_self dn u (inU u hu) (.inl (by omega))
          · exact g x List.mem_cons_self dn _ (inU _ (stOf_mem.mp h).2) (.inr rfl)
    · rcases List.mem_cons.mp ht with rfl | ht
      · refine ⟨V, rfl, fun v hv => ?_⟩
        rcases (inV v).mp hv with h | ⟨h, e⟩
        · exact .inl h
        · exact .inr (upx v h e)
      · obtain ⟨W, e, hW⟩ := h3 t ht
        refine ⟨W, e, fun v hv => ?_⟩
        rcases hW v hv with h | h
        · rcases (inV v).mp h with h | ⟨h, e⟩
          · exact .inl h
          · exact .inr (upx v h e)
        · obtain ⟨s, q1, q2, q3⟩ := mem_ups.mp h
          exact .inr (mem_ups.mpr ⟨s, List.mem_cons_of_mem _ q1, q2, q3⟩)
theorem seenStas_snoc (S : List Sig) (x : Sig) : seenStas P o n (S ++ [x]) = seenStas P o n S ++ [(allStas P).filter (seenB P o n x)] := by
  unfold seenStas
  rw [List.map_append]
  rfl
/-- each sight is seen at a moment ahead of the last one -/
theorem tale_each (nd : P.flatten.Nodup) : ∀ (k : Nat) (S : List Sig) (ss : List Sta) (t : Sta), S.length = k → StoryL folB (seenStas P o n S) (ss ++ [t]) → ∀ s ∈ S, ∃ q ∈ allStas P, seenB P o n s q = true ∧ folB q t = true
  | 0, S, ss, t, e, h => fun s hs => by rw [List.length_eq_zero_iff.mp e] at hs; cases hs
  | k + 1, S, ss, t, e, h => fun s hs => by
    rcases List.eq_nil_or_concat S with z | ⟨S0, x, z⟩
    · rw [z] at e; cases e
    · rw [List.concat_eq_append] at z
      subst z
      rw [List.length_append] at e
      have e0 : S0.length = k := by simp only [List.length_singleton] at e; omega
      rw [seenStas_snoc] at h
      obtain ⟨m, h2, h3⟩ := storyL_unsnoc h
      obtain ⟨m1, m2⟩ := List.mem_filter.mp m
      rcases List.mem_append.mp hs with hs | hs
      · rcases List.eq_nil_or_concat ss with z | ⟨ss0, y, z⟩
        · have l := storyL_len h2
          rw [z] at l
          unfold seenStas at l
          rw [List.length_map] at l
          rw [List.length_eq_zero_iff.mp l.symm] at hs
          cases hs
        · rw [List.concat_eq_append] at z
          subst z
          obtain ⟨q, q1, q2, q3⟩ := tale_each nd k S0 ss0 y e0 h2 s hs
          exact ⟨q, q1, q2, folB_trans q3 (h3 y (by rw [List.getLast?_concat]))⟩
      · rw [List.mem_singleton.mp hs]
        exact ⟨t, m1, m2, folB_self t⟩
/-- the moments that the last sight can have -/
theorem last_iff (nd : P.flatten.Nodup) {S : List Sig} {x : Sig} (fit : Fit P o n (S ++ [x])) {t : Sta} :
    (∃ ss, StoryL folB (seenStas P o n (S ++ [x])) (ss ++ [t])) ↔ t ∈ allStas P ∧ seenB P o n x t = true ∧ ∀ u ∈ upsOf P o n (S ++ [x]), newB P t u = true := by
  constructor
  · rintro ⟨ss, h⟩
    have h0 := h
    rw [seenStas_snoc] at h
    obtain ⟨m, _, _⟩ := storyL_unsnoc h
    obtain ⟨m1, m2⟩ := List.mem_filter.mp m
    refine ⟨m1, m2, fun u hu => ?_⟩
    obtain ⟨s, s1, s2, rfl⟩ := mem_ups.mp hu
    obtain ⟨q, q1, q2, q3⟩ := tale_each nd _ _ ss t rfl h0 s s1
    exact new_mono nd q1 m1 q3 (up_seen nd q1 q2 s2)
  · rintro ⟨m1, m2, hu⟩
    have fit0 : Fit P o n S := ⟨fun s hs => fit.1 s (List.mem_append_left _ hs), (List.pairwise_append.mp fit.2).1⟩
    obtain ⟨ss, h1, _, h3⟩ := fit_tale nd S [] (fun u hu => by cases hu) fit0 fun s _ _ u hu => by cases hu
    refine ⟨ss, ?_⟩
    rw [seenStas_snoc]
    refine storyL_snoc (List.mem_filter.mpr ⟨m1, m2⟩) h1 fun q hq => ?_
    obtain ⟨V, rfl, hV⟩ := h3 q (List.mem_of_getLast? hq)
    refine stOf_least nd m1 fun v hv => ?_
    rcases hV v hv with h | h
    · cases h
    · obtain ⟨s, s1, s2, s3⟩ := mem_ups.mp h
      exact hu v (mem_ups.mpr ⟨s, List.mem_append_left _ s1, s2, s3⟩)
/-- the states of the last sight in stories -/
theorem last_stas {seen : List (List Sta)} (ne : seen ≠ []) {t : Sta} : t ∈ (inStories seen).getLastD [] ↔ ∃ ss, StoryL folB seen (ss ++ [t]) := by
  obtain ⟨l1, l2⟩ := stepG_last (R := folB) seen
  rw [← l2, ← ahead_is]
  have ne2 : aheadOfS seen ≠ [] := fun z => by
    rw [ahead_is] at z
    rw [z] at l1
    exact ne (List.length_eq_zero_iff.mp l1.symm)
  rcases List.eq_nil_or_concat (aheadOfS seen) with z | ⟨A, l, z⟩
  · exact absurd z ne2
  · rw [List.concat_eq_append] at z
    obtain ⟨B, e, _⟩ := stepG_sub (R := fun a b => folB b a) A.reverse [l]
    have e2 : inStories seen = B.reverse ++ [l] := by
      rw [inStories_is, z, List.reverse_append]
      show (List.foldl _ [] (l :: A.reverse)).reverse = _
      rw [List.foldl_cons]
      have e0 : stepG (fun a b => folB b a) [] l = [l] := by
        show [] ++ [l.filter fun t => true] = [l]
        rw [List.filter_eq_self.mpr fun _ _ => rfl]
        rfl
      rw [e0, e, List.reverse_append]
      rfl
    rw [e2, z, List.getLastD_concat, List.getLastD_concat]
/-- the moments that the last sight can have -/
def LastOk (P : List (List Str)) (o n : Str → List (Str × V)) (S : List Sig) (x : Sig) (t : Sta) : Prop := t ∈ allStas P ∧ seenB P o n x t = true ∧ ∀ u ∈ upsOf P o n (S ++ [x]), newB P t u = true
theorem new_st (nd : P.flatten.Nodup) {U : List Str} (hU : ∀ u ∈ U, rdOf P u < P.length) {z : Str} : newB P (stOf P U) z = true ↔ rdOf P z < (stOf P U).1 ∨ (z ∈ U ∧ rdOf P z = (stOf P U).1) := by
  rw [new_iff nd (stOf_in hU), stOf_mem]
  constructor
  · rintro (h | ⟨h1, h2⟩)
    · exact .inl h
    · exact .inr ⟨h2, mem_lot nd h1⟩
  · rintro (h | ⟨h1, h2⟩)
    · exact .inl h
    · exact .inr ⟨by rw [← h2]; exact rd_in (hU z h1), h1⟩
theorem foe_last {S : List Sig} {x : Sig} (fit : Fit P o n (S ++ [x])) (d : downB P o n x = true) {u : Str} (hu : u ∈ upsOf P o n (S ++ [x])) : rdOf P u ≤ rdOf P x.2.1 ∧ u ≠ x.2.1 := by
  obtain ⟨s, s1, s2, rfl⟩ := mem_ups.mp hu
  rcases List.mem_append.mp s1 with h | h
  · have q := (List.pairwise_append.mp fit.2).2.2 s h x List.mem_cons_self
    unfold foeB at q
    rw [s2, d, Bool.true_and, Bool.true_and, Bool.or_eq_false_iff, decide_eq_false_iff_not, decide_eq_false_iff_not] at q
    exact ⟨by omega, fun e => q.2 e.symm⟩
  · rw [List.mem_singleton.mp h] at s2
    unfold upB at s2
    unfold downB at d
    cases c : oldB o x with
    | true => rw [c, Bool.and_eq_true] at s2; cases s2.2
    | false => rw [c] at d; cases d
theorem last_st (nd : P.flatten.Nodup) {S : List Sig} {x : Sig} (fit : Fit P o n (S ++ [x])) : LastOk P o n S x (stOf P (upsOf P o n (S ++ [x]))) := by
  have hU : ∀ u ∈ upsOf P o n (S ++ [x]), rdOf P u < P.length := fun u hu => ups_rd hu
  have m := stOf_in hU
  refine ⟨m, ?_, fun u hu => stOf_new nd hU hu⟩
  rw [seen_iff nd m]
  cases d : downB P o n x with
  | true =>
    have d0 := d
    unfold downB at d
    rw [Bool.and_eq_true] at d
    refine .inr ⟨?_, d.1⟩
    cases c : newB P (stOf P (upsOf P o n (S ++ [x]))) x.2.1 with
    | false => rfl
    | true =>
      exfalso
      rcases (new_st nd hU).mp c with h | ⟨h, _⟩
      · rcases stOf_k (P := P) (upsOf P o n (S ++ [x])) with e | ⟨u, hu, e⟩
        · omega
        · have := (foe_last fit d0 hu).1
          omega
      · exact (foe_last fit d0 h).2 rfl
  | false =>
    have hn : newS P n x = true := by
      rcases fit.1 x (List.mem_append_right _ List.mem_cons_self) with h | h
      · unfold downB at d
        rw [h, Bool.true_and, Bool.not_eq_false'] at d
        exact d
      · exact h
    cases u : upB P o n x with
    | true => exact .inl ⟨stOf_new nd hU (mem_ups.mpr ⟨x, List.mem_append_right _ List.mem_cons_self, u, rfl⟩), hn⟩
    | false =>
      have ho : oldB o x = true := by
        unfold upB at u
        rw [hn, Bool.true_and, Bool.not_eq_false'] at u
        exact u
      cases c : newB P (stOf P (upsOf P o n (S ++ [x]))) x.2.1 with
      | true => exact .inl ⟨rfl, hn⟩
      | false => exact .inr ⟨rfl, ho⟩
/-- in each story -/
theorem each_iff (nd : P.flatten.Nodup) {S : List Sig} {x : Sig} (fit : Fit P o n (S ++ [x])) {z : Str} : (∀ t, LastOk P o n S x t → newB P t z = true) ↔ newB P (stOf P (upsOf P o n (S ++ [x]))) z = true := by
  constructor
  · exact fun h => h _ (last_st nd fit)
  · intro h t ht
    exact new_mono nd (last_st nd fit).1 ht.1 (stOf_least nd ht.1 ht.2.2) h
/-- in some story -/
theorem some_iff (nd : P.flatten.Nodup) {S : List Sig} {x : Sig} (fit : Fit P o n (S ++ [x])) {z : Str} (hz : z ∈ P.flatten) : (∃ t, LastOk P o n S x t ∧ newB P t z = true) ↔ (downB P o n x = true → rdOf P z ≤ rdOf P x.2.1 ∧ z ≠ x.2.1) := by
  have zr := rd_lt hz
  cases d : downB P o n x with
  | true =>
    have hd := d
    unfold downB at d
    rw [Bool.and_eq_true] at d
    have kx : rdOf P x.2.1 ≤ P.length := List.findIdx_le_length
    obtain ⟨t, ht⟩ : ∃ t : Sta, t = (rdOf P x.2.1, (lotOf P (rdOf P x.2.1)).filter fun y => decide (y ≠ x.2.1)) := ⟨_, rfl⟩
    have m : t ∈ allStas P := by rw [ht]; exact allStas_mem.mpr ⟨kx, partsS_has List.filter_sublist⟩
    have newt : ∀ y, newB P t y = true ↔ rdOf P y < rdOf P x.2.1 ∨ (y ∈ lotOf P (rdOf P x.2.1) ∧ y ≠ x.2.1) := fun y => by
      rw [new_iff nd m, ht]
      show _ ∨ y ∈ List.filter _ _ ↔ _
      rw [List.mem_filter, decide_eq_true_eq]
    have up : ∀ y, rdOf P y < P.length → rdOf P y ≤ rdOf P x.2.1 → y ≠ x.2.1 → newB P t y = true := fun y h1 h2 h3 => by
      rw [newt]
      by_cases c : rdOf P y < rdOf P x.2.1
      · exact .inl c
      · refine .inr ⟨?_, h3⟩
        rw [show rdOf P x.2.1 = rdOf P y by omega]
        exact rd_in h1
    have ok : LastOk P o n S x t := by
      refine ⟨m, (seen_iff nd m).mpr (.inr ⟨?_, d.1⟩), fun u hu => ?_⟩
      · cases c : newB P t x.2.1 with
        | false => rfl
        | true =>
          rcases (newt _).mp c with h | h
          · omega
          · exact absurd rfl h.2
      · obtain ⟨h1, h2⟩ := foe_last fit hd hu
        exact up u (ups_rd hu) h1 h2
    constructor
    · rintro ⟨t, ⟨m, sn, _⟩, h⟩ _
      have nx := down_seen nd m sn hd
      have nx' : ¬(rdOf P x.2.1 < t.1 ∨ x.2.1 ∈ t.2) := fun q => by rw [(new_iff nd m).mpr q] at nx; cases nx
      refine ⟨?_, fun e => by rw [e, nx] at h; cases h⟩
      have h1 : ¬ rdOf P x.2.1 < t.1 := fun q => nx' (.inl q)
      rcases (new_iff nd m).mp h with g | g
      · omega
      · have := sta_rd nd m g
        omega
    · intro h
      obtain ⟨h1, h2⟩ := h rfl
      exact ⟨t, ok, up z zr h1 h2⟩
  | false =>
    refine ⟨fun _ h => (by cases h), fun _ => ?_⟩
    have m : ((P.length, []) : Sta) ∈ allStas P := allStas_mem.mpr ⟨Nat.le_refl _, partsS_has (List.nil_sublist _)⟩
    have up : ∀ y, rdOf P y < P.length → newB P (P.length, []) y = true := fun y h => (new_iff nd m).mpr (.inl h)
    have hn : newS P n x = true := by
      rcases fit.1 x (List.mem_append_right _ List.mem_cons_self) with h | h
      · unfold downB at d
        rw [h, Bool.true_and, Bool.not_eq_false'] at d
        exact d
      · exact h
    have hr : rdOf P x.2.1 < P.length := by
      unfold newS at hn
      rw [Bool.and_eq_true, decide_eq_true_eq] at hn
      exact hn.1
    exact ⟨_, ⟨m, (seen_iff nd m).mpr (.inl ⟨up _ hr, hn⟩), fun u hu => up u (ups_rd hu)⟩, up z zr⟩
end
end Rw
end T_EG

section T_SU
set_option Elab.async false
set_option linter.all false
set_option maxRecDepth 100000
set_option maxHeartbeats 4000000
namespace Rw
open PySem L2 PyProof.Rows
/-! ### parts of ascending rows -/
theorem srtS_sub {l m : List Str} (h : l.Sublist m) (s : sortedS m = true) : sortedS l = true := by
  refine sortedS_of_pairwise _ (((sorted_pair s).sublist h).imp fun {a b} hab => ?_)
  rw [ltCps_eq]
  exact decide_eq_false (List.not_lt.mpr hab)
theorem sub_sorted {xs ys : List Str} (hx : sortedS xs = true) (nx : xs.Nodup) (hy : sortedS ys = true) (ny : ys.Nodup) (h : ∀ z ∈ xs, z ∈ ys) : xs.Sublist ys := by
  have e : xs = ys.filter fun z => decide (z ∈ xs) := sorted_uniq hx (srtS_sub List.filter_sublist hy) ((List.perm_ext_iff_of_nodup nx (ny.filter _)).mpr fun z => by
    rw [List.mem_filter, decide_eq_true_eq]
    exact ⟨fun q => ⟨h z q, q⟩, fun q => q.2⟩)
  rw [e]
  exact List.filter_sublist
end Rw
end T_SU

section T_FM
set_option Elab.async false
set_option linter.all false
set_option maxRecDepth 100000
set_option maxHeartbeats 8000000
namespace Rw
open PySem L2 PyProof.Rows LamX
theorem off_tup_mut {d g : Addr} {H : Hp} {b f : Addr} {xs ys zs : List V} (h : off d g H b = some (.tup xs)) (hf : off d g H f = some (.lst ys)) : off d g (upd H f (.lst zs)) b = some (.tup xs) := by
  have h1 := off_some h
  have nf : b ≠ f := fun z => by rw [← z, h] at hf; cases hf
  exact off_of (by rw [upd_ne nf]; exact h1.2.2) h1.1 h1.2.1
theorem off_lst_mut {d g : Addr} {H : Hp} {b f : Addr} {ys zs : List V} (h : off d g H b = some (.lst ys)) (n : b ≠ f) : off d g (upd H f (.lst zs)) b = some (.lst ys) := by
  have h1 := off_some h
  exact off_of (by rw [upd_ne n]; exact h1.2.2) h1.1 h1.2.1
theorem off_upd {d g : Addr} {H : Hp} {f : Addr} {o u : HO} (h : off d g H f = some u) : off d g (upd H f o) f = some o := off_of upd_same (off_some h).1 (off_some h).2.1
theorem StasT.off_mut {d g : Addr} {H : Hp} {f : Addr} {ys zs : List V} {L : List StaR} (h : StasT (off d g H) L) (hf : off d g H f = some (.lst ys)) : StasT (off d g (upd H f (.lst zs))) L := fun q hq => ⟨off_tup_mut (h q hq).1 hf, off_tup_mut (h q hq).2 hf⟩
/-- packets: a goal and a place each -/
abbrev Pkt := Addr × Str × V
def PktsT (H : Hp) (A : List Pkt) : Prop := ∀ q ∈ A, H q.1 = some (.tup [.str q.2.1, q.2.2])
theorem PktsT.to {H H' : Hp} {A : List Pkt} (h : PktsT H A) (x : Evl.Ex H H') : PktsT H' A := fun q hq => x _ _ (h q hq)
def PktOk (ends : List Str) (q : Pkt) : Prop := q.2.1 ∈ ends ∧ (q.2.2 = .non ∨ ∃ y : Str, q.2.2 = .str y)
theorem set_map {α : Type} (f : α → V) (A : List α) (j : Nat) (x : α) : (A.map f).set j (f x) = (A.set j x).map f := by rw [List.map_set]
theorem pkt_set {A : List Pkt} {j : Nat} {x q : Pkt} (h : q ∈ A.set j x) : q ∈ A ∨ q = x := List.mem_or_eq_of_mem_set h
theorem ixN_in {n k : Nat} (h : k < n) : ixN n (k : Int) = some k := by
  unfold ixN
  rw [if_pos (by omega), if_pos (by omega)]
  rfl
theorem inV_non (zs : List Str) : inV V.non (zs.map V.str) = false := by
  induction zs with
  | nil => rfl
  | cons z zs ih => exact ih
section
variable {P : Program} {w : World} {K : PySem.W.Frag} {mg : Str → Option Value} {base : Heap}
/-! ### the law's moved packets -/
def spMoved (K : PySem.W.Frag) : Sp := fun vs H Q _ => ∃ (d g c m tb db sb pb t : Addr) (L : List (Addr × List Str)) (ends dots ss ps : List Str) (rows : List (Str × V)) (o n : Str → List (Str × V)), vs = [.ref d, .ref m, .ref t] ∧ DrawAt H d g c ∧ ModelAt (off d g H) m tb db sb pb ends dots ss ps rows ∧ RowsAt (off d g H) ends dots rows o n ∧ off d g H t = some (.lst (L.map fun q => V.ref q.1)) ∧ RowsT (off d g H) L ∧ PlanOk (moving ends dots o n) (L.map (·.2)) ∧
  ∀ (p fo ta : Addr) (S : List (Addr × Sig)) (Tl : List StaR) (H' : Hp), DrawAt H' d g c → Evl.Ex (off d g H) (off d g H') → off d g H' p = some (.tup [.ref fo, .ref ta]) → off d g H' fo = some (.lst (S.map fun q => V.ref q.1)) → SigsT (off d g H') S → (∀ q ∈ S, SigOk ends dots q.2) → S.length ≤ 12 → off d g H' ta = some (.lst (refsS Tl)) → StasT (off d g H') Tl → StoryL folB (seenStas (L.map (·.2)) o n (S.map (·.2))) (Tl.map StaR.st) → Q (.ref p) H'
abbrev nMoved : List Str := ["draw", "model", "plan", "ends", "found", "tale", "stage", "on", "k", "spots", "turn", "dot", "rest", "end"]
theorem sc_moved : FnScope nMoved ["draw", "model", "plan"] (defScope s_moved) := ⟨rfl, rfl, rfl, by decide +kernel, rfl, by decide +kernel, by decide +kernel⟩
theorem ok_moved {f : Addr} {fd : FuncData} (F : Fun K "_law_moved" "_law_moved" s_moved f fd) (CT : Cal P w K mg base 2 "_law_take" ["draw", "size"] spTake) (CP : Cal P w K mg base 3 "_law_pick" ["draw", "some"] (spPickL K)) (CH : Cal P w K mg base 2 "_law_hop" nHop (spHop K))
    (mLen : mg "len" = none) (mTup : mg "tuple" = none) (mSorted : mg "sorted" = none) (mList : mg "list" = none) (mRange : mg "range" = none) : FnOk P w K mg base CX0 4 f fd ["draw", "model", "plan"] (spMoved K) := by
  obtain ⟨fT, fdT, T, kT, bT, gT⟩ := CT.ex
  obtain ⟨fP, fdP, PL, kP, bP, gP⟩ := CP.ex
  obtain ⟨fH, fdH, HO_, kH, bH, gH⟩ := CH.ex
  refine F.ok sc_moved (fun vs H Q E h => ?_) (fun cdv A outer s H vs Q E hr h => ?_)
  · obtain ⟨d, g, c, m, tb, db, sb, pb, t, L, ends, dots, ss, ps, rows, o, n, rfl, _⟩ := h
    rfl
  · obtain ⟨d, g, c, m, tb, db, sb, pb, t, L, ends, dots, ss, ps, rows, o, n, rfl, D, MA, ro, ht, tL, pk, k⟩ := h
    have nd := sc_moved.nd
    have hu := hu_of hr
    have hr2 : Room 2 _ := hr.mono (by decide)
    refine ⟨_, pss_cons (ps_asg (pe_tup (pa_cons (pe_callTy (call_listD rfl) (by rfl) mList (by decide +kernel) (pa_cons (pe_dget hu (pv 1) pe_str (fun _ _ => rfl)) pa_nil)) (pa_cons (pe_lst pa_nil) (pa_cons (pe_lst pa_nil) (pa_cons pe_int (pa_cons (pe_tup pa_nil) pa_nil))))))
        (pg_tup rfl (pgs_cons (pg_name (i := 3) nd rfl (.inr rfl)) (pgs_cons (pg_name (i := 4) nd rfl (.inl rfl)) (pgs_cons (pg_name (i := 5) nd rfl (.inl rfl)) (pgs_cons (pg_name (i := 6) nd rfl (.inl rfl)) (pgs_cons (pg_name (i := 7) nd rfl (.inr rfl)) pgs_nil)))))))
      (C8.pss_cut (ps_setLc (i := 9) (own := [("k", 8)]) (g := gName 8) (tt := tYes) (te := tTup (tCons (tCall (spPickL K) [] E0 (tCons (tVar 0) (tCons (tVar 3) tNil))) (tCons (tCall (spPickL K) [] E0 (tCons (tVar 0) (tCons (tDGet (tVar 1) (tC (.str "dots"))) tNil))) tNil))) (by rfl) nd rfl rfl (sw_true rfl rfl rfl (by decide +kernel))
          (pi_range1 (by rfl) mRange (pa_cons (pe_op op_add pe_int (pe_call T hr2 rfl gT kT bT .nil pass0 (pa_cons (pv 0) (pa_cons pe_int pa_nil)))) pa_nil)) (blkOk_by (own := [("k", 8)]) (N := nMoved) (sc := defScope s_moved) (by decide +kernel))
          (fun _ _ _ _ _ => pg_name (i := 8) nd rfl (Or.inl rfl)) (fun _ _ _ _ _ => pts_nil)
          (fun _ _ _ _ _ => pe_tup (pa_cons (pe_call PL hr rfl gP kP bP .nil pass0 (pa_cons (pv 0) (pa_cons (pv 3) pa_nil))) (pa_cons (pe_call PL hr rfl gP kP bP .nil pass0 (pa_cons (pv 0) (pa_cons (pe_dget hu (pv 1) pe_str (fun _ _ => rfl)) pa_nil))) pa_nil))))
      (pss_cons (ps_for PassesOwn.never rfl (pi_range1 (by rfl) mRange (pa_cons pe_int pa_nil)) (pg_name (i := 10) nd rfl (.inl rfl))
        (C8.pss_cut (ps_setLc (i := 12) (own := [("dot", 11)]) (g := gName 11) (tt := tTest (tOp (rIn K true) (tVar 11) (tVar 7))) (te := tVar 11) (by rfl) nd rfl rfl (sw_true rfl rfl rfl (by decide +kernel))
            (pi_tup (pe_ix ix_list (pe_op op_cat (pe_callTy call_list_of (by rfl) mList (by decide +kernel) (pa_cons (pv 2) pa_nil)) (pe_lst (pa_cons (pe_tup pa_nil) pa_nil))) (pv 6) (fun _ _ => rfl))) (blkOk_by (own := [("dot", 11)]) (N := nMoved) (sc := defScope s_moved) (by decide +kernel))
            (fun _ _ _ _ _ => pg_name (i := 11) nd rfl (Or.inl rfl)) (fun _ _ _ _ _ => pts_one (pt_cmpR op_notIn_seq (pv 11) (pv 7) rfl)) (fun _ _ _ _ _ => pv 11))
        (C8.pss_cut (ps_if (PW.pt (pw_and (pt_cmpR (op_neD hr.units) (pv 12) (pe_lst pa_nil) (nomark _)) (pw_and1 (pt_cmpR op_eq (pe_call T hr2 rfl gT kT bT .nil pass0 (pa_cons (pv 0) (pa_cons pe_int pa_nil))) pe_int (nomark _)))))
          (pss_one (ps_set (i := 7) nd rfl (.inr rfl) (pe_callTy call_tuple_of (by rfl) mTup (by decide +kernel) (pa_cons (pe_callB cr_sortedU (by rfl) mSorted (by decide +kernel) (pa_cons (pe_op op_catU (pv 7) (pe_tup (pa_cons (pe_call PL hr rfl gP kP bP .nil pass0 (pa_cons (pv 0) (pa_cons (pv 12) pa_nil))) pa_nil))) pa_nil)) pa_nil))))
          (pss_one (ps_if (PW.pt (pw_and (pt_cmpR (op_eqD hr.units) (pv 12) (pe_lst pa_nil) (nomark _)) (pw_and1 (pt_cmpR op_lt (pv 6) (pe_callB call_len (by rfl) mLen PySem.boot_len (pa_cons (pv 2) pa_nil)) (nomark _)))))
            (pss_one (ps_asg (pe_tup (pa_cons (pe_op op_add (pv 6) pe_int) (pa_cons (pe_tup pa_nil) pa_nil))) (pg_tup rfl (pgs_cons (pg_name (i := 6) nd rfl (.inl rfl)) (pgs_cons (pg_name (i := 7) nd rfl (.inr rfl)) pgs_nil)))))
            pss_nil)))
        (pss_cons (ps_set (i := 8) nd rfl (.inl rfl) (pe_call T hr2 rfl gT kT bT .nil pass0 (pa_cons (pv 0) (pa_cons (pe_callB call_len (by rfl) mLen PySem.boot_len (pa_cons (pv 9) pa_nil)) pa_nil))))
        (pss_cons (ps_asg (pe_ix ix_list (pv 9) (pv 8) (fun _ _ => rfl)) (pg_tup rfl (pgs_cons (pg_name (i := 13) nd rfl (.inl rfl)) (pgs_cons (pg_name (i := 11) nd rfl (.inl rfl)) pgs_nil))))
        (pss_one (ps_if (pt_cmpR op_in_seq (pv 11) (pe_dget hu (pv 1) pe_str (fun _ _ => rfl)) rfl)
          (pss_cons (ps_asg (pe_tup (pa_cons (pv 13) (pa_cons (pe_call HO_ hr2 rfl gH kH bH .nil pass0 (pa_cons (pv 1) (pa_cons (pv 2) (pa_cons (pv 13) (pa_cons (pv 11) (pa_cons (pv 6) (pa_cons (pv 7) pa_nil))))))) pa_nil))) (pg_sub (pv 9) (pv 8) set_list))
          (pss_cons (ps_expr (pe_bm PySem.F.plainAttrs_list PySem.F.slot_list_append PySem.F.type_list_append mt_append (pv 4) (pa_cons (pe_tup (pa_cons (pv 13) (pa_cons (pv 11) (pa_cons (pe_ix ix_tup (pe_ix ix_list (pv 9) (pv 8) (fun _ _ => rfl)) pe_int (fun _ _ => rfl)) pa_nil)))) pa_nil)))
          (pss_one (ps_expr (pe_bm PySem.F.plainAttrs_list PySem.F.slot_list_append PySem.F.type_list_append mt_append (pv 5) (pa_cons (pe_tup (pa_cons (pv 6) (pa_cons (pv 7) pa_nil))) pa_nil)))))) pss_nil)))))))
      (pss_one (ps_ret (pe_tup (pa_cons (pv 4) (pa_cons (pv 5) pa_nil))))))), ?_⟩
    have ok := MA.ok
    have d6 := ok.d6
    have e2 := ok.e2
    obtain ⟨Pl, hPl⟩ : ∃ Pl, Pl = L.map (·.2) := ⟨_, rfl⟩
    rw [← hPl] at pk
    have l6 := pk.l6
    have pL : L.length ≤ 6 := by have := pk.p6; rw [hPl, List.length_map] at this; exact this
    have eL : ((tkv rows).map fun kv => kV kv.1) = ends.map V.str := by rw [← MA.rk]; exact tkv_keysV rows
    -- ends, found, tale, stage, on
    refine ⟨.ref m, rfl, m, .ref tb, rfl, dget_of (off_some MA.hm).2.2 (mkv_tables _ _ _ _), tb, _, rfl, .inl (off_some MA.ht).2.2, fun le hle => ?_⟩
    rw [eL]
    refine ⟨by show 0 ≤ sizeLine; decide, fun fo hfo => ⟨by show 0 ≤ sizeLine; decide, fun ta hta => ⟨by show 0 ≤ sizeLine; decide, fun b hb => ⟨by show 5 ≤ sizeLine; decide, fun q hq => ⟨q, _, rfl, Evl.st_of upd_same, rfl, _, _, rfl, _, _, rfl, _, _, rfl, _, _, rfl, _, [], rfl, rfl, ?_⟩⟩⟩⟩⟩
    have e1 := Evl.Ex.new (o := HO.lst (ends.map V.str)) hle
    have h1 : H fo = none := ex_none e1 hfo
    have e2' := e1.trans (Evl.Ex.new (o := HO.lst []) hfo)
    have h2 : H ta = none := ex_none e2' hta
    have e3 := e2'.trans (Evl.Ex.new (o := HO.lst []) hta)
    have h3 : H b = none := ex_none e3 hb
    have nl := D.ned hle
    have nf := D.ned h1
    have nt_ := D.ned h2
    have nb := D.ned h3
    have ntf : ta ≠ fo := (ne_of_none (upd_same (H := upd H le (.lst (ends.map V.str))) (a := fo) (o := .lst [])) hta).symm
    have y1 : Evl.Ex H (upd (upd (upd (upd (upd H le (.lst (ends.map V.str))) fo (.lst [])) ta (.lst [])) b (.tup [])) q (.tup [.ref le, .ref fo, .ref ta, .int 0, .ref b])) := (e3.trans (Evl.Ex.new hb)).trans (Evl.Ex.new hq)
    have le1 : off d g (upd (upd (upd (upd (upd H le (.lst (ends.map V.str))) fo (.lst [])) ta (.lst [])) b (.tup [])) q (.tup [.ref le, .ref fo, .ref ta, .int 0, .ref b])) le = some (.lst (ends.map V.str)) := off_of ((((Evl.Ex.new hfo).trans (Evl.Ex.new hta)).trans ((Evl.Ex.new hb).trans (Evl.Ex.new hq))) _ _ upd_same) nl.1 nl.2.1
    have f1 : off d g (upd (upd (upd (upd (upd H le (.lst (ends.map V.str))) fo (.lst [])) ta (.lst [])) b (.tup [])) q (.tup [.ref le, .ref fo, .ref ta, .int 0, .ref b])) fo = some (.lst (([] : List (Addr × Sig)).map fun q => V.ref q.1)) := off_of (((Evl.Ex.new hta).trans ((Evl.Ex.new hb).trans (Evl.Ex.new hq))) _ _ upd_same) nf.1 nf.2.1
    have t1 : off d g (upd (upd (upd (upd (upd H le (.lst (ends.map V.str))) fo (.lst [])) ta (.lst [])) b (.tup [])) q (.tup [.ref le, .ref fo, .ref ta, .int 0, .ref b])) ta = some (.lst (refsS [])) := off_of (((Evl.Ex.new hb).trans (Evl.Ex.new hq)) _ _ upd_same) nt_.1 nt_.2.1
    have b1 : off d g (upd (upd (upd (upd (upd H le (.lst (ends.map V.str))) fo (.lst [])) ta (.lst [])) b (.tup [])) q (.tup [.ref le, .ref fo, .ref ta, .int 0, .ref b])) b = some (.tup (([] : List Str).map V.str)) := off_of ((Evl.Ex.new hq) _ _ upd_same) nb.1 nb.2.1
    have D1 := D.ext y1
    generalize upd (upd (upd (upd (upd H le (.lst (ends.map V.str))) fo (.lst [])) ta (.lst [])) b (.tup [])) q (.tup [.ref le, .ref fo, .ref ta, .int 0, .ref b]) = H1 at y1 le1 f1 t1 b1 D1
    have x1 := off_ex (d := d) (g := g) y1
    have hfo0 : off d g H fo = none := off_free h1
    have hta0 : off d g H ta = none := off_free h2
    -- spots
    refine ⟨fun σ H' => ∃ (sp : Addr) (A : List Pkt), σ = [some (.ref d), some (.ref m), some (.ref t), some (.ref le), some (.ref fo), some (.ref ta), some (.int ((0 : Nat) : Int)), some (.ref b), none, some (.ref sp), none, none, none, none] ∧ DrawAt H' d g c ∧ Evl.Ex (off d g H1) (off d g H') ∧ off d g H1 sp = none ∧ sp ≠ d ∧ sp ≠ g ∧ sp ≠ c ∧ off d g H' sp = some (.lst (A.map fun q => V.ref q.1)) ∧ PktsT (off d g H') A ∧ (∀ q ∈ A, PktOk ends q) ∧ 0 < A.length ∧ A.length ≤ 2, ?_, ?_⟩
    · refine ⟨.ref d, rfl, d, g, c, 2, rfl, by decide, by decide, D1, fun nT H2 n0 n1 D2 x2 => ⟨_, _, rfl, rfl, ?_⟩⟩
      obtain ⟨tn, rfl⟩ := Int.eq_ofNat_of_zero_le n0
      have eT : (1 : Int) + (tn : Int) = ((tn + 1 : Nat) : Int) := by omega
      refine ⟨((tn + 1 : Nat) : Int), congrArg (fun v => [V.int v]) eT, by omega, by omega, fun DL hDL => lc_it walk_range
        (fun i H' => DrawAt H' d g c ∧ Evl.Ex (off d g H1) (off d g H') ∧ ∃ A : List Pkt, off d g H' DL = some (.lst (A.map fun q => V.ref q.1)) ∧ PktsT (off d g H') A ∧ (∀ q ∈ A, PktOk ends q) ∧ A.length = i)
        ⟨D2.ext (Evl.Ex.new hDL), x2.trans (off_ex (Evl.Ex.new hDL)), [], off_of upd_same (D2.ned hDL).1 (D2.ned hDL).2.1, (fun q hq => nomatch hq), (fun q hq => nomatch hq), rfl⟩ (fun _ _ _ _ => trivial) ?_ ?_⟩
      · rintro i v H3' H3 hi ⟨D3, x3, A, l3, tA, okA, lA⟩ ⟨rfl, hv⟩
        rw [Int.toNat_natCast] at hi
        have nD := D2.ned hDL
        have hDL0 : off d g H1 DL = none := ex_none x2 (off_free hDL)
        refine ⟨rfl, yes_if ?_⟩
        refine ⟨.ref d, rfl, .ref le, rfl, d, g, c, le, _, rfl, D3, Evl.sq_of (x3 _ _ le1), by rw [List.length_map]; exact ok.e0, by rw [List.length_map]; omega, fun i1 v1 H4 hv1 D4 x4 => ?_⟩
        obtain ⟨e, he, rfl⟩ := str_at hv1
        have MA4 := MA.ex (x1.trans (x3.trans x4))
        refine ⟨.ref d, rfl, .ref m, rfl, m, _, rfl, dget_of (off_some MA4.hm).2.2 (mkv_dots _ _ _ _), d, g, c, db, _, rfl, D4, Evl.sq_of MA4.hd, by rw [List.length_map]; exact ok.d0, by rw [List.length_map]; omega, fun i2 v2 H5 hv2 D5 x5 => ?_⟩
        obtain ⟨z, hz, rfl⟩ := str_at hv2
        refine ⟨by show 2 ≤ sizeLine; decide, fun u hu => ?_⟩
        have y6 : Evl.Ex H5 (upd H5 u (.tup [.str e, .str z])) := Evl.Ex.new hu
        have nu := D5.ned hu
        have u6 : off d g (upd H5 u (.tup [.str e, .str z])) u = some (.tup [.str e, .str z]) := off_of upd_same nu.1 nu.2.1
        have D6 := D5.ext y6
        generalize upd H5 u (.tup [.str e, .str z]) = H6 at y6 u6 D6
        have x36 := (x4.trans x5).trans (off_ex (d := d) (g := g) y6)
        have l6' := x36 _ _ l3
        refine ⟨_, (off_some l6').2.2, by rw [List.length_map]; exact small1000 (by omega), D6.mut nD.1 nD.2.1 nD.2.2, off_mut (x3.trans x36) hDL0, A ++ [(u, e, .str z)], ?_, fun q hq => ?_, fun q hq => ?_, by rw [List.length_append, lA]; rfl⟩
        · rw [off_upd l6', List.map_append]
          rfl
        · rcases List.mem_append.mp hq with hq | hq
          · exact off_tup_mut (x36 _ _ (tA q hq)) l6'
          · rw [List.mem_singleton.mp hq]
            exact off_tup_mut u6 l6'
        · rcases List.mem_append.mp hq with hq | hq
          · exact okA q hq
          · rw [List.mem_singleton.mp hq]
            exact ⟨List.mem_of_getElem? he, .inr ⟨z, rfl⟩⟩
      · rintro H3 ⟨D3, x3, A, l3, tA, okA, lA⟩
        rw [Int.toNat_natCast] at lA
        have nD := D2.ned hDL
        exact ⟨DL, A, rfl, D3, x3, ex_none x2 (off_free hDL), nD.1, nD.2.1, nD.2.2, l3, tA, okA, by omega, by omega⟩
    rintro σ H3 ⟨sp, A0, rfl, D3, x3, sp0, s1, s2, s3, hsp, tA0, okA0, A0l, A02⟩
    have nsf : sp ≠ fo := fun z => by rw [z, f1] at sp0; cases sp0
    have nst : sp ≠ ta := fun z => by rw [z, t1] at sp0; cases sp0
    have spH : off d g H sp = none := ex_none x1 sp0
    have x13 := x1.trans x3
    refine ⟨12, rfl, by decide, by decide, for_range (lo := 0) (n := 12)
      (fun i σ H' => ∃ (kk : Nat) (b : Addr) (os : List Str) (S : List (Addr × Sig)) (Tl : List StaR) (A : List Pkt) (x8 x10 x11 x12 x13 : Option V), σ = [some (.ref d), some (.ref m), some (.ref t), some (.ref le), some (.ref fo), some (.ref ta), some (.int (kk : Int)), some (.ref b), x8, some (.ref sp), x10, x11, x12, x13] ∧ DrawAt H' d g c ∧ Evl.Ex (off d g H) (off d g H') ∧ kk ≤ L.length ∧ off d g H' b = some (.tup (os.map V.str)) ∧ os.Nodup ∧ (∀ z ∈ os, z ∈ lotOf Pl kk) ∧ sortedS os = true ∧
        off d g H' fo = some (.lst (S.map fun q => V.ref q.1)) ∧ SigsT (off d g H') S ∧ (∀ q ∈ S, SigOk ends dots q.2) ∧ S.length ≤ i ∧ off d g H' ta = some (.lst (refsS Tl)) ∧ StasT (off d g H') Tl ∧ StoryL folB (seenStas Pl o n (S.map (·.2))) (Tl.map StaR.st) ∧ (∀ u, (Tl.map StaR.st).getLast? = some u → folB u (kk, os) = true) ∧
        off d g H' sp = some (.lst (A.map fun q => V.ref q.1)) ∧ PktsT (off d g H') A ∧ (∀ q ∈ A, PktOk ends q) ∧ 0 < A.length ∧ A.length ≤ 2)
      ⟨0, b, [], [], [], A0, none, none, none, none, none, rfl, D3, x13, Nat.zero_le _, x3 _ _ b1, List.nodup_nil, (fun z hz => nomatch hz), rfl, x3 _ _ f1, (fun q hq => nomatch hq), (fun q hq => nomatch hq), Nat.le_refl _, x3 _ _ t1, (fun q hq => nomatch hq), trivial, (fun u h => by cases h), hsp, tA0, okA0, A0l, A02⟩ ?_ ?_⟩
    · rintro i σ H5 hi ⟨kk, b, os, S, Tl, A, x8, x10, x11, x12, x13', rfl, D5, x5, hkk, hb5, on5, ol5, so5, f5, tS5, okS, lS, t5, tT5, sT, gT_, sp5, tA, okA, Al, A2⟩
      have ht5 := x5 _ _ ht
      have tL5 := tL.to x5
      have osl : os.length ≤ 6 := Nat.le_trans (nodup_le os _ on5 ol5) (Nat.le_trans (lot_sub kk).length_le l6)
      -- rest
      refine ⟨fun σ H' => ∃ (rl : Addr) (rs : List Str), σ = [some (.ref d), some (.ref m), some (.ref t), some (.ref le), some (.ref fo), some (.ref ta), some (.int (kk : Int)), some (.ref b), x8, some (.ref sp), some (.int (0 + (i : Int))), x11, some (.ref rl), x13'] ∧ DrawAt H' d g c ∧ Evl.Ex (off d g H5) (off d g H') ∧ off d g H' rl = some (.lst (rs.map V.str)) ∧ rs.length ≤ 6 ∧ ∀ z ∈ rs, z ∈ lotOf Pl kk ∧ z ∉ os, ?_, ?_⟩
      · refine ⟨.ref t, rfl, t, _, rfl, .inl (Evl.sq_of (off_some ht5).2.2), fun l1 hl1 => ⟨by show 0 ≤ sizeLine; decide, fun e0 he0 => ⟨by show 1 ≤ sizeLine; decide, fun p0 hp0 => ?_⟩⟩⟩
        have a1 : (upd (upd (upd H5 l1 (.lst (L.map fun q => V.ref q.1))) e0 (.tup [])) p0 (.lst [.ref e0])) l1 = some (.lst (L.map fun q => V.ref q.1)) := ((Evl.Ex.new he0).trans (Evl.Ex.new hp0)) _ _ upd_same
        have a2 : (upd (upd (upd H5 l1 (.lst (L.map fun q => V.ref q.1))) e0 (.tup [])) p0 (.lst [.ref e0])) p0 = some (.lst [.ref e0]) := upd_same
        have a3 : (upd (upd (upd H5 l1 (.lst (L.map fun q => V.ref q.1))) e0 (.tup [])) p0 (.lst [.ref e0])) e0 = some (.tup (([] : List Str).map V.str)) := (Evl.Ex.new hp0) _ _ upd_same
        have z6 : Evl.Ex H5 (upd (upd (upd H5 l1 (.lst (L.map fun q => V.ref q.1))) e0 (.tup [])) p0 (.lst [.ref e0])) := (Evl.Ex.new hl1).trans ((Evl.Ex.new he0).trans (Evl.Ex.new hp0))
        generalize upd (upd (upd H5 l1 (.lst (L.map fun q => V.ref q.1))) e0 (.tup [])) p0 (.lst [.ref e0]) = H6 at a1 a2 a3 z6
        refine ⟨l1, p0, _, _, rfl, rfl, a1, a2, by rw [List.length_map]; exact Nat.le_of_lt (small1000 (by show L.length + 1 ≤ 1000; omega)), fun cc hcc => ?_⟩
        obtain ⟨R, hR⟩ : ∃ R, R = L ++ [(e0, ([] : List Str))] := ⟨_, rfl⟩
        have c7 : (upd H6 cc (.lst (L.map (fun q => V.ref q.1) ++ [.ref e0]))) cc = some (.lst (R.map fun q => V.ref q.1)) := by rw [upd_same, hR, List.map_append]; rfl
        have z7 : Evl.Ex H6 (upd H6 cc (.lst (L.map (fun q => V.ref q.1) ++ [.ref e0]))) := Evl.Ex.new hcc
        generalize upd H6 cc (.lst (L.map (fun q => V.ref q.1) ++ [.ref e0])) = H7 at c7 z7
        have z57 := z6.trans z7
        have tR : RowsT H7 R := by
          rw [hR]
          exact ((tL5.to (ex_off d g H5)).to z57).app fun q hq => by rw [List.mem_singleton.mp hq]; exact z7 _ _ a3
        have kR : kk < R.length := by rw [hR, List.length_append, List.length_singleton]; omega
        obtain ⟨q, hq⟩ : ∃ q, R[kk]? = some q := ⟨_, List.getElem?_eq_getElem kR⟩
        have q2 : q.2 = lotOf Pl kk := by
          rw [← lot_app, show Pl ++ [[]] = R.map (·.2) by rw [hR, hPl, List.map_append]; rfl]
          unfold lotOf
          rw [List.getElem?_map, hq]
          rfl
        have tq := tR q (List.mem_of_getElem? hq)
        have ql : q.2.length ≤ 6 := by rw [q2]; exact Nat.le_trans (lot_sub kk).length_le l6
        have hb7 := z57 _ _ (off_some hb5).2.2
        refine ⟨.int (kk : Int), rfl, cc, _, (kk : Int), .ref q.1, rfl, rfl, Evl.sq_of c7, atI_nat (by rw [List.getElem?_map, hq]; rfl), q.1, rfl, ⟨_, Evl.st_of tq⟩, fun D0 hD0 => lc_tup (K := K) (a := q.1) (xs := q.2.map V.str)
          (fun l H' => Evl.Ex H7 H' ∧ H' D0 = some (.lst (((q.2.take l).filter fun z => decide (z ∉ os)).map V.str))) ⟨Evl.Ex.new hD0, upd_same⟩ (fun l H' _ h => Evl.st_of (h.1 _ _ tq)) ?_ ?_⟩
        · rintro l v H8 hl ⟨x8', d8⟩
          obtain ⟨z, hz, rfl⟩ := str_at hl
          have ez : q.2.take (l + 1) = q.2.take l ++ [z] := by rw [List.take_add_one, hz]; rfl
          have fl : ((q.2.take l).filter fun z => decide (z ∉ os)).length ≤ 100 := Nat.le_trans (List.length_filter_le _ _) (by rw [List.length_take]; omega)
          refine ⟨rfl, .str z, rfl, .ref b, rfl, b, os.map V.str, rfl, .inr (Evl.st_of (x8' _ _ hb7)), rfl, flat_strs _, _, rfl, ?_⟩
          rw [inV_str]
          by_cases mz : z ∈ os
          · rw [decide_eq_true mz]
            refine iteF ⟨x8', ?_⟩
            rw [d8, ez, List.filter_append, List.filter_cons_of_neg (by rw [decide_eq_false (not_not_intro mz)]; decide), List.filter_nil, List.append_nil]
          · rw [decide_eq_false mz]
            refine iteT ⟨.str z, rfl, _, d8, by rw [List.length_map]; exact small1000 (by omega), x8'.mut hD0, ?_⟩
            rw [upd_same, ez, List.filter_append, List.filter_cons_of_pos (by rw [decide_eq_true mz]), List.filter_nil, List.map_append]
            rfl
        · rintro H8 ⟨x8', d8⟩
          rw [List.length_map, List.take_length] at d8
          have z58 := z57.trans x8'
          have nD0 : D0 ≠ d ∧ D0 ≠ g ∧ D0 ≠ c := (D5.ext z57).ned hD0
          refine ⟨D0, _, rfl, D5.ext z58, off_ex z58, off_of d8 nD0.1 nD0.2.1, Nat.le_trans (List.length_filter_le _ _) ql, fun z hz => ?_⟩
          have := List.mem_filter.mp hz
          exact ⟨by rw [← q2]; exact this.1, of_decide_eq_true this.2⟩
      rintro σ H6 ⟨rl, rs, rfl, D6, x6, rl6, rsl, rsm⟩
      -- the moment goes on, or not
      refine ⟨fun σ H' => ∃ (kk' : Nat) (b' : Addr) (os' : List Str), σ = [some (.ref d), some (.ref m), some (.ref t), some (.ref le), some (.ref fo), some (.ref ta), some (.int (kk' : Int)), some (.ref b'), x8, some (.ref sp), some (.int (0 + (i : Int))), x11, some (.ref rl), x13'] ∧ DrawAt H' d g c ∧ Evl.Ex (off d g H5) (off d g H') ∧ kk' ≤ L.length ∧ off d g H' b' = some (.tup (os'.map V.str)) ∧ os'.Nodup ∧ (∀ z ∈ os', z ∈ lotOf Pl kk') ∧ sortedS os' = true ∧ folB (kk, os) (kk', os') = true, ?_, ?_⟩
      · have hb6 := x6 _ _ hb5
        have same : ∀ (H' : Hp), DrawAt H' d g c → Evl.Ex (off d g H6) (off d g H') → ∃ (kk' : Nat) (b' : Addr) (os' : List Str), ([some (.ref d), some (.ref m), some (.ref t), some (.ref le), some (.ref fo), some (.ref ta), some (.int (kk : Int)), some (.ref b), x8, some (.ref sp), some (.int (0 + (i : Int))), x11, some (.ref rl), x13'] : List (Option V)) = [some (.ref d), some (.ref m), some (.ref t), some (.ref le), some (.ref fo), some (.ref ta), some (.int (kk' : Int)), some (.ref b'), x8, some (.ref sp), some (.int (0 + (i : Int))), x11, some (.ref rl), x13'] ∧ DrawAt H' d g c ∧ Evl.Ex (off d g H5) (off d g H') ∧ kk' ≤ L.length ∧ off d g H' b' = some (.tup (os'.map V.str)) ∧ os'.Nodup ∧ (∀ z ∈ os', z ∈ lotOf Pl kk') ∧ sortedS os' = true ∧ folB (kk, os) (kk', os') = true := fun H' D' x' => ⟨kk, b, os, rfl, D', x6.trans x', hkk, x' _ _ hb6, on5, ol5, so5, folB_self _⟩
        refine ⟨.ref rl, rfl, Nat.zero_le _, fun p hp => ?_⟩
        have y7 : Evl.Ex H6 (upd H6 p (.lst [])) := Evl.Ex.new hp
        obtain ⟨dd, g1, g2, g3⟩ := data_list (K := K) (H := upd H6 p (.lst [])) (Evl.sq_of (y7 _ _ (off_some rl6).2.2)) fun v hv => by
          obtain ⟨z, hz, rfl⟩ := List.mem_map.mp hv
          exact nm_data (pk.nm z ((lot_sub kk).subset (rsm z hz).1))
        refine ⟨dd, .list [], g1, .lst (Evl.sq_of upd_same) .nil, g2, by rfl, _, rfl, ?_⟩
        rw [g3]
        have D7 := D6.ext y7
        have rl7 := off_ex (d := d) (g := g) y7 _ _ rl6
        have x67 : Evl.Ex (off d g H6) (off d g (upd H6 p (.lst []))) := off_ex y7
        generalize upd H6 p (.lst []) = H7 at y7 D7 rl7 x67
        cases hE : (rs.map V.str).isEmpty with
        | true =>
          refine iteF (iteF ⟨.ref rl, rfl, Nat.zero_le _, fun p2 hp2 => ?_⟩)
          have y8 : Evl.Ex H7 (upd H7 p2 (.lst [])) := Evl.Ex.new hp2
          obtain ⟨dd2, g4, g5, g6⟩ := data_list (K := K) (H := upd H7 p2 (.lst [])) (Evl.sq_of (y8 _ _ (off_some rl7).2.2)) fun v hv => by
            obtain ⟨z, hz, rfl⟩ := List.mem_map.mp hv
            exact nm_data (pk.nm z ((lot_sub kk).subset (rsm z hz).1))
          refine ⟨dd2, .list [], g4, .lst (Evl.sq_of upd_same) .nil, g5, by rfl, _, rfl, ?_⟩
          rw [g6, hE]
          have D8 := D7.ext y8
          have x68 := x67.trans (off_ex (d := d) (g := g) y8)
          generalize upd H7 p2 (.lst []) = H8 at D8 x68
          refine iteT ⟨.int (kk : Int), rfl, .ref t, rfl, .ref t, L.length, rfl, .inl ⟨_, Evl.sq_of (off_some ((x6.trans x68) _ _ ht5)).2.2, by rw [List.length_map]⟩, _, _, rfl, rfl, _, rfl, ?_⟩
          by_cases ck : kk < L.length
          · rw [decide_eq_true (by omega)]
            refine iteT ⟨.int (kk : Int), rfl, _, 1, rfl, rfl, by show 0 ≤ sizeLine; decide, fun b2 hb2 => ⟨by show 2 ≤ sizeLine; decide, fun q2' hq2 => ⟨q2', _, rfl, Evl.st_of upd_same, rfl, _, _, rfl, _, [], rfl, rfl, ?_⟩⟩⟩
            have yA := (Evl.Ex.new (o := HO.tup []) hb2).trans (Evl.Ex.new (o := HO.tup [.int ((kk : Int) + 1), .ref b2]) hq2)
            have nb2 := D8.ned hb2
            exact ⟨kk + 1, b2, [], rfl, D8.ext yA, (x6.trans x68).trans (off_ex yA), ck, off_of ((Evl.Ex.new hq2) _ _ upd_same) nb2.1 nb2.2.1, List.nodup_nil, (fun z hz => nomatch hz), rfl, folB_iff.mpr (.inl (Nat.lt_succ_self kk))⟩
          · rw [decide_eq_false (by omega)]
            exact iteF (same H8 D8 x68)
        | false =>
          have r0 : 0 < rs.length := by cases rs with
            | nil => cases hE
            | cons y r => exact Nat.succ_pos _
          refine iteT ⟨.ref d, rfl, d, g, c, 2, rfl, by decide, by decide, D7, fun tk H8 t0 t1 D8 y8 => ⟨rfl, _, rfl, ?_⟩⟩
          have x68 := x67.trans y8
          by_cases c0 : tk = 0
          · rw [decide_eq_true (by rw [c0])]
            refine iteT ⟨.ref b, rfl, .ref d, rfl, .ref rl, rfl, d, g, c, rl, _, rfl, D8, Evl.sq_of (y8 _ _ rl7), by rw [List.length_map]; exact r0, by rw [List.length_map]; omega, fun i2 v HA hv DA xA => ?_⟩
            obtain ⟨z, hz, rfl⟩ := str_at hv
            have mz := rsm z (List.mem_of_getElem? hz)
            refine ⟨by show 1 ≤ sizeLine; decide, fun u1 hu1 => ?_⟩
            have yB : Evl.Ex HA (upd HA u1 (.tup [.str z])) := Evl.Ex.new hu1
            have u1' : (upd HA u1 (.tup [.str z])) u1 = some (.tup ([z].map V.str)) := upd_same
            have DB := DA.ext yB
            have bB := off_ex (d := d) (g := g) yB _ _ (xA _ _ (x68 _ _ hb6))
            generalize upd HA u1 (.tup [.str z]) = HB at yB u1' DB bB
            refine ⟨b, u1, _, _, rfl, rfl, (off_some bB).2.2, u1', by rw [List.length_map, List.length_map]; exact Nat.le_of_lt (small1000 (by show os.length + 1 ≤ 1000; omega)), fun q1 HC xC hq1 => ?_⟩
            refine ⟨q1, os ++ [z], rfl, Evl.st_of (by rw [hq1, List.map_append]), by rw [List.length_append, List.length_singleton]; omega, fun us p2 perm so hp2 => ⟨p2, us.map V.str, rfl, .inl ⟨Evl.sq_of upd_same, fun r hr0 => ?_⟩⟩⟩
            have yD := (Evl.Ex.new (o := HO.lst (us.map V.str)) hp2).trans (Evl.Ex.new (o := HO.tup (us.map V.str)) hr0)
            have yBD := (yB.trans xC).trans yD
            have DC := DB.ext xC
            have nr := (DC.ext (Evl.Ex.new (o := HO.lst (us.map V.str)) hp2)).ned hr0
            refine ⟨kk, r, us, rfl, DA.ext yBD, ((x6.trans x68).trans xA).trans (off_ex yBD), hkk, off_of upd_same nr.1 nr.2.1, perm.nodup_iff.mpr (List.nodup_append.mpr ⟨on5, List.nodup_cons.mpr ⟨List.not_mem_nil, List.nodup_nil⟩, fun a ha b' hb' e => ?_⟩), fun y hy => ?_, so, folB_iff.mpr (.inr ⟨rfl, fun y hy => perm.symm.subset (List.mem_append_left _ hy)⟩)⟩
            · rw [List.mem_singleton.mp hb'] at e
              rw [e] at ha
              exact mz.2 ha
            · rcases List.mem_append.mp (perm.subset hy) with h | h
              · exact ol5 y h
              · rw [List.mem_singleton.mp h]
                exact mz.1
          · rw [decide_eq_false (fun z => c0 (by injection z))]
            have rl8 := y8 _ _ rl7
            refine iteF ⟨.ref rl, rfl, Nat.zero_le _, fun p2 hp2 => ?_⟩
            have y9 : Evl.Ex H8 (upd H8 p2 (.lst [])) := Evl.Ex.new hp2
            obtain ⟨dd2, g4, g5, g6⟩ := data_list (K := K) (H := upd H8 p2 (.lst [])) (Evl.sq_of (y9 _ _ (off_some rl8).2.2)) fun v hv => by
              obtain ⟨z, hz, rfl⟩ := List.mem_map.mp hv
              exact nm_data (pk.nm z ((lot_sub kk).subset (rsm z hz).1))
            refine ⟨dd2, .list [], g4, .lst (Evl.sq_of upd_same) .nil, g5, by rfl, _, rfl, ?_⟩
            rw [g6, hE]
            exact iteF (iteF (same _ (D8.ext y9) (x68.trans (off_ex y9))))
      rintro σ H7 ⟨kk', b', os', rfl, D7, x7, hkk', hb7, on7, ol7, so7, fo7⟩
      have x57 := x5.trans x7
      have fo7' := fo7
      -- k
      refine ⟨.ref d, rfl, .ref sp, rfl, .ref sp, A.length, rfl, .inl ⟨_, Evl.sq_of (off_some (x7 _ _ sp5)).2.2, by rw [List.length_map]⟩, d, g, c, _, rfl, by omega, by omega, D7, fun kN H8 k0 k1 D8 x8' => ?_⟩
      obtain ⟨kn, rfl⟩ := Int.eq_ofNat_of_zero_le k0
      have knA : kn < A.length := by omega
      have x58 := x57.trans x8'
      have x78 := x7.trans x8'
      obtain ⟨q, hq⟩ : ∃ q, A[kn]? = some q := ⟨_, List.getElem?_eq_getElem knA⟩
      have mq := List.mem_of_getElem? hq
      have sp8 := x78 _ _ sp5
      have tq := x78 _ _ (tA q mq)
      obtain ⟨qe, qv⟩ := okA q mq
      -- end, dot
      refine ⟨.ref sp, rfl, .int (kn : Int), rfl, sp, _, (kn : Int), .ref q.1, rfl, rfl, Evl.sq_of (off_some sp8).2.2, atI_nat (by rw [List.getElem?_map, hq]; rfl), q.1, _, rfl, Evl.st_of (off_some tq).2.2, rfl, _, _, rfl, _, [], rfl, rfl, ?_⟩
      have MA8 := MA.ex x58
      have ro8 := ro.ex x58
      have stay : ∀ {y13 y11 : Option V}, ∃ (kk : Nat) (b : Addr) (os : List Str) (S : List (Addr × Sig)) (Tl : List StaR) (A : List Pkt) (x8 x10 x11 x12 x13 : Option V), ([some (.ref d), some (.ref m), some (.ref t), some (.ref le), some (.ref fo), some (.ref ta), some (.int (kk' : Int)), some (.ref b'), some (.int (kn : Int)), some (.ref sp), some (.int (0 + (i : Int))), y11, some (.ref rl), y13] : List (Option V)) = [some (.ref d), some (.ref m), some (.ref t), some (.ref le), some (.ref fo), some (.ref ta), some (.int (kk : Int)), some (.ref b), x8, some (.ref sp), x10, x11, x12, x13] ∧ DrawAt H8 d g c ∧ Evl.Ex (off d g H) (off d g H8) ∧ kk ≤ L.length ∧ off d g H8 b = some (.tup (os.map V.str)) ∧ os.Nodup ∧ (∀ z ∈ os, z ∈ lotOf Pl kk) ∧ sortedS os = true ∧
        off d g H8 fo = some (.lst (S.map fun q => V.ref q.1)) ∧ SigsT (off d g H8) S ∧ (∀ q ∈ S, SigOk ends dots q.2) ∧ S.length ≤ i + 1 ∧ off d g H8 ta = some (.lst (refsS Tl)) ∧ StasT (off d g H8) Tl ∧ StoryL folB (seenStas Pl o n (S.map (·.2))) (Tl.map StaR.st) ∧ (∀ u, (Tl.map StaR.st).getLast? = some u → folB u (kk, os) = true) ∧
        off d g H8 sp = some (.lst (A.map fun q => V.ref q.1)) ∧ PktsT (off d g H8) A ∧ (∀ q ∈ A, PktOk ends q) ∧ 0 < A.length ∧ A.length ≤ 2 :=
        fun {_ _} => ⟨kk', b', os', S, Tl, A, _, _, _, _, _, rfl, D8, x58, hkk', x8' _ _ hb7, on7, ol7, so7, x78 _ _ f5, tS5.to x78, okS, by omega, x78 _ _ t5, tT5.to x78, sT, fun u hu => folB_trans (gT_ u hu) fo7, sp8, tA.to x78, okA, Al, A2⟩
      have flq : flatV q.2.2 = true := by rcases qv with e | ⟨y, e⟩ <;> rw [e] <;> rfl
      refine ⟨q.2.2, rfl, .ref m, rfl, m, _, rfl, dget_of (off_some MA8.hm).2.2 (mkv_dots _ _ _ _), db, dots.map V.str, rfl, .inl (Evl.sq_of (off_some MA8.hd).2.2), flq, flat_strs _, _, rfl, ?_⟩
      rcases qv with qv | ⟨z, qv⟩
      · rw [qv, inV_non]
        exact iteF stay
      rw [qv, inV_str]
      by_cases mz : z ∈ dots
      · rw [decide_eq_true mz]
        obtain ⟨qa, e, v0⟩ := q
        have qv' : v0 = .str z := qv
        subst qv'
        have me : e ∈ ends := qe
        have f8 := x78 _ _ f5
        have t8 := x78 _ _ t5
        have b8 := x8' _ _ hb7
        refine iteT ⟨.str e, rfl, .ref m, rfl, .ref t, rfl, .str e, rfl, .str z, rfl, .int (kk' : Int), rfl, .ref b', rfl, m, tb, db, sb, pb, t, b', e, z, kk', L, os', ends, dots, ss, ps, rows, o, n, rfl, MA8.ex (ex_off d g H8), ro8.ex (ex_off d g H8), Evl.sq_of (off_some (x58 _ _ ht)).2.2, (tL.to x58).to (ex_off d g H8), by rw [← hPl]; exact l6, (off_some b8).2.2, me, mz, fun H9 x9' => ?_⟩
        obtain ⟨v, hv⟩ : ∃ v, v = look (if newB (L.map (·.2)) (kk', os') z = true then n e else o e) z := ⟨_, rfl⟩
        rw [← hv]
        have pv_ : PlaceOk dots e z v := by
          obtain ⟨p, po, pn, _, pa⟩ := ro e me
          rw [hv]
          by_cases q : newB (L.map (·.2)) (kk', os') z = true
          · rw [if_pos q]; exact (look_ok pa.o2 mz).1
          · rw [if_neg q]; exact (look_ok pa.o1 mz).1
        refine ⟨by show 2 ≤ sizeLine; decide, fun u hu => ?_⟩
        have yA : Evl.Ex H8 (upd H9 u (.tup [.str e, v])) := x9'.trans (Evl.Ex.new hu)
        have nu := (D8.ext x9').ned hu
        have uA : off d g (upd H9 u (.tup [.str e, v])) u = some (.tup [.str e, v]) := off_of upd_same nu.1 nu.2.1
        have DA := D8.ext yA
        generalize upd H9 u (.tup [.str e, v]) = HA at yA uA DA
        have x8A := off_ex (d := d) (g := g) yA
        have xA := x58.trans x8A
        have spA := x8A _ _ sp8
        -- spots[k] = ..
        refine ⟨.ref sp, rfl, .int (kn : Int), rfl, sp, _, (kn : Int), kn, rfl, rfl, (off_some spA).2.2, ixN_in (by rw [List.length_map]; exact knA), ?_⟩
        have eA : (A.map fun q => V.ref q.1).set kn (.ref u) = (A.set kn (u, e, v)).map fun q => V.ref q.1 := by rw [List.map_set]
        rw [eA]
        have DB : DrawAt (upd HA sp (.lst ((A.set kn (u, e, v)).map fun q => V.ref q.1))) d g c := DA.mut s1 s2 s3
        have xB : Evl.Ex (off d g H) (off d g (upd HA sp (.lst ((A.set kn (u, e, v)).map fun q => V.ref q.1)))) := off_mut xA spH
        have spB : off d g (upd HA sp (.lst ((A.set kn (u, e, v)).map fun q => V.ref q.1))) sp = some (.lst ((A.set kn (u, e, v)).map fun q => V.ref q.1)) := off_upd spA
        have fB : off d g (upd HA sp (.lst ((A.set kn (u, e, v)).map fun q => V.ref q.1))) fo = some (.lst (S.map fun q => V.ref q.1)) := off_lst_mut (x8A _ _ f8) nsf.symm
        have tB : off d g (upd HA sp (.lst ((A.set kn (u, e, v)).map fun q => V.ref q.1))) ta = some (.lst (refsS Tl)) := off_lst_mut (x8A _ _ t8) nst.symm
        have bB := off_tup_mut (zs := (A.set kn (u, e, v)).map fun q => V.ref q.1) (x8A _ _ b8) spA
        have uB := off_tup_mut (zs := (A.set kn (u, e, v)).map fun q => V.ref q.1) uA spA
        have SB : SigsT (off d g (upd HA sp (.lst ((A.set kn (u, e, v)).map fun q => V.ref q.1)))) S := fun r hr => off_tup_mut (x8A _ _ (x78 _ _ (tS5 r hr))) spA
        have TB : StasT (off d g (upd HA sp (.lst ((A.set kn (u, e, v)).map fun q => V.ref q.1)))) Tl := ((tT5.to x78).to x8A).off_mut spA
        have AB : PktsT (off d g (upd HA sp (.lst ((A.set kn (u, e, v)).map fun q => V.ref q.1)))) (A.set kn (u, e, v)) := fun r hr => by
          rcases pkt_set hr with h | h
          · exact off_tup_mut (x8A _ _ (x78 _ _ (tA r h))) spA
          · rw [h]; exact uB
        generalize hAs : A.set kn (u, e, v) = A' at *
        have A'k : A'[kn]? = some (u, e, v) := by rw [← hAs, List.getElem?_set_self knA]
        have okA' : ∀ q ∈ A', PktOk ends q := fun r hr => by
          rw [← hAs] at hr
          rcases pkt_set hr with h | h
          · exact okA r h
          · rw [h]
            refine ⟨me, ?_⟩
            rcases pv_ with h | h | ⟨y, hy, _, h⟩
            · exact .inl h
            · exact .inr ⟨_, h⟩
            · exact .inr ⟨_, h⟩
        have lA' : A'.length = A.length := by rw [← hAs, List.length_set]
        generalize upd HA sp (.lst (A'.map fun q => V.ref q.1)) = HB at DB xB spB fB tB bB uB SB TB AB
        -- found.append
        refine ⟨.ref fo, rfl, .inl ⟨rfl, _, Evl.sq_of (off_some fB).2.2⟩, .str e, rfl, .str z, rfl, .ref sp, rfl, .int (kn : Int), rfl, sp, _, (kn : Int), .ref u, rfl, rfl, Evl.sq_of (off_some spB).2.2, atI_nat (by rw [List.getElem?_map, A'k]; rfl), u, _, 1, v, rfl, rfl, Evl.st_of (off_some uB).2.2, atI_nat (j := 1) rfl, by show 3 ≤ sizeLine; decide, fun u2 hu2 => ?_⟩
        have yC : Evl.Ex HB (upd HB u2 (.tup [.str e, .str z, v])) := Evl.Ex.new hu2
        have nu2 := DB.ned hu2
        have u2C : off d g (upd HB u2 (.tup [.str e, .str z, v])) u2 = some (.tup [.str e, .str z, v]) := off_of upd_same nu2.1 nu2.2.1
        have DC := DB.ext yC
        generalize upd HB u2 (.tup [.str e, .str z, v]) = HC at yC u2C DC
        have xBC := off_ex (d := d) (g := g) yC
        have fC := xBC _ _ fB
        refine ⟨fo, _, .ref u2, rfl, rfl, (off_some fC).2.2, by rw [List.length_map]; exact small1000 (by omega), ?_⟩
        have SD : SigsT (off d g (upd HC fo (.lst (S.map (fun q => V.ref q.1) ++ [.ref u2])))) (S ++ [(u2, (e, z, v))]) := fun r hr => by
          rcases List.mem_append.mp hr with hr | hr
          · exact off_tup_mut (xBC _ _ (SB r hr)) fC
          · rw [List.mem_singleton.mp hr]; exact off_tup_mut u2C fC
        have DD : DrawAt (upd HC fo (.lst (S.map (fun q => V.ref q.1) ++ [.ref u2]))) d g c := DC.mut nf.1 nf.2.1 nf.2.2
        have xD : Evl.Ex (off d g H) (off d g (upd HC fo (.lst (S.map (fun q => V.ref q.1) ++ [.ref u2])))) := off_mut (xB.trans xBC) hfo0
        have fD : off d g (upd HC fo (.lst (S.map (fun q => V.ref q.1) ++ [.ref u2]))) fo = some (.lst ((S ++ [(u2, (e, z, v))]).map fun q => V.ref q.1)) := by rw [off_upd fC, List.map_append]; rfl
        have tD : off d g (upd HC fo (.lst (S.map (fun q => V.ref q.1) ++ [.ref u2]))) ta = some (.lst (refsS Tl)) := off_lst_mut (xBC _ _ tB) ntf
        have spD : off d g (upd HC fo (.lst (S.map (fun q => V.ref q.1) ++ [.ref u2]))) sp = some (.lst (A'.map fun q => V.ref q.1)) := off_lst_mut (xBC _ _ spB) nsf
        have bD := off_tup_mut (zs := S.map (fun q => V.ref q.1) ++ [.ref u2]) (xBC _ _ bB) fC
        have TD : StasT (off d g (upd HC fo (.lst (S.map (fun q => V.ref q.1) ++ [.ref u2])))) Tl := (TB.to xBC).off_mut fC
        have AD : PktsT (off d g (upd HC fo (.lst (S.map (fun q => V.ref q.1) ++ [.ref u2])))) A' := fun r hr => off_tup_mut (xBC _ _ (AB r hr)) fC
        generalize upd HC fo (.lst (S.map (fun q => V.ref q.1) ++ [.ref u2])) = HD at SD DD xD fD tD spD bD TD AD
        -- tale.append
        refine ⟨.ref ta, rfl, .inl ⟨rfl, _, Evl.sq_of (off_some tD).2.2⟩, .int (kk' : Int), rfl, .ref b', rfl, by show 2 ≤ sizeLine; decide, fun u3 hu3 => ?_⟩
        have yE : Evl.Ex HD (upd HD u3 (.tup [.int (kk' : Int), .ref b'])) := Evl.Ex.new hu3
        have nu3 := DD.ned hu3
        have u3E : off d g (upd HD u3 (.tup [.int (kk' : Int), .ref b'])) u3 = some (.tup [.int (kk' : Int), .ref b']) := off_of upd_same nu3.1 nu3.2.1
        have DE := DD.ext yE
        generalize upd HD u3 (.tup [.int (kk' : Int), .ref b']) = HE at yE u3E DE
        have xDE := off_ex (d := d) (g := g) yE
        have tE := xDE _ _ tD
        have lT : Tl.length = S.length := by
          have := storyL_len sT
          unfold seenStas at this
          rw [List.length_map, List.length_map, List.length_map] at this
          exact this
        refine ⟨ta, _, .ref u3, rfl, rfl, (off_some tE).2.2, by rw [List.length_map]; exact small1000 (by omega), ?_⟩
        refine ⟨kk', b', os', S ++ [(u2, (e, z, v))], Tl ++ [(⟨u3, b', kk', os'⟩ : StaR)], A', _, _, _, _, _, rfl, DE.mut nt_.1 nt_.2.1 nt_.2.2, off_mut (xD.trans xDE) hta0, hkk', off_tup_mut (xDE _ _ bD) tE, on7, ol7, so7, off_lst_mut (xDE _ _ fD) ntf.symm, fun r hr => off_tup_mut (xDE _ _ (SD r hr)) tE, fun r hr => ?_, by rw [List.length_append, List.length_singleton]; omega, ?_, StasT.off_mut (fun r hr => ?_) tE, ?_, fun u hu => ?_, off_lst_mut (xDE _ _ spD) nst, fun r hr => off_tup_mut (xDE _ _ (AD r hr)) tE, okA', by omega, by omega⟩
        · rcases List.mem_append.mp hr with hr | hr
          · exact okS r hr
          · rw [List.mem_singleton.mp hr]
            exact ⟨me, mz, pv_⟩
        · rw [off_upd tE]
          show _ = some (HO.lst (List.map _ _))
          rw [List.map_append]
          rfl
        · rcases List.mem_append.mp hr with hr | hr
          · exact (TD.to xDE) r hr
          · rw [List.mem_singleton.mp hr]
            exact ⟨u3E, xDE _ _ bD⟩
        · rw [List.map_append, List.map_append]
          show StoryL folB (seenStas Pl o n (S.map (·.2) ++ [(e, z, v)])) _
          rw [seenStas_snoc]
          refine storyL_snoc (List.mem_filter.mpr ⟨allStas_mem.mpr ⟨?_, partsS_has (sub_sorted so7 on7 ?_ (pk.fl.sublist (lot_sub kk')) ol7)⟩, ?_⟩) sT fun u hu => folB_trans (gT_ u hu) fo7
          · rw [hPl, List.length_map]; exact hkk'
          · show sortedS (lotOf Pl kk') = true
            cases hc : Pl[kk']? with
            | none => rw [show lotOf Pl kk' = [] by unfold lotOf; rw [hc]; rfl]; rfl
            | some l => rw [lot_at hc]; exact pk.so l (List.mem_of_getElem? hc)
          · show decide (v = look (if newB Pl (kk', os') z = true then n e else o e) z) = true
            rw [hv, hPl]
            exact decide_eq_true rfl
        · rw [List.map_append, List.map_singleton, List.getLast?_concat] at hu
          injection hu with hu
          rw [← hu]
          exact folB_self _
      · rw [decide_eq_false mz]
        exact iteF stay
    · rintro σ H5 ⟨kk, b, os, S, Tl, A, x8, x10, x11, x12, x13', rfl, D5, x5, hkk, hb5, on5, ol5, so5, f5, tS5, okS, lS, t5, tT5, sT, gT_, sp5, tA, okA, Al, A2⟩
      refine ⟨.ref fo, rfl, .ref ta, rfl, by show 2 ≤ sizeLine; decide, fun p hp => ?_⟩
      have y6 : Evl.Ex H5 (upd H5 p (.tup [.ref fo, .ref ta])) := Evl.Ex.new hp
      have np := D5.ned hp
      exact k p fo ta S Tl _ (D5.ext y6) (x5.trans (off_ex y6)) (off_of upd_same np.1 np.2.1) (off_ex y6 _ _ f5) (tS5.to (off_ex y6)) okS lS (off_ex y6 _ _ t5) (tT5.to (off_ex y6)) (by rw [← hPl]; exact sT)
end
end Rw
end T_FM

section T_E7
set_option Elab.async false
set_option linter.all false
set_option maxRecDepth 100000
set_option maxHeartbeats 8000000
namespace Rw
open PySem L2 PyProof.Rows LamX
theorem all_listsD {K : PySem.W.Frag} {H : Hp} {a : Addr} {L : List (Addr × List StaR)} (h : H a = some (.lst (L.map fun r => V.ref r.1))) (t : ListsT H L) (few : ∀ r ∈ L, r.2.length ≤ 1000) :
    ∃ (xs : List V) (ds : List PyData), SqL K H a xs ∧ DpAll K H xs ds ∧ PyData.plainAll ds = true ∧ (∀ x ∈ ds, x.fits63) ∧ ds.all PyData.truthy = fullB (stasOf L) := by
  obtain ⟨b, xs, ds, e, h1, h2, h3, h4, h5⟩ : rAllD K [.ref a] H fun v _ => v = .bl (fullB (stasOf L)) := all_lists h t few rfl
  injection e with e _
  injection e with e
  subst e
  injection h5 with h5
  exact ⟨xs, ds, h1, h2, h3, h4, h5⟩
section
variable {P : Program} {w : World} {K : PySem.W.Frag} {mg : Str → Option Value} {base : Heap}
/-! ### check_sights, check_asked -/
def spCheckSights (K : PySem.W.Frag) (C : Addr) : Sp := fun vs H Q _ => ∃ (m sl : Addr) (S : List (Addr × Sig)) (ends dots ss ps : List Str) (o n : Str → List (Str × V)), vs = [.ref m, .ref sl] ∧ NetAt C H m ends dots ss ps o n ∧ ModelOk ends dots ss ps ∧ SqR K H sl (S.map fun q => V.ref q.1) ∧ SigsT H S ∧ (∀ q ∈ S, SigOk ends dots q.2) ∧ S.length ≤ 12 ∧
  ∀ H', Evl.Ex H H' → Q .non H'
abbrev nCheckSights : List Str := ["net", "sights", "at", "sight"]
theorem sc_check_sights : FnScope nCheckSights ["net", "sights"] (defScope p_check_sights) := ⟨rfl, rfl, rfl, by decide +kernel, rfl, by decide +kernel, by decide +kernel⟩
theorem ok_check_sights {f C : Addr} {fd : FuncData} {tk : Tok} (F : Fun K "check_sights" "check_sights" p_check_sights f fd) (C1 : Cal P w K mg base 1 "is_list" ["value"] (spIsList K)) (C2 : Cal P w K mg base 3 "is_sight" ["net", "value"] (spIsSight C))
    (mEnum : mg "enumerate" = none) (mLen : mg "len" = none) (mMost : mg "MOST_SIGHTS" = some (.int 12 tk)) : FnOk P w K mg base CX0 4 f fd ["net", "sights"] (spCheckSights K C) := by
  obtain ⟨f1, fd1, F1, k1, b1, g1⟩ := C1.ex
  obtain ⟨f2, fd2, F2, k2, b2, g2⟩ := C2.ex
  refine F.ok sc_check_sights (fun vs H Q E h => ?_) (fun cdv A outer s H vs Q E hr h => ?_)
  · obtain ⟨m, sl, S, ends, dots, ss, ps, o, n, rfl, _⟩ := h
    rfl
  · obtain ⟨m, sl, S, ends, dots, ss, ps, o, n, rfl, N, ok, hsl, tS, okS, s12, k⟩ := h
    have nd := sc_check_sights.nd
    have hr1 : Room 1 _ := hr.mono (by decide)
    refine ⟨_, pss_cons (ps_if (PW.pt (pw_or (pt_not (pt_val (pe_call F1 hr1 rfl g1 k1 b1 .nil pass0 (pa_cons (pv 1) pa_nil)))) (pw_or1 (pt_cmpR op_gt (pe_callB call_len (by rfl) mLen PySem.boot_len (pa_cons (pv 1) pa_nil)) (pe_glob (v := .int 12) (by rfl) mMost ⟨_, rfl⟩) (nomark _))))) (pss_one ps_never) pss_nil)
      (pss_one (ps_for PassesOwn.never rfl (pi_enumR (by rfl) mEnum (pa_cons (pv 1) pa_nil)) (pg_tup rfl (pgs_cons (pg_name (i := 2) nd rfl (.inl rfl)) (pgs_cons (pg_name (i := 3) nd rfl (.inl rfl)) pgs_nil)))
        (pss_one (ps_if (pt_not (pt_val (pe_call F2 hr rfl g2 k2 b2 .nil pass0 (pa_cons (pv 0) (pa_cons (pv 3) pa_nil))))) (pss_one ps_never) pss_nil)))), ?_⟩
    refine ⟨.ref sl, rfl, sl, _, rfl, hsl, fun H1 x1 => ⟨true, rfl, ?_⟩⟩
    refine iteF ⟨.ref sl, rfl, .ref sl, S.length, rfl, (hsl.ex x1).imp (fun h => ⟨_, h, by rw [List.length_map]⟩) (fun h => ⟨_, h, by rw [List.length_map]⟩), _, _, rfl, rfl, _, rfl, ?_⟩
    rw [decide_eq_false (by omega)]
    refine iteF ?_
    obtain ⟨J, G, kind, wk, gx⟩ := hsl.enum
    refine ⟨.ref sl, rfl, sl, _, J, rfl, kind.ex x1, for_it wk
      (fun i σ H' => ∃ (x2 x3 : Option V), σ = [some (.ref m), some (.ref sl), x2, x3] ∧ Evl.Ex H H')
      ⟨none, none, rfl, x1⟩ (fun i σ H' _ ⟨_, _, _, x⟩ => gx _ x) ?_ ?_⟩
    · rintro i x σ H2' H2 hi ⟨x2, x3, rfl, z2⟩ ⟨Tt, u1, u2, rfl, hTt, rfl, hy1, hy2⟩
      cases hy1
      obtain ⟨q, hq, rfl⟩ := map_at hy2
      have mq := List.mem_of_getElem? hq
      have y3 := Evl.Ex.new (o := HO.tup [.int (i : Nat), .ref q.1]) hTt
      refine ⟨Tt, _, rfl, Evl.st_of upd_same, rfl, _, _, rfl, _, [], rfl, rfl, ?_⟩
      generalize upd _ Tt (.tup [.int (i : Nat), .ref q.1]) = H3 at y3
      have x23 := z2.trans y3
      refine ⟨.ref m, rfl, .ref q.1, rfl, m, q.1, q.2, ends, dots, ss, ps, o, n, rfl, N.to x23, ok, x23 _ _ (tS q mq), okS q mq, fun H4 x4 => ⟨true, rfl, iteF ⟨_, _, rfl, x23.trans x4⟩⟩⟩
    · rintro σ H2 ⟨x2, x3, rfl, z2⟩
      exact k H2 z2
def spCheckAsked (K : PySem.W.Frag) (C : Addr) : Sp := fun vs H Q _ => ∃ (m a sl : Addr) (L : List (Addr × List Str)) (S : List (Addr × Sig)) (ends dots ss ps : List Str) (o n : Str → List (Str × V)), vs = [.ref m, .ref a, .ref sl] ∧ NetAt C H m ends dots ss ps o n ∧ ModelOk ends dots ss ps ∧ SqR K H a (L.map fun q => V.ref q.1) ∧ RowsT H L ∧ PlanOk (moving ends dots o n) (L.map (·.2)) ∧ SqR K H sl (S.map fun q => V.ref q.1) ∧ SigsT H S ∧ (∀ q ∈ S, SigOk ends dots q.2) ∧ S.length ≤ 12 ∧
  ∀ H', Evl.Ex H H' → Q .non H'
theorem sc_check_asked : FnScope ["net", "plan", "sights"] ["net", "plan", "sights"] (defScope p_check_asked) := ⟨rfl, rfl, rfl, by decide +kernel, rfl, by decide +kernel, by decide +kernel⟩
theorem ok_check_asked {f C : Addr} {fd : FuncData} (F : Fun K "check_asked" "check_asked" p_check_asked f fd) (C1 : Cal P w K mg base 1 "check_net" ["net"] (spCheckNet C)) (C2 : Cal P w K mg base 5 "check_plan" ["net", "plan"] (spCheckPlan K C)) (C3 : Cal P w K mg base 4 "check_sights" ["net", "sights"] (spCheckSights K C)) :
    FnOk P w K mg base CX0 6 f fd ["net", "plan", "sights"] (spCheckAsked K C) := by
  obtain ⟨f1, fd1, F1, k1, b1, g1⟩ := C1.ex
  obtain ⟨f2, fd2, F2, k2, b2, g2⟩ := C2.ex
  obtain ⟨f3, fd3, F3, k3, b3, g3⟩ := C3.ex
  refine F.ok sc_check_asked (fun vs H Q E h => ?_) (fun cdv A outer s H vs Q E hr h => ?_)
  · obtain ⟨m, a, sl, L, S, ends, dots, ss, ps, o, n, rfl, _⟩ := h
    rfl
  · obtain ⟨m, a, sl, L, S, ends, dots, ss, ps, o, n, rfl, N, ok, hS, tL, pk, hsl, tS, okS, s12, k⟩ := h
    refine ⟨_, pss_cons (ps_expr (pe_call F1 (hr.mono (by decide)) rfl g1 k1 b1 .nil pass0 (pa_cons (pv 0) pa_nil)))
      (pss_cons (ps_expr (pe_call F2 hr rfl g2 k2 b2 .nil pass0 (pa_cons (pv 0) (pa_cons (pv 1) pa_nil))))
      (pss_one (ps_expr (pe_call F3 (hr.mono (by decide)) rfl g3 k3 b3 .nil pass0 (pa_cons (pv 0) (pa_cons (pv 2) pa_nil)))))), ?_⟩
    refine ⟨.ref m, rfl, m, ends, dots, ss, ps, o, n, rfl, N, ?_⟩
    refine ⟨.ref m, rfl, .ref a, rfl, m, a, L, ends, dots, ss, ps, o, n, rfl, N, ok, hS, tL, pk, fun H1 x1 => ?_⟩
    exact ⟨.ref m, rfl, .ref sl, rfl, m, sl, S, ends, dots, ss, ps, o, n, rfl, N.to x1, ok, hsl.ex x1, tS.to x1, okS, s12, fun H2 x2 => k H2 (x1.trans x2)⟩
end
end Rw
end T_E7

section T_SI
set_option Elab.async false
set_option linter.all false
set_option maxRecDepth 100000
set_option maxHeartbeats 4000000
namespace Rw
open PySem PySem.Spec L2 PyProof.Rows
/-! ### sorted(set(numbers)) -/
section
variable {prog : Program} {w : World} {A : Around} {E : Value → Shared → Prop} {s : Shared}
theorem call_setI_list {l : Addr} {items : Array Value} {ns : List Int} {Q : Value → Shared → Prop} (hh : A.handled = none) (hl : s.heap.IsList l items) (hi : PyProof.Rows.IntsAre items.toList ns) (few : ns.length < 1000)
    (h : ∀ (h' : Heap) (tk c : Nat), SetR w h' s.heap.objs.size (fun j => decide (j ∈ ns)) c → (∀ b o, s.heap.get? b = some o → h'.get? b = some o) → Q (.ref s.heap.objs.size) { s with heap := h', toks := tk }) :
    wpAny (model prog w) A (call (.type "set") [.ref l]) Q E s := by
  obtain ⟨c, tl, mro⟩ := PySem.F.called_set.mro
  have made := PySem.F.called_set.made
  have subs := PySem.F.called_set.sub
  refine wpAny_call (codeAny_of_tree ?_)
  show wpAny _ _ (callAny (.type "set") _) _ _ _
  refine wpAny_pure ⟨Code.quiet_builtin _ (by decide +kernel), codeAny_builtin PySem.F.entry_type_call ?_⟩
  rw [Around.under_plain (weight_type_call_type "set" [.ref l] []) rfl]
  have not_type := PySem.F.called_set.notType
  have creates := PySem.F.called_set.canCreate
  have one := PySem.F.typeCall_set_1 (.ref l)
  repeat (any_goals (first | assumption | wp_step))
  refine codeAny_mono (code_set_led1 (.ref l) (E := E) (Q₁ := fun obj s₁ => obj = .ref s.heap.objs.size ∧ s₁ = { s with heap := s.heap.push { cls := .type "set", dict := none, data := .set #[] 0 (.fresh 0 0 (!w.params.followText "set-order")) } }) ⟨rfl, rfl⟩) fun r s₁ hr => ?_
  cases r with
  | error e => exact hr
  | ok fl =>
    cases fl with
    | ret obj =>
      obtain ⟨rfl, rfl⟩ := hr
      generalize new_is : ({ cls := .type "set", dict := none, data := .set #[] 0 (.fresh 0 0 (!w.params.followText "set-order")) } : Obj) = new
      have at_new : (s.heap.push new).get? s.heap.objs.size = some new := Heap.get?_push_size _ (by rw [← new_is]; rfl)
      have is_set : Shared.TypeIs { s with heap := s.heap.push new } (.ref s.heap.objs.size) "set" := ⟨_, at_new, by rw [← new_is]⟩
      have look_init := PySem.F.called_set.init.lookup
      have bind_init := PySem.F.called_set.init.bind (.ref s.heap.objs.size)
      repeat (any_goals (first | assumption | wp_step))
      refine codeAny_mono (codeAny_call_builtin (R := wants (fun r s₂ => r = .none ∧ ∃ h' tk c, s₂ = { s with heap := h', toks := tk } ∧ SetR w h' s.heap.objs.size (fun j => decide (j ∈ ns)) c ∧ (∀ b o, s.heap.get? b = some o → h'.get? b = some o)) E)
        PySem.F.called_set.init.plain PySem.F.entry_set_init (check_set_init_1 is_set ?_)) fun r₂ s₂ hr₂ => ?_
      · obtain ⟨ol, hol, hcl, nl, hdl⟩ := hl
        obtain ⟨ocls, odict, odata, oslots⟩ := ol
        simp only at hcl hdl
        subst hcl; subst hdl
        have at_l : (s.heap.push new).get? l = some { cls := .type "list", dict := odict, data := .seq items nl, slots := oslots } := Heap.get?_push_of_some _ hol
        have no_sub := PySem.F.sub_list_set
        have no_sub2 := PySem.F.sub_list_frozenset
        have no_dict : (Value.type "list" == Value.type "dict") = false := by decide
        have is_l : (s.heap.push new).IsList l items := ⟨_, at_l, rfl, nl, rfl⟩
        have l_lt : l < s.heap.objs.size := Heap.lt_size hol
        have calm3 : A.in1.in1.in1.handled = none := by simp [hh]
        have ne_it : l ≠ (s.heap.push new).objs.size := by
          rw [Heap.size_push]
          exact Nat.ne_of_lt (Nat.lt_succ_of_lt l_lt)
        have apart : s.heap.objs.size ∉ [(s.heap.push new).objs.size, l] := by
          rw [Heap.size_push]
          intro z
          rcases List.mem_cons.mp z with z | z
          · exact absurd z (Nat.ne_of_lt (Nat.lt_succ_self _))
          · exact absurd (List.mem_singleton.mp z) (Nat.ne_of_gt l_lt)
        subst new_is
        unfold Builtin.«set.__init__» noKeywords Builtin.Frozenset.updateFrom
        generalize iter_is : pyIter = PI
        wp_walk
        subst iter_is
        refine wpAny_pyIter_list is_l ?_
        refine wpAny_bind (wpAny_runValue ?_)
        have many : items.size = ns.length := by rw [← PyProof.Rows.IntsAre.length hi, Array.length_toList]
        have nums : ∀ (i : Nat) (v : Value), items[i]? = some v → ∃ k t, ns[i]? = some k ∧ v = .int k t := fun i v hv => by
          have lt : i < ns.length := by rw [← many]; exact (Array.getElem?_eq_some_iff.mp hv).1
          obtain ⟨t, e⟩ := PyProof.Rows.IntsAre.int_at hi i v (by rw [Array.getElem?_toList]; exact hv)
          exact ⟨ns[i], t, List.getElem?_eq_getElem lt, by rw [e, List.getD_eq_getElem?_getD, List.getElem?_eq_getElem lt]; rfl⟩
        refine set_update_ints ((Walks.list calm3 _ l ne_it items).toS) s.heap.objs.size apart ns many (by unfold scanBound; omega) nums (items.size - 0) 0 _ (by omega) (Nat.zero_le _) ⟨⟨_, Heap.get?_push_size _ rfl, rfl, rfl⟩, (is_l.push _)⟩ ?start ?finish
        case start => exact ⟨0, Nat.le_refl 0, setR_new_at (Heap.get?_push_of_some _ at_new)⟩
        case finish =>
          intro s' c moved _ set_all
          obtain ⟨h', g', d', tk', os'⟩ := s'
          have eg : g' = s.gens := moved.gens
          have ed : d' = s.drawn := moved.drawn
          have eo : os' = s.os := moved.os
          subst eg; subst ed; subst eo
          show wpAny _ _ _ _ _ _
          refine wpAny_pure ?_
          show wpAny _ _ (ret Value.none) _ _ _
          refine wpAny_pure ⟨rfl, h', tk', c, rfl, set_all, fun b o e => ?_⟩
          have b_lt := Heap.lt_size e
          refine moved.heap b o (fun z => ?_) (Heap.get?_push_of_some _ (Heap.get?_push_of_some _ e))
          rcases List.mem_cons.mp z with z | z
          · exact absurd z (Nat.ne_of_lt b_lt)
          · have z := List.mem_singleton.mp z
            rw [Heap.size_push] at z
            exact absurd z (Nat.ne_of_lt (Nat.lt_succ_of_lt b_lt))
      · cases r₂ with
        | error e => exact hr₂
        | ok fl₂ =>
          cases fl₂ with
          | ret r =>
            obtain ⟨rfl, h', tk, c, rfl, set_all, kept⟩ := hr₂
            repeat (any_goals (first | assumption | wp_step))
            exact h _ _ _ set_all kept
          | _ => exact hr₂.elim
    | _ => exact hr.elim
end
section
variable {X : Cx}
/-- set(ns), ns a list of numbers: how many different ones there are is told by a row of them -/
def rSetI (K : PySem.W.Frag) (w : World) : List V → Hp → VK → Prop := fun vs H Q => ∃ (a : Addr) (ns : List Int), vs = [.ref a] ∧ SqL K H a (ns.map V.int) ∧ ns.length < 1000 ∧
  ∀ (p : Addr) (H' : Hp) (row : List Int), row.Nodup → (∀ k ∈ row, k ∈ ns) → Evl.Ex H H' → H' p = some (SetO w p (fun j => decide (j ∈ ns)) row.length) → Q (.ref p) H'
theorem cr_setI (calm : X.calm = true) : CallR X (.type "set") (rSetI X.K X.w) := by
  intro pins s σ H vs us Q I r reading
  obtain ⟨a, ns, rfl, hq, few, q⟩ := reading
  rw [Vals.ref1 r]
  obtain ⟨its, rv, pl, _⟩ := I.list hq
  refine call_setI_list (I.ok.hd calm) pl.isList (by simpa using ints_of_vals rv) few fun h' tk c R keep => ?_
  have fresh := I.hok.fresh (Nat.le_refl s.heap.objs.size)
  obtain ⟨o, es, ep, t, ho, hex, hd, g, nd, hm, hb, hf, hn, hr, hl⟩ := id R
  have e : c = (es.toList.map L2.keyOf).length := by rw [List.length_map, Array.length_toList]; exact hn.symm
  refine ⟨.ref _, _, I.laid (t' := tk) keep (Nat.le_refl _) (setO_new R), rfl, q _ _ (es.toList.map L2.keyOf) nd (fun k hk => of_decide_eq_true ((hm k).mpr hk)) (Evl.Ex.new fresh) ?_⟩
  rw [upd_same, e]
/-- sorted(a set of numbers), in any heap behind -/
def rSortedI (w : World) : List V → Hp → VK → Prop := fun vs H Q => ∃ (a : Addr) (S : Int → Bool) (n : Nat), vs = [.ref a] ∧ H a = some (SetO w a S n) ∧ n < 64 ∧
  ∀ (ns : List Int) (p : Addr) (H' : Hp), ns.Pairwise (· < ·) → (∀ k : Int, k ∈ ns ↔ S k = true) → Evl.Ex H H' → H' p = some (.lst (ns.map V.int)) → Q (.ref p) H'
theorem cr_sortedI (calm : X.calm = true) : CallR X (.builtin "sorted") (rSortedI X.w) := fun pins s σ H vs us Q I r h => by
  obtain ⟨a, S, n, e, ha, few, q⟩ := h
  exact cr_sortedSet calm pins s σ H vs us Q I r ⟨a, S, n, e, ha, few, fun ns p h1 h2 _ np => q ns p _ h1 h2 (Evl.Ex.new np) upd_same⟩
end
end Rw
end T_SI

section T_EI
set_option Elab.async false
set_option linter.all false
set_option maxRecDepth 100000
set_option maxHeartbeats 8000000
namespace Rw
open PySem L2 PyProof.Rows LamX
/-- tuple(a list), in any heap behind -/
def rTupE (K : PySem.W.Frag) : List V → Hp → VK → Prop := fun vs H Q => ∃ (p : Addr) (ys : List V), vs = [.ref p] ∧ SqL K H p ys ∧ ∀ l H', Evl.Ex H H' → H' l = some (.tup ys) → Q (.ref l) H'
theorem cr_tupE {X : Cx} : CallR X (.type "tuple") (rTupE X.K) := fun pins s σ H vs us Q I r h => by
  obtain ⟨p, ys, e, hs, q⟩ := h
  exact call_tuple_of pins s σ H vs us Q I r ⟨p, ys, e, .inl ⟨hs, fun l hl => q l _ (Evl.Ex.new hl) upd_same⟩⟩
def NumsT (H : Hp) (R : List (Addr × List Int)) : Prop := ∀ q ∈ R, H q.1 = some (.tup (q.2.map V.int))
theorem NumsT.to {H H' : Hp} {R : List (Addr × List Int)} (h : NumsT H R) (x : Evl.Ex H H') : NumsT H' R := fun q hq => x _ _ (h q hq)
section
variable {P : Program} {w : World} {K : PySem.W.Frag} {mg : Str → Option Value} {base : Heap}
/-! ### stages -/
def StgIs (l : List Sta) (ks : List Int) : Prop := ks.Pairwise (· < ·) ∧ ∀ k : Int, k ∈ ks ↔ ∃ t ∈ l, ((t.1 : Nat) : Int) = k
def spStagesT (K : PySem.W.Frag) (T : List (Addr × Str)) (C : Addr) : Sp := fun vs H Q _ => ∃ (m a sl : Addr) (L : List (Addr × List Str)) (S : List (Addr × Sig)) (ends dots ss ps : List Str) (o n : Str → List (Str × V)), vs = [.ref m, .ref a, .ref sl] ∧ NetAt C H m ends dots ss ps o n ∧ ModelOk ends dots ss ps ∧ SqR K H a (L.map fun q => V.ref q.1) ∧ RowsT H L ∧ PlanOk (moving ends dots o n) (L.map (·.2)) ∧ SqR K H sl (S.map fun q => V.ref q.1) ∧ SigsT H S ∧ (∀ q ∈ S, SigOk ends dots q.2) ∧ S.length ≤ 12 ∧ Tabs T H ∧
  (∀ kept, kept = inStories (seenStas (L.map (·.2)) o n (S.map (·.2))) →
    (fullB kept = false → ∀ H', Evl.Ex (nt H) (nt H') → Tabs T H' → Q .non H') ∧
    (fullB kept = true → ∀ (r : Addr) (R : List (Addr × List Int)) H', Evl.Ex (nt H) (nt H') → Tabs T H' → H' r = some (.lst (R.map fun q => V.ref q.1)) → NumsT H' R → R.length = kept.length → (∀ (i : Nat) (l : List Sta) (q : Addr × List Int), kept[i]? = some l → R[i]? = some q → StgIs l q.2) → Q (.ref r) H'))
abbrev nStagesT : List Str := ["net", "plan", "sights", "states", "some", "state"]
abbrev scStgO : Scope := { kind := .function, names := [(".0", .local), ("some", .local), ("tuple", .globalImplicit), ("sorted", .globalImplicit), ("set", .globalImplicit)], isGenerator := false, isCoroutine := false }
theorem sc_stagesT : FnScope nStagesT ["net", "plan", "sights"] (defScope p_stages) := ⟨rfl, rfl, rfl, by decide +kernel, rfl, by decide +kernel, by decide +kernel⟩
theorem ok_stagesT {f C : Addr} {fd : FuncData} {T : List (Addr × Str)} (F : Fun K "stages" "stages" p_stages f fd) (C1 : Cal P w K mg base 6 "check_asked" ["net", "plan", "sights"] (spCheckAsked K C)) (C2 : Cal P w K mg base 6 "states_seen" ["net", "plan", "sights"] (spStatesSeen K T C)) (C3 : Cal P w K mg base 3 "states_in_stories" ["seen"] (spInStories K))
    (mAll : mg "all" = none) (mTup : mg "tuple" = none) (mSorted : mg "sorted" = none) (mSet : mg "set" = none) : FnOk P w K mg base CX0 7 f fd ["net", "plan", "sights"] (spStagesT K T C) := by
  obtain ⟨f1, fd1, F1, k1, b1, g1⟩ := C1.ex
  obtain ⟨f2, fd2, F2, k2, b2, g2⟩ := C2.ex
  obtain ⟨f3, fd3, F3, k3, b3, g3⟩ := C3.ex
  refine F.ok sc_stagesT (fun vs H Q E h => ?_) (fun cdv A outer s H vs Q E hr h => ?_)
  · obtain ⟨m, a, sl, L, S, ends, dots, ss, ps, o, n, rfl, _⟩ := h
    rfl
  · obtain ⟨m, a, sl, L, S, ends, dots, ss, ps, o, n, rfl, N, ok, hS, tL, pk, hsl, tS, okS, s12, hT, k⟩ := h
    have nd := sc_stagesT.nd
    refine ⟨_, pss_cons (ps_expr (pe_call F1 hr rfl g1 k1 b1 .nil pass0 (pa_cons (pv 0) (pa_cons (pv 1) (pa_cons (pv 2) pa_nil)))))
      (pss_cons (ps_set (i := 3) nd rfl (.inl rfl) (pe_call F3 (hr.mono (by decide)) rfl g3 k3 b3 .nil pass0 (pa_cons (pe_call F2 hr rfl g2 k2 b2 .nil pass0 (pa_cons (pv 0) (pa_cons (pv 1) (pa_cons (pv 2) pa_nil)))) pa_nil)))
      (pss_cons (ps_if (pt_not (pt_val (pe_callB (cr_allD rfl) (by rfl) mAll (by decide +kernel) (pa_cons (pv 3) pa_nil)))) (pss_one (ps_ret pe_non)) pss_nil)
      (pss_one (ps_ret (pe_lc (own := [("some", 4)]) (g := gName 4) (tt := tYes)
          (te := tCB (rTupE K) (tCons (tCB (rSortedI w) (tCons (tCB (rSetI K w) (tCons (tLc (iList K (tVar 4)) (gName 5) tYes (tOp (rIxT K) (tVar 5) (tC (.int 0))) [5]) tNil)) tNil)) tNil)) rfl nd (pi_list (pv 3)) (blkOk_by (own := [("some", 4)]) (N := nStagesT) (sc := defScope p_stages) (by decide +kernel))
          (fun _ _ _ _ _ => pg_name (i := 4) nd rfl (Or.inl rfl)) (fun _ _ _ _ _ => pts_nil)
          (fun _ _ _ _ _ => pe_callTy cr_tupE (by rfl) mTup (by decide +kernel) (pa_cons (pe_callB (cr_sortedI rfl) (by rfl) mSorted (by decide +kernel) (pa_cons (pe_callTy (cr_setI rfl) (by rfl) mSet (by decide +kernel) (pa_cons
            (pe_lc (own := [("state", 5)]) (g := gName 5) (tt := tYes) (te := tOp (rIxT K) (tVar 5) (tC (.int 0))) rfl nd (pi_list (pv 4)) (by
              have q : ∀ {sc : Scope}, blkC nStagesT scStgO sc [("state", 5)] = true → BlkOk nStagesT scStgO sc [("state", 5)] := fun h => blkOk_by h
              refine q ?_
              decide +kernel)
              (fun _ _ _ _ _ => pg_name (i := 5) nd rfl (Or.inl rfl)) (fun _ _ _ _ _ => pts_nil) (fun _ _ _ _ _ => pe_ix ix_tup (pv 5) pe_int (fun _ _ => rfl))) pa_nil)) pa_nil)) pa_nil))))))), ?_⟩
    obtain ⟨Pl, hPl⟩ : ∃ Pl, Pl = L.map (·.2) := ⟨_, rfl⟩
    have p6 := pk.p6
    refine ⟨.ref m, rfl, .ref a, rfl, .ref sl, rfl, m, a, sl, L, S, ends, dots, ss, ps, o, n, rfl, N, ok, hS, tL, pk, hsl, tS, okS, s12, fun H1 x1 => ?_⟩
    refine ⟨.ref m, rfl, .ref a, rfl, .ref sl, rfl, m, a, sl, L, S, ends, dots, ss, ps, o, n, rfl, N.to x1, ok, hS.ex x1, tL.to x1, pk, hsl.ex x1, tS.to x1, okS, s12, hT.ext x1, fun p H2 B x2 T2 p2 tB eB lB few b6 => ?_⟩
    obtain ⟨k0, kY⟩ := k _ rfl
    rw [← eB] at k0 kY
    have z2 : Evl.Ex (nt H) (nt H2) := (nt_ex x1).trans x2
    refine ⟨p, B, rfl, Evl.sq_of p2, tB, by omega, few, b6, fun t H3 A x3 _ t3 tA eA fA lA => ?_⟩
    rw [← eA] at k0 kY
    have z3 := z2.trans (nt_ex x3)
    have T3 := T2.ext x3
    obtain ⟨xs, ds, a1, a2, a3, a4, a5⟩ := all_listsD (K := K) t3 tA (fun r hr => Nat.le_trans (fA.few r hr) (by decide))
    refine ⟨.ref t, rfl, t, xs, ds, rfl, a1, a2, a3, a4, _, rfl, ?_⟩
    rw [a5]
    have sL : (stasOf A).length = A.length := List.length_map ..
    cases hb : fullB (stasOf A) with
    | false => exact iteT (k0 hb H3 z3 T3)
    | true =>
      refine iteF ⟨.ref t, rfl, t, rfl, ⟨_, Evl.sq_of t3⟩, fun D hD => lc_list (K := K) (a := t) (xs := A.map fun r => V.ref r.1)
        (fun i H' => Evl.Ex H3 H' ∧ ∃ R : List (Addr × List Int), H' D = some (.lst (R.map fun q => V.ref q.1)) ∧ NumsT H' R ∧ R.length = i ∧ ∀ (j : Nat) (l : List Sta) (q : Addr × List Int), (stasOf A)[j]? = some l → R[j]? = some q → StgIs l q.2) ⟨Evl.Ex.new hD, [], upd_same, (fun q hq => nomatch hq), rfl, fun j l q _ h => nomatch h⟩ (fun i H' _ h => Evl.sq_of (h.1 _ _ t3)) ?_ ?_⟩
      · rintro i v H4 hi ⟨x4, R, d4, tR, lR, aR⟩
        obtain ⟨r, hr0, rfl⟩ := map_at hi
        have mr := List.mem_of_getElem? hr0
        have il := (List.getElem?_eq_some_iff.mp hr0).1
        have tr := tA r mr
        have rl := fA.few r mr
        have hr1 := x4 _ _ tr.1
        have inA : ∀ q ∈ r.2, q.k ≤ 6 := fun q hq => by
          obtain ⟨r0, h0, s0'⟩ := fA.mem r mr
          have h1 : r0.2.map StaR.st ∈ seenStas (L.map (·.2)) o n (S.map (·.2)) := by rw [← eB]; exact List.mem_map_of_mem (f := fun r : Addr × List StaR => r.2.map StaR.st) h0
          unfold seenStas at h1
          obtain ⟨sg, _, h2⟩ := List.mem_map.mp h1
          have h3 : q.st ∈ r0.2.map StaR.st := List.mem_map_of_mem (s0' q hq)
          rw [← h2] at h3
          have h5 : q.k ≤ (L.map (·.2)).length := (allStas_mem.mp (List.mem_filter.mp h3).1).1
          omega
        refine ⟨rfl, yes_if ?_⟩
        refine ⟨.ref r.1, rfl, r.1, rfl, ⟨_, Evl.sq_of hr1⟩, fun D2 hD2 => lc_list (K := K) (a := r.1) (xs := refsS r.2)
          (fun j H' => Evl.Ex H4 H' ∧ H' D2 = some (.lst (((r.2.take j).map fun q => ((q.k : Nat) : Int)).map V.int))) ⟨Evl.Ex.new hD2, upd_same⟩ (fun j H' _ h => Evl.sq_of (h.1 _ _ hr1)) ?_ ?_⟩
        · rintro j v H5 hj ⟨x5, d5⟩
          obtain ⟨q, hq, rfl⟩ := map_at hj
          have jl := (List.getElem?_eq_some_iff.mp hq).1
          have tq := x5 _ _ (x4 _ _ (tr.2 q (List.mem_of_getElem? hq)).1)
          refine ⟨rfl, yes_if ?_⟩
          refine ⟨.ref q.a, rfl, q.a, _, 0, .int (q.k : Int), rfl, rfl, Evl.st_of tq, atI_nat (j := 0) rfl, _, d5, by rw [List.length_map, List.length_map, List.length_take]; exact small1000 (by omega), x5.mut hD2, ?_⟩
          rw [upd_same, List.take_add_one, hq, List.map_append, List.map_append]
          rfl
        · rintro H5 ⟨x5, d5⟩
          rw [List.length_map, List.take_length] at d5
          have d45 := x5 _ _ d4
          have tR5 := tR.to x5
          refine ⟨D2, _, rfl, Evl.sq_of d5, by rw [List.length_map]; omega, fun sp H6 row nrow srow x6 h6 => ⟨sp, _, _, rfl, h6, ?_, fun ks q7 H7 pw mem x7 h7 => ⟨q7, _, rfl, Evl.sq_of h7, fun u H8 x8 hu => ?_⟩⟩⟩
          · have h1 : row.length ≤ ((List.range 7).map fun k : Nat => ((k : Nat) : Int)).length := nodup_le row _ nrow fun k hk => by
              obtain ⟨q, hq, rfl⟩ := List.mem_map.mp (srow k hk)
              exact List.mem_map.mpr ⟨q.k, List.mem_range.mpr (by have := inA q hq; omega), rfl⟩
            have h2 : ((List.range 7).map fun k : Nat => ((k : Nat) : Int)).length = 7 := by decide
            omega
          · have x58 := (x6.trans x7).trans x8
            have d8 := x58 _ _ d45
            refine ⟨_, d8, by rw [List.length_map]; exact small1000 (by have h9 : A.length ≤ 12 := by omega
                                                                        rw [List.length_map] at *
                                                                        omega), (x4.trans (x5.trans x58)).mut hD, R ++ [(u, ks)], ?_, fun q hq => ?_, by rw [List.length_append, lR]; rfl, fun j l q h1 h2 => ?_⟩
            · rw [upd_same, List.map_append]
              rfl
            · have kp : ∀ {b : Addr} {ys : List V}, H8 b = some (.tup ys) → (upd H8 D (.lst (R.map (fun q => V.ref q.1) ++ [.ref u]))) b = some (.tup ys) := fun {b ys} h => by rw [upd_ne (ne_of h d8 (by intro z; cases z))]; exact h
              rcases List.mem_append.mp hq with hq | hq
              · exact kp (x58 _ _ (tR5 q hq))
              · rw [List.mem_singleton.mp hq]
                exact kp hu
            · by_cases c : j < R.length
              · rw [List.getElem?_append_left c] at h2
                exact aR j l q h1 h2
              · have hj := (List.getElem?_eq_some_iff.mp h2).1
                rw [List.length_append, List.length_singleton] at hj
                have e : j = R.length := by omega
                rw [e, List.getElem?_concat_length] at h2
                injection h2 with h2
                rw [e, lR] at h1
                have e2 : (stasOf A)[i]? = some (r.2.map StaR.st) := by show (List.map _ _)[i]? = _; rw [List.getElem?_map, hr0]; rfl
                rw [e2] at h1
                injection h1 with h1
                rw [← h1, ← h2]
                refine ⟨pw, fun k => ?_⟩
                rw [mem, decide_eq_true_eq, List.mem_map]
                constructor
                · rintro ⟨q', hq', rfl⟩
                  exact ⟨q'.st, List.mem_map_of_mem hq', rfl⟩
                · rintro ⟨t', ht', rfl⟩
                  obtain ⟨q', hq', rfl⟩ := List.mem_map.mp ht'
                  exact ⟨q', hq', rfl⟩
      · rintro H4 ⟨x4, R, d4, tR, lR, aR⟩
        rw [List.length_map] at lR
        exact kY hb D R H4 (z3.trans (nt_ex x4)) (T3.ext x4) d4 tR (by rw [sL, lR]) aR
end
end Rw
end T_EI

section T_EJ
set_option Elab.async false
set_option linter.all false
set_option maxRecDepth 100000
set_option maxHeartbeats 8000000
namespace Rw
open PySem L2 PyProof.Rows LamX
theorem storyL_in {R : Sta → Sta → Bool} : ∀ {L : List (List Sta)} {ss : List Sta} {i : Nat} {l : List Sta} {s : Sta}, StoryL R L ss → L[i]? = some l → ss[i]? = some s → s ∈ l
  | [], [], i, _, _, _, h1, _ => by cases i <;> cases h1
  | [], _ :: _, _, _, _, h, _, _ => h.elim
  | _ :: _, [], _, _, _, h, _, _ => h.elim
  | x :: L, t :: ss, 0, l, s, h, h1, h2 => by
    injection h1 with h1
    injection h2 with h2
    rw [← h1, ← h2]
    exact h.1
  | x :: L, t :: ss, i + 1, l, s, h, h1, h2 => storyL_in (L := L) (ss := ss) h.2.2 h1 h2
theorem storyL_fo {R : Sta → Sta → Bool} : ∀ {L : List (List Sta)} {ss : List Sta} {i : Nat} {s t : Sta}, StoryL R L ss → ss[i]? = some s → ss[i + 1]? = some t → R s t = true
  | [], [], i, _, _, _, h1, _ => by cases i <;> cases h1
  | [], _ :: _, _, _, _, h, _, _ => h.elim
  | _ :: _, [], _, _, _, h, _, _ => h.elim
  | x :: L, u :: ss, 0, s, t, h, h1, h2 => by
    injection h1 with h1
    rw [← h1]
    refine h.2.1 t ?_
    rw [List.head?_eq_getElem?]
    exact h2
  | x :: L, u :: ss, i + 1, s, t, h, h1, h2 => storyL_fo (L := L) (ss := ss) h.2.2 h1 h2
section
variable {P : Program} {w : World} {K : PySem.W.Frag} {mg : Str → Option Value} {base : Heap}
/-! ### is_number, is_count, is_state -/
def spNum : Sp := fun vs H Q _ => ∃ k : Nat, vs = [.int (k : Int)] ∧ Q (.bl true) H
theorem sc_is_number : FnScope ["value"] ["value"] (defScope p_is_number) := ⟨rfl, rfl, rfl, by decide +kernel, rfl, by decide +kernel, by decide +kernel⟩
theorem ok_is_number {f : Addr} {fd : FuncData} (F : Fun K "is_number" "is_number" p_is_number f fd) (mIsi : mg "isinstance" = none) (mInt : mg "int" = none) (mBool : mg "bool" = none) : FnOk P w K mg base CX0 1 f fd ["value"] spNum := by
  refine F.ok sc_is_number (fun vs H Q E h => ?_) (fun cdv A outer s H vs Q E hr h => ?_)
  · obtain ⟨k, rfl, _⟩ := h
    rfl
  · obtain ⟨k, rfl, kk⟩ := h
    refine ⟨_, pss_one (ps_ret (pe_and (pe_callB call_isi (by rfl) mIsi (by decide +kernel) (pa_cons (pv 0) (pa_cons (pe_bltn (v := .ty "int") (by rfl) mInt (by decide +kernel) rfl) pa_nil)))
      (pe_one (pe_not (pe_callB call_isi (by rfl) mIsi (by decide +kernel) (pa_cons (pv 0) (pa_cons (pe_bltn (v := .ty "bool") (by rfl) mBool (by decide +kernel) rfl) pa_nil))))))), ?_⟩
    refine ⟨.int (k : Int), rfl, .int (k : Int), .ty "int", _, _, true, rfl, .ty _, .base (.int _), kit_ty (by decide +kernel), true, rfl, iteT ?_⟩
    exact ⟨.int (k : Int), rfl, .int (k : Int), .ty "bool", _, _, false, rfl, .ty _, .base (.int _), kit_ty (by decide +kernel), false, rfl, kk⟩
theorem sc_is_count : FnScope ["value"] ["value"] (defScope p_is_count) := ⟨rfl, rfl, rfl, by decide +kernel, rfl, by decide +kernel, by decide +kernel⟩
theorem ok_is_count {f : Addr} {fd : FuncData} (F : Fun K "is_count" "is_count" p_is_count f fd) (C1 : Cal P w K mg base 1 "is_number" ["value"] spNum) : FnOk P w K mg base CX0 2 f fd ["value"] spNum := by
  obtain ⟨f1, fd1, F1, k1, b1, g1⟩ := C1.ex
  refine F.ok sc_is_count (fun vs H Q E h => ?_) (fun cdv A outer s H vs Q E hr h => ?_)
  · obtain ⟨k, rfl, _⟩ := h
    rfl
  · obtain ⟨k, rfl, kk⟩ := h
    refine ⟨_, pss_one (ps_ret (pe_and (pe_call F1 hr rfl g1 k1 b1 .nil pass0 (pa_cons (pv 0) pa_nil)) (pe_one (pe_cmpR op_ge (pv 0) pe_int (nomark _))))), ?_⟩
    refine ⟨.int (k : Int), rfl, k, rfl, true, rfl, iteT ⟨.int (k : Int), rfl, _, _, rfl, rfl, ?_⟩⟩
    have e : decide ((0 : Int) ≤ (k : Int)) = true := decide_eq_true (by omega)
    show Q (.bl (decide ((0 : Int) ≤ (k : Int)))) H
    rw [e]
    exact kk
def spIsState (K : PySem.W.Frag) : Sp := fun vs H Q _ => ∃ (rl : Addr) (M : List Stg) (Pl : List (List Str)) (q : StaR), vs = [.ref rl, .ref q.a] ∧ SqL K H rl (M.map fun q => V.ref q.a) ∧ StgsT H M ∧ StgsOf Pl M ∧ StaT H q ∧ q.k ≤ Pl.length ∧ LotAt H q.b q.B (lotOf Pl q.k) ∧
  ∀ H', Evl.Ex H H' → Q (.bl true) H'
abbrev nIsState : List Str := ["rounds", "value", "stage", "changed", "_", "lot"]
theorem sc_is_state : FnScope nIsState ["rounds", "value"] (defScope p_is_state) := ⟨rfl, rfl, rfl, by decide +kernel, rfl, by decide +kernel, by decide +kernel⟩
theorem ok_is_state {f : Addr} {fd : FuncData} (F : Fun K "is_state" "is_state" p_is_state f fd) (C1 : Cal P w K mg base 2 "is_count" ["value"] spNum) (C2 : Cal P w K mg base 1 "is_lot_of" ["value", "nodes"] spLotOf)
    (mIsi : mg "isinstance" = none) (mTup : mg "tuple" = none) (mLen : mg "len" = none) : FnOk P w K mg base CX0 3 f fd ["rounds", "value"] (spIsState K) := by
  obtain ⟨f1, fd1, F1, k1, b1, g1⟩ := C1.ex
  obtain ⟨f2, fd2, F2, k2, b2, g2⟩ := C2.ex
  refine F.ok sc_is_state (fun vs H Q E h => ?_) (fun cdv A outer s H vs Q E hr h => ?_)
  · obtain ⟨rl, M, Pl, q, rfl, _⟩ := h
    rfl
  · obtain ⟨rl, M, Pl, q, rfl, hS, tM, aM, hq, qk, LA, k⟩ := h
    have nd := sc_is_state.nd
    refine ⟨_, pss_cons (ps_if (PW.pt (pw_or (pt_not (pt_val (pe_callB call_isi (by rfl) mIsi (by decide +kernel) (pa_cons (pv 1) (pa_cons (pe_bltn (v := .ty "tuple") (by rfl) mTup (by decide +kernel) rfl) pa_nil))))) (pw_or1 (pt_cmpR op_ne (pe_callB call_len (by rfl) mLen PySem.boot_len (pa_cons (pv 1) pa_nil)) pe_int (nomark _))))) (pss_one (ps_ret pe_bl)) pss_nil)
      (pss_cons (ps_asg (pv 1) (pg_tup rfl (pgs_cons (pg_name (i := 2) nd rfl (.inl rfl)) (pgs_cons (pg_name (i := 3) nd rfl (.inl rfl)) pgs_nil))))
      (pss_cons (ps_if (PW.pt (pw_or (pt_not (pt_val (pe_call F1 hr rfl g1 k1 b1 .nil pass0 (pa_cons (pv 2) pa_nil)))) (pw_or1 (pt_cmpR op_ge (pv 2) (pe_callB call_len (by rfl) mLen PySem.boot_len (pa_cons (pv 0) pa_nil)) (nomark _))))) (pss_one (ps_ret pe_bl)) pss_nil)
      (pss_cons (ps_asg (pe_ix ix_list (pv 0) (pv 2) (fun _ _ => rfl)) (pg_tup rfl (pgs_cons (pg_name (i := 4) nd rfl (.inl rfl)) (pgs_cons (pg_name (i := 5) nd rfl (.inl rfl)) pgs_nil))))
      (pss_one (ps_ret (pe_call F2 (hr.mono (by decide)) rfl g2 k2 b2 .nil pass0 (pa_cons (pv 3) (pa_cons (pv 5) pa_nil)))))))), ?_⟩
    refine ⟨.ref q.a, rfl, .ref q.a, .ty "tuple", _, _, true, rfl, .ty _, .base (.tup hq.1), kit_ty (by decide +kernel), true, rfl, iteF ?_⟩
    refine ⟨.ref q.a, rfl, .ref q.a, 2, rfl, .inr ⟨_, Evl.st_of hq.1, rfl⟩, rfl, _, rfl, iteNS rfl ?_⟩
    refine ⟨.ref q.a, rfl, q.a, _, rfl, Evl.st_of hq.1, rfl, _, _, rfl, _, [], rfl, rfl, ?_⟩
    have kM : q.k < M.length := by rw [aM.1]; omega
    obtain ⟨g, hg⟩ : ∃ g, M[q.k]? = some g := ⟨_, List.getElem?_eq_getElem kM⟩
    obtain ⟨q1, q2, q3⟩ := tM g (List.mem_of_getElem? hg)
    obtain ⟨a1, a2, a3⟩ := aM.2 _ _ hg
    refine ⟨.int (q.k : Int), rfl, q.k, rfl, ⟨true, rfl, iteF ⟨.int (q.k : Int), rfl, .ref rl, rfl, .ref rl, M.length, rfl, .inl ⟨_, hS, by rw [List.length_map]⟩, _, _, rfl, rfl, _, rfl, ?_⟩⟩⟩
    rw [decide_eq_false (by omega)]
    refine iteF ?_
    refine ⟨.ref rl, rfl, .int (q.k : Int), rfl, rl, _, (q.k : Int), .ref g.a, rfl, rfl, hS, atI_nat (by rw [List.getElem?_map, hg]; rfl), g.a, _, rfl, Evl.st_of q1, rfl, _, _, rfl, _, [], rfl, rfl, ?_⟩
    refine ⟨.ref q.b, rfl, .ref g.l, rfl, q.b, g.l, q.B, g.ys, rfl, by rw [a1]; exact LA, q3, fun H1 x1 => k H1 x1⟩
/-! ### is_story, of a story -/
def spIsStory (K : PySem.W.Frag) (C : Addr) : Sp := fun vs H Q _ => ∃ (m a sl t : Addr) (L : List (Addr × List Str)) (S : List (Addr × Sig)) (R : List StaR) (ends dots ss ps : List Str) (o n : Str → List (Str × V)), vs = [.ref m, .ref a, .ref sl, .ref t] ∧ NetAt C H m ends dots ss ps o n ∧ ModelOk ends dots ss ps ∧ SqL K H a (L.map fun q => V.ref q.1) ∧ RowsT H L ∧ PlanOk (moving ends dots o n) (L.map (·.2)) ∧ SqL K H sl (S.map fun q => V.ref q.1) ∧ SigsT H S ∧ (∀ q ∈ S, SigOk ends dots q.2) ∧ S.length ≤ 12 ∧
  SqL K H t (refsS R) ∧ StasT H R ∧ StoryL folB (seenStas (L.map (·.2)) o n (S.map (·.2))) (R.map StaR.st) ∧ ∀ H', Evl.Ex H H' → Q (.bl true) H'
abbrev nIsStory : List Str := ["net", "plan", "sights", "thing", "rounds", "value", "sight", "state", "later"]
theorem sc_is_story : FnScope nIsStory ["net", "plan", "sights", "thing"] (defScope p_is_story) := ⟨rfl, rfl, rfl, by decide +kernel, rfl, by decide +kernel, by decide +kernel⟩
theorem ok_is_story {f C : Addr} {fd : FuncData} (F : Fun K "is_story" "is_story" p_is_story f fd) (C1 : Cal P w K mg base 6 "check_asked" ["net", "plan", "sights"] (spCheckAsked K C)) (C2 : Cal P w K mg base 1 "is_list" ["value"] (spIsList K)) (C3 : Cal P w K mg base 2 "stages_of" ["plan"] (spStages K)) (C4 : Cal P w K mg base 3 "is_state" ["rounds", "value"] (spIsState K))
    (C5 : Cal P w K mg base 5 "is_seen_in" ["net", "rounds", "sight", "state"] (spSeenIn K C)) (C6 : Cal P w K mg base 2 "can_follow" ["state", "later"] spFol) (mAll : mg "all" = none) (mLen : mg "len" = none) (mZip : mg "zip" = none) : FnOk P w K mg base CX0 7 f fd ["net", "plan", "sights", "thing"] (spIsStory K C) := by
  obtain ⟨f1, fd1, F1, k1, b1, g1⟩ := C1.ex
  obtain ⟨f2, fd2, F2, k2, b2, g2⟩ := C2.ex
  obtain ⟨f3, fd3, F3, k3, b3, g3⟩ := C3.ex
  obtain ⟨f4, fd4, F4, k4, b4, g4⟩ := C4.ex
  obtain ⟨f5, fd5, F5, k5, b5, g5⟩ := C5.ex
  obtain ⟨f6, fd6, F6, k6, b6, g6⟩ := C6.ex
  refine F.ok sc_is_story (fun vs H Q E h => ?_) (fun cdv A outer s H vs Q E hr h => ?_)
  · obtain ⟨m, a, sl, t, L, S, R, ends, dots, ss, ps, o, n, rfl, _⟩ := h
    rfl
  · obtain ⟨m, a, sl, t, L, S, R, ends, dots, ss, ps, o, n, rfl, N, ok, hS, tL, pk, hsl, tS, okS, s12, ht, tR, st, k⟩ := h
    have nd := sc_is_story.nd
    have hr1 : Room 1 _ := hr.mono (by decide)
    have hr2 : Room 2 _ := hr.mono (by decide)
    have hr3 : Room 3 _ := hr.mono (by decide)
    have hr5 : Room 5 _ := hr.mono (by decide)
    refine ⟨_, pss_cons (ps_expr (pe_call F1 hr rfl g1 k1 b1 .nil pass0 (pa_cons (pv 0) (pa_cons (pv 1) (pa_cons (pv 2) pa_nil)))))
      (pss_cons (ps_if (PW.pt (pw_or (pt_not (pt_val (pe_call F2 hr1 rfl g2 k2 b2 .nil pass0 (pa_cons (pv 3) pa_nil)))) (pw_or1 (pt_cmpR op_ne (pe_callB call_len (by rfl) mLen PySem.boot_len (pa_cons (pv 3) pa_nil)) (pe_callB call_len (by rfl) mLen PySem.boot_len (pa_cons (pv 2) pa_nil)) (nomark _))))) (pss_one (ps_ret pe_bl)) pss_nil)
      (pss_cons (ps_set (i := 4) nd rfl (.inr rfl) (pe_call F3 hr2 rfl g3 k3 b3 .nil pass0 (pa_cons (pv 1) pa_nil)))
      (pss_cons (ps_if (pt_not (pt_val (pe_callB (cr_all rfl) (by rfl) mAll (by decide +kernel) (pa_cons (pe_lc (own := [("value", 5)]) (g := gName 5) (tt := tYes) (te := tCall (spIsState K) [] E0 (tCons (tVar 4) (tCons (tVar 5) tNil))) rfl nd (pi_list (pv 3)) (blkOk_by (own := [("value", 5)]) (N := nIsStory) (sc := defScope p_is_story) (by decide +kernel))
            (fun _ _ _ _ _ => pg_name (i := 5) nd rfl (Or.inl rfl)) (fun _ _ _ _ _ => pts_nil) (fun _ _ _ _ _ => pe_call F4 hr3 rfl g4 k4 b4 .nil pass0 (pa_cons (pv 4) (pa_cons (pv 5) pa_nil)))) pa_nil)))) (pss_one (ps_ret pe_bl)) pss_nil)
      (pss_cons (ps_if (pt_not (pt_val (pe_callB (cr_all rfl) (by rfl) mAll (by decide +kernel) (pa_cons (pe_lc (own := [("sight", 6), ("state", 7)]) (g := gTup K 2 (gCons (gName 6) (gCons (gName 7) gNil))) (tt := tYes) (te := tCall (spSeenIn K C) [] E0 (tCons (tVar 0) (tCons (tVar 4) (tCons (tVar 6) (tCons (tVar 7) tNil))))) rfl nd
            (pi_zip (by rfl) mZip (pa_cons (pv 2) (pa_cons (pv 3) pa_nil))) (blkOk_by (own := [("sight", 6), ("state", 7)]) (N := nIsStory) (sc := defScope p_is_story) (by decide +kernel))
            (fun _ _ _ _ _ => pg_tup rfl (pgs_cons (pg_name (i := 6) nd rfl (Or.inl rfl)) (pgs_cons (pg_name (i := 7) nd rfl (Or.inl rfl)) pgs_nil))) (fun _ _ _ _ _ => pts_nil)
            (fun _ _ _ _ _ => pe_call F5 hr5 rfl g5 k5 b5 .nil pass0 (pa_cons (pv 0) (pa_cons (pv 4) (pa_cons (pv 6) (pa_cons (pv 7) pa_nil)))))) pa_nil)))) (pss_one (ps_ret pe_bl)) pss_nil)
      (pss_one (ps_ret (pe_callB (cr_all rfl) (by rfl) mAll (by decide +kernel) (pa_cons (pe_lc (own := [("state", 7), ("later", 8)]) (g := gTup K 2 (gCons (gName 7) (gCons (gName 8) gNil))) (tt := tYes) (te := tCall spFol [] E0 (tCons (tVar 7) (tCons (tVar 8) tNil))) rfl nd
            (pi_zip (by rfl) mZip (pa_cons (pv 3) (pa_cons (pe_slice sl_list (pv 3) (po_some pe_int) po_none) pa_nil))) (blkOk_by (own := [("state", 7), ("later", 8)]) (N := nIsStory) (sc := defScope p_is_story) (by decide +kernel))
            (fun _ _ _ _ _ => pg_tup rfl (pgs_cons (pg_name (i := 7) nd rfl (Or.inl rfl)) (pgs_cons (pg_name (i := 8) nd rfl (Or.inl rfl)) pgs_nil))) (fun _ _ _ _ _ => pts_nil)
            (fun _ _ _ _ _ => pe_call F6 hr2 rfl g6 k6 b6 .nil pass0 (pa_cons (pv 7) (pa_cons (pv 8) pa_nil)))) pa_nil)))))))), ?_⟩
    obtain ⟨Pl, hPl⟩ : ∃ Pl, Pl = L.map (·.2) := ⟨_, rfl⟩
    have pk0 := pk
    rw [← hPl] at pk st
    have l6 := pk.l6
    have p6 := pk.p6
    have pL : L.length ≤ 6 := by rw [hPl, List.length_map] at p6; exact p6
    have lR : R.length = S.length := by
      have := storyL_len st
      unfold seenStas at this
      rw [List.length_map, List.length_map, List.length_map] at this
      exact this
    -- each state is one
    have inS : ∀ q ∈ R, q.st ∈ allStas Pl := fun q hq => by
      obtain ⟨i, hi, e⟩ := List.getElem_of_mem hq
      have h1 : (R.map StaR.st)[i]? = some q.st := by rw [List.getElem?_map, List.getElem?_eq_getElem hi, e]; rfl
      obtain ⟨sg, hsg⟩ : ∃ sg, S[i]? = some sg := ⟨_, List.getElem?_eq_getElem (by omega)⟩
      have h2 : (seenStas Pl o n (S.map (·.2)))[i]? = some ((allStas Pl).filter (seenB Pl o n sg.2)) := by unfold seenStas; rw [List.getElem?_map, List.getElem?_map, hsg]; rfl
      exact (List.mem_filter.mp (storyL_in st h2 h1)).1
    have sub : ∀ q ∈ R, q.B.Sublist (lotOf Pl q.k) := fun q hq => allStas_sub (inS q hq)
    have b6' : ∀ q ∈ R, q.B.length ≤ 6 := fun q hq => Nat.le_trans (sub q hq).length_le (Nat.le_trans (lot_sub _).length_le l6)
    have kP : ∀ q ∈ R, q.k ≤ Pl.length := fun q hq => (allStas_mem.mp (inS q hq)).1
    have lots : ∀ {H' : Hp}, Evl.Ex H H' → ∀ q ∈ R, LotAt H' q.b q.B (lotOf Pl q.k) := fun {H'} x q hq => by
      refine ⟨x _ _ (tR q hq).2, (sub q hq).subset, (pk.fl.sublist (lot_sub q.k)).sublist (sub q hq), ?_, fun z hz => pk.nm z ((lot_sub q.k).subset ((sub q hq).subset hz)), by have := b6' q hq; omega⟩
      refine srtS_sub (sub q hq) ?_
      cases hc : Pl[q.k]? with
      | none => rw [show lotOf Pl q.k = [] by unfold lotOf; rw [hc]; rfl]; rfl
      | some l => rw [lot_at hc]; exact pk.so l (List.mem_of_getElem? hc)
    refine ⟨.ref m, rfl, .ref a, rfl, .ref sl, rfl, m, a, sl, L, S, ends, dots, ss, ps, o, n, rfl, N, ok, .inl hS, tL, pk0, .inl hsl, tS, okS, s12, fun H1 x1 => ?_⟩
    refine ⟨.ref t, rfl, t, _, rfl, .inl (Evl.ex_l x1 ht), fun H2 x2 => ⟨true, rfl, iteF ?_⟩⟩
    have x12 := x1.trans x2
    refine ⟨.ref t, rfl, .ref t, R.length, rfl, .inl ⟨_, Evl.ex_l x12 ht, by rw [List.length_map]⟩, .ref sl, rfl, .ref sl, S.length, rfl, .inl ⟨_, Evl.ex_l x12 hsl, by rw [List.length_map]⟩, rfl, _, rfl, iteNS (by rw [lR]) ?_⟩
    refine ⟨.ref a, rfl, a, L, rfl, .inl (Evl.ex_l x12 hS), tL.to x12, by rw [← hPl]; exact l6, pL, fun rl H3 M x3 _ hrl tM aM => ?_⟩
    rw [← hPl] at aM
    have x13 := x12.trans x3
    have ht3 := Evl.ex_l x13 ht
    refine ⟨.ref t, rfl, t, rfl, ⟨_, ht3⟩, fun D hD => lc_trues ht3 hD (by rw [List.length_map]; omega) (fun i x H4 Q1 R1 hi e4 go => ?_) (fun H4 e4 d4 => ?_)⟩
    · obtain ⟨q, hq, rfl⟩ := map_at hi
      have mq := List.mem_of_getElem? hq
      have x4 := x13.trans e4
      exact ⟨rfl, yes_if ⟨.ref rl, rfl, .ref q.a, rfl, rl, M, Pl, q, rfl, Evl.sq_of (e4 _ _ hrl), tM.to e4, aM, ⟨x4 _ _ (tR q mq).1, x4 _ _ (tR q mq).2⟩, kP q mq, lots x4 q mq, fun H5 x5 => go H5 x5⟩⟩
    refine ⟨D, _, rfl, Evl.sq_of d4, ?_⟩
    rw [all_trues]
    refine ⟨true, rfl, iteF ?_⟩
    have x14 := x13.trans e4
    have rl4 := e4 _ _ hrl
    have tM4 := tM.to e4
    -- seen
    refine ⟨.ref sl, rfl, .ref t, rfl, sl, t, _, _, rfl, Evl.ex_l x14 hsl, Evl.ex_l x14 ht, fun D2 hD2 => lc_it (walk_zip (K := K) (a := sl) (b := t) (xs := S.map fun q => V.ref q.1) (ys := refsS R) (n := R.length) (by rw [List.length_map, List.length_map]; omega))
      (fun i H' => i ≤ R.length ∧ Evl.Ex H4 H' ∧ H' D2 = some (.lst ((List.replicate i true).map V.bl))) ⟨Nat.zero_le _, Evl.Ex.new hD2, upd_same⟩ (fun i H' _ h => ⟨Evl.ex_l (x14.trans h.2.1) hsl, Evl.ex_l (x14.trans h.2.1) ht⟩) ?_ ?_⟩
    · rintro i x H5' H5 hi ⟨_, x5, d5⟩ ⟨Tt, u1, u2, rfl, hTt, rfl, hy1, hy2⟩
      obtain ⟨sg, hsg, rfl⟩ := map_at hy1
      obtain ⟨q, hq, rfl⟩ := map_at hy2
      have mq := List.mem_of_getElem? hq
      have msg := List.mem_of_getElem? hsg
      have y6 := Evl.Ex.new (o := HO.tup [.ref sg.1, .ref q.a]) hTt
      refine ⟨Tt, _, rfl, Evl.st_of upd_same, rfl, _, _, rfl, _, [], rfl, rfl, rfl, yes_if ?_⟩
      generalize upd _ Tt (.tup [.ref sg.1, .ref q.a]) = H6 at y6
      have x46 := x5.trans y6
      have x6 := x14.trans x46
      refine ⟨.ref m, rfl, .ref rl, rfl, .ref sg.1, rfl, .ref q.a, rfl, m, rl, sg.1, M, Pl, sg.2, q, ends, dots, ss, ps, o, n, rfl, N.to x6, ok, Evl.sq_of (x46 _ _ rl4), tM4.to x46, aM, l6, x6 _ _ (tS sg msg), okS sg msg, ⟨x6 _ _ (tR q mq).1, x6 _ _ (tR q mq).2⟩, kP q mq, b6' q mq, fun H7 x7 => ?_⟩
      have seenq : seenB Pl o n sg.2 q.st = true := by
        have h1 : (R.map StaR.st)[i]? = some q.st := by rw [List.getElem?_map, hq]; rfl
        have h2 : (seenStas Pl o n (S.map (·.2)))[i]? = some ((allStas Pl).filter (seenB Pl o n sg.2)) := by unfold seenStas; rw [List.getElem?_map, List.getElem?_map, hsg]; rfl
        exact (List.mem_filter.mp (storyL_in st h2 h1)).2
      rw [seenq]
      have y57 := y6.trans x7
      refine ⟨_, y57 _ _ d5, by rw [List.length_map, List.length_replicate]; exact small1000 (by omega), hi, (x5.trans y57).mut hD2, ?_⟩
      rw [upd_same, List.replicate_succ', List.map_append]
      rfl
    rintro H5 ⟨_, x5, d5⟩
    refine ⟨D2, _, rfl, Evl.sq_of d5, ?_⟩
    rw [all_trues]
    refine ⟨true, rfl, iteF ?_⟩
    have x15 := x14.trans x5
    -- each behind the one before
    refine ⟨.ref t, rfl, .ref t, rfl, 1, rfl, t, _, rfl, Evl.ex_l x15 ht, fun p hp => ?_⟩
    have ec : cutV (refsS R) (some 1) none = (refsS R).drop 1 := by rw [show (some (1 : Int)) = some ((1 : Nat) : Int) from rfl, cut_drop]
    rw [ec]
    have y6 : Evl.Ex H5 (upd H5 p (.lst ((refsS R).drop 1))) := Evl.Ex.new hp
    have p6' : (upd H5 p (.lst ((refsS R).drop 1))) p = some (.lst ((refsS R).drop 1)) := upd_same
    generalize upd H5 p (.lst ((refsS R).drop 1)) = H6 at y6 p6'
    have x16 := x15.trans y6
    refine ⟨t, p, _, _, rfl, Evl.ex_l x16 ht, Evl.sq_of p6', fun D3 hD3 => lc_it (walk_zip (K := K) (a := t) (b := p) (xs := refsS R) (ys := (refsS R).drop 1) (n := R.length - 1) (by rw [List.length_drop, List.length_map]; omega))
      (fun i H' => i ≤ R.length ∧ Evl.Ex H6 H' ∧ H' D3 = some (.lst ((List.replicate i true).map V.bl))) ⟨Nat.zero_le _, Evl.Ex.new hD3, upd_same⟩ (fun i H' _ h => ⟨Evl.ex_l (x16.trans h.2.1) ht, Evl.sq_of (h.2.1 _ _ p6')⟩) ?_ ?_⟩
    · rintro i x H7' H7 hi ⟨_, x7, d7⟩ ⟨Tt, u1, u2, rfl, hTt, rfl, hy1, hy2⟩
      obtain ⟨q, hq, rfl⟩ := map_at hy1
      have hy3 : ((refsS R).drop 1)[i]? = some u2 := hy2
      rw [List.getElem?_drop, Nat.add_comm] at hy3
      obtain ⟨q', hq', rfl⟩ := map_at hy3
      have mq := List.mem_of_getElem? hq
      have mq' := List.mem_of_getElem? hq'
      have y8 := Evl.Ex.new (o := HO.tup [.ref q.a, .ref q'.a]) hTt
      refine ⟨Tt, _, rfl, Evl.st_of upd_same, rfl, _, _, rfl, _, [], rfl, rfl, rfl, yes_if ?_⟩
      generalize upd _ Tt (.tup [.ref q.a, .ref q'.a]) = H8 at y8
      have x8 := (x16.trans x7).trans y8
      refine ⟨.ref q.a, rfl, .ref q'.a, rfl, q, q', rfl, ⟨x8 _ _ (tR q mq).1, x8 _ _ (tR q mq).2⟩, ⟨x8 _ _ (tR q' mq').1, x8 _ _ (tR q' mq').2⟩, by have := b6' q mq; omega, fun H9 x9 => ?_⟩
      have fo : folB q.st q'.st = true := storyL_fo st (i := i) (by rw [List.getElem?_map, hq]; rfl) (by rw [List.getElem?_map, hq']; rfl)
      rw [fo]
      have y79 := y8.trans x9
      refine ⟨_, y79 _ _ d7, by rw [List.length_map, List.length_replicate]; exact small1000 (by omega), by omega, (x7.trans y79).mut hD3, ?_⟩
      rw [upd_same, List.replicate_succ', List.map_append]
      rfl
    rintro H7 ⟨_, x7, d7⟩
    refine ⟨D3, _, rfl, Evl.sq_of d7, ?_⟩
    rw [all_trues]
    exact k H7 (x16.trans x7)
end
end Rw
end T_EJ

section T_EH
set_option Elab.async false
set_option linter.all false
set_option maxRecDepth 100000
set_option maxHeartbeats 8000000
namespace Rw
open PySem L2 PyProof.Rows LamX
section
variable {P : Program} {w : World} {K : PySem.W.Frag} {mg : Str → Option Value} {base : Heap}
/-! ### known -/
def eachL (Pl : List (List Str)) (ts : List Sta) (zs : List Str) : List Str := zs.filter fun z => ts.all fun t => newB Pl t z
def someL (Pl : List (List Str)) (ts : List Sta) (zs : List Str) : List Str := zs.filter fun z => ts.any fun t => newB Pl t z
def spKnown (K : PySem.W.Frag) (T : List (Addr × Str)) (C : Addr) : Sp := fun vs H Q _ => ∃ (m a sl : Addr) (L : List (Addr × List Str)) (S : List (Addr × Sig)) (ends dots ss ps : List Str) (o n : Str → List (Str × V)), vs = [.ref m, .ref a, .ref sl] ∧ NetAt C H m ends dots ss ps o n ∧ ModelOk ends dots ss ps ∧ SqR K H a (L.map fun q => V.ref q.1) ∧ RowsT H L ∧ PlanOk (moving ends dots o n) (L.map (·.2)) ∧ SqR K H sl (S.map fun q => V.ref q.1) ∧ SigsT H S ∧ (∀ q ∈ S, SigOk ends dots q.2) ∧ S.length ≤ 12 ∧ Tabs T H ∧
  (∀ kept zs, kept = inStories (seenStas (L.map (·.2)) o n (S.map (·.2))) → sortedS zs = true → zs.Perm (L.map (·.2)).flatten →
    (S = [] → ∀ (r e d : Addr) H', Evl.Ex (nt H) (nt H') → Tabs T H' → H' r = some (.tup [.ref e, .ref d]) → H' e = some (.tup []) → H' d = some (.tup (zs.map V.str)) → Q (.ref r) H') ∧
    (S ≠ [] → fullB kept = false → ∀ H', Evl.Ex (nt H) (nt H') → Tabs T H' → Q .non H') ∧
    (S ≠ [] → fullB kept = true → ∀ (r e d : Addr) H', Evl.Ex (nt H) (nt H') → Tabs T H' → H' r = some (.tup [.ref e, .ref d]) → H' e = some (.tup ((eachL (L.map (·.2)) (kept.getLastD []) zs).map V.str)) → H' d = some (.tup ((someL (L.map (·.2)) (kept.getLastD []) zs).map V.str)) → Q (.ref r) H'))
abbrev nKnown : List Str := ["net", "plan", "sights", "rounds", "last_done", "_", "states", "lots", "in_each", "in_some", "state", "node", "lot"]
abbrev scKn1 : Scope := { kind := .function, names := [(".0", .local), ("node", .cell), ("all", .globalImplicit), ("lots", .cell)], isGenerator := false, isCoroutine := false }
abbrev scKn2 : Scope := { kind := .function, names := [(".0", .local), ("node", .cell), ("any", .globalImplicit), ("lots", .cell)], isGenerator := false, isCoroutine := false }
theorem sc_known : FnScope nKnown ["net", "plan", "sights"] (defScope p_known) := ⟨rfl, rfl, rfl, by decide +kernel, rfl, by decide +kernel, by decide +kernel⟩
theorem all_pts {α β : Type} {f : α → Bool} {g : β → Bool} : ∀ {as : List α} {bs : List β}, as.map f = bs.map g → as.all f = bs.all g
  | [], [], _ => rfl
  | [], _ :: _, h => by cases h
  | _ :: _, [], h => by cases h
  | a :: as, b :: bs, h => by
    rw [List.map_cons, List.map_cons] at h
    injection h with h1 h2
    rw [List.all_cons, List.all_cons, h1, all_pts h2]
theorem any_pts {α β : Type} {f : α → Bool} {g : β → Bool} : ∀ {as : List α} {bs : List β}, as.map f = bs.map g → as.any f = bs.any g
  | [], [], _ => rfl
  | [], _ :: _, h => by cases h
  | _ :: _, [], h => by cases h
  | a :: as, b :: bs, h => by
    rw [List.map_cons, List.map_cons] at h
    injection h with h1 h2
    rw [List.any_cons, List.any_cons, h1, any_pts h2]
theorem ok_known {f C : Addr} {fd : FuncData} {T : List (Addr × Str)} (F : Fun K "known" "known" p_known f fd) (C1 : Cal P w K mg base 6 "check_asked" ["net", "plan", "sights"] (spCheckAsked K C)) (C2 : Cal P w K mg base 6 "states_seen" ["net", "plan", "sights"] (spStatesSeen K T C)) (C3 : Cal P w K mg base 3 "states_in_stories" ["seen"] (spInStories K)) (C4 : Cal P w K mg base 2 "now_new" ["rounds", "state"] (spNowNew K)) (C5 : Cal P w K mg base 2 "stages_of" ["plan"] (spStages K))
    (mAll : mg "all" = none) (mAny : mg "any" = none) (mLen : mg "len" = none) (mTup : mg "tuple" = none) : FnOk P w K mg base CX0 7 f fd ["net", "plan", "sights"] (spKnown K T C) := by
  obtain ⟨f1, fd1, F1, k1, b1, g1⟩ := C1.ex
  obtain ⟨f2, fd2, F2, k2, b2, g2⟩ := C2.ex
  obtain ⟨f3, fd3, F3, k3, b3, g3⟩ := C3.ex
  obtain ⟨f4, fd4, F4, k4, b4, g4⟩ := C4.ex
  obtain ⟨f5, fd5, F5, k5, b5, g5⟩ := C5.ex
  refine F.ok sc_known (fun vs H Q E h => ?_) (fun cdv A outer s H vs Q E hr h => ?_)
  · obtain ⟨m, a, sl, L, S, ends, dots, ss, ps, o, n, rfl, _⟩ := h
    rfl
  · obtain ⟨m, a, sl, L, S, ends, dots, ss, ps, o, n, rfl, N, ok, hS, tL, pk, hsl, tS, okS, s12, hT, k⟩ := h
    have nd := sc_known.nd
    refine ⟨_, pss_cons (ps_expr (pe_call F1 hr rfl g1 k1 b1 .nil pass0 (pa_cons (pv 0) (pa_cons (pv 1) (pa_cons (pv 2) pa_nil)))))
      (pss_cons (ps_set (i := 3) nd rfl (.inr rfl) (pe_call F5 (hr.mono (by decide)) rfl g5 k5 b5 .nil pass0 (pa_cons (pv 1) pa_nil)))
      (pss_cons (ps_asg (pe_ix ix_list (pv 3) (pe_un un_neg pe_int) (fun _ _ => rfl)) (pg_tup rfl (pgs_cons (pg_name (i := 4) nd rfl (.inl rfl)) (pgs_cons (pg_name (i := 5) nd rfl (.inl rfl)) pgs_nil))))
      (pss_cons (ps_if (pt_cmpR op_eq (pe_callB call_len (by rfl) mLen PySem.boot_len (pa_cons (pv 2) pa_nil)) pe_int (nomark _)) (pss_one (ps_ret (pe_tup (pa_cons (pe_tup pa_nil) (pa_cons (pv 4) pa_nil))))) pss_nil)
      (pss_cons (ps_set (i := 6) nd rfl (.inl rfl) (pe_call F3 (hr.mono (by decide)) rfl g3 k3 b3 .nil pass0 (pa_cons (pe_call F2 hr rfl g2 k2 b2 .nil pass0 (pa_cons (pv 0) (pa_cons (pv 1) (pa_cons (pv 2) pa_nil)))) pa_nil)))
      (pss_cons (ps_if (pt_not (pt_val (pe_callB (cr_allD rfl) (by rfl) mAll (by decide +kernel) (pa_cons (pv 6) pa_nil)))) (pss_one (ps_ret pe_non)) pss_nil)
      (pss_cons (ps_set (i := 7) nd rfl (.inr rfl) (pe_lc (own := [("state", 10)]) (g := gName 10) (tt := tYes) (te := tCall (spNowNew K) [] E0 (tCons (tVar 3) (tCons (tVar 10) tNil))) rfl nd (pi_list (pe_ix ix_list (pv 6) (pe_un un_neg pe_int) (fun _ _ => rfl))) (blkOk_by (own := [("state", 10)]) (N := nKnown) (sc := defScope p_known) (by decide +kernel))
          (fun _ _ _ _ _ => pg_name (i := 10) nd rfl (Or.inl rfl)) (fun _ _ _ _ _ => pts_nil) (fun _ _ _ _ _ => pe_call F4 (hr.mono (by decide)) rfl g4 k4 b4 .nil pass0 (pa_cons (pv 3) (pa_cons (pv 10) pa_nil)))))
      (pss_cons (ps_set (i := 8) nd rfl (.inl rfl) (pe_callTy call_tuple_of (by rfl) mTup (by decide +kernel) (pa_cons
        (pe_lc (own := [("node", 11)]) (g := gName 11) (tt := tB (tCB (rAll K) (tCons (tLc (iList K (tVar 7)) (gName 12) tYes (tOp (rIn K false) (tVar 11) (tVar 12)) [12]) tNil))) (te := tVar 11) rfl nd (pi_tup (pv 4)) (blkOk_by (own := [("node", 11)]) (N := nKnown) (sc := defScope p_known) (by decide +kernel))
          (fun _ _ _ _ _ => pg_name (i := 11) nd rfl (Or.inr rfl))
          (fun _ _ _ _ _ => pts_one (pt_val (pe_callB (cr_all rfl) (by rfl) mAll (by decide +kernel) (pa_cons
            (pe_lc (own := [("lot", 12)]) (g := gName 12) (tt := tYes) (te := tOp (rIn K false) (tVar 11) (tVar 12)) rfl nd (pi_list (pv 7)) (by
              have q : ∀ {sc : Scope}, blkC nKnown scKn1 sc [("lot", 12)] = true → BlkOk nKnown scKn1 sc [("lot", 12)] := fun h => blkOk_by h
              refine q ?_
              decide +kernel)
              (fun _ _ _ _ _ => pg_name (i := 12) nd rfl (Or.inl rfl)) (fun _ _ _ _ _ => pts_nil) (fun _ _ _ _ _ => pe_cmpR op_in_seq (pv 11) (pv 12) rfl)) pa_nil))))
          (fun _ _ _ _ _ => pv 11)) pa_nil)))
      (pss_cons (ps_set (i := 9) nd rfl (.inl rfl) (pe_callTy call_tuple_of (by rfl) mTup (by decide +kernel) (pa_cons
        (pe_lc (own := [("node", 11)]) (g := gName 11) (tt := tB (tCB (rAny K) (tCons (tLc (iList K (tVar 7)) (gName 12) tYes (tOp (rIn K false) (tVar 11) (tVar 12)) [12]) tNil))) (te := tVar 11) rfl nd (pi_tup (pv 4)) (blkOk_by (own := [("node", 11)]) (N := nKnown) (sc := defScope p_known) (by decide +kernel))
          (fun _ _ _ _ _ => pg_name (i := 11) nd rfl (Or.inr rfl))
          (fun _ _ _ _ _ => pts_one (pt_val (pe_callB (cr_any rfl) (by rfl) mAny (by decide +kernel) (pa_cons
            (pe_lc (own := [("lot", 12)]) (g := gName 12) (tt := tYes) (te := tOp (rIn K false) (tVar 11) (tVar 12)) rfl nd (pi_list (pv 7)) (by
              have q : ∀ {sc : Scope}, blkC nKnown scKn2 sc [("lot", 12)] = true → BlkOk nKnown scKn2 sc [("lot", 12)] := fun h => blkOk_by h
              refine q ?_
              decide +kernel)
              (fun _ _ _ _ _ => pg_name (i := 12) nd rfl (Or.inl rfl)) (fun _ _ _ _ _ => pts_nil) (fun _ _ _ _ _ => pe_cmpR op_in_seq (pv 11) (pv 12) rfl)) pa_nil))))
          (fun _ _ _ _ _ => pv 11)) pa_nil)))
      (pss_one (ps_ret (pe_tup (pa_cons (pv 8) (pa_cons (pv 9) pa_nil))))))))))))), ?_⟩
    obtain ⟨Pl, hPl⟩ : ∃ Pl, Pl = L.map (·.2) := ⟨_, rfl⟩
    have pk0 := pk
    rw [← hPl] at pk k
    have l6 := pk.l6
    have p6 := pk.p6
    have pL : L.length ≤ 6 := by rw [hPl, List.length_map] at p6; exact p6
    refine ⟨.ref m, rfl, .ref a, rfl, .ref sl, rfl, m, a, sl, L, S, ends, dots, ss, ps, o, n, rfl, N, ok, hS, tL, pk0, hsl, tS, okS, s12, fun H1 x1 => ?_⟩
    refine ⟨.ref a, rfl, a, L, rfl, hS.ex x1, tL.to x1, by rw [← hPl]; exact l6, pL, fun rl H2 M x2 _ hrl tM aM => ?_⟩
    rw [← hPl] at aM
    have x12 := x1.trans x2
    rcases List.eq_nil_or_concat M with eM | ⟨M0, g, eM⟩
    · have := aM.1
      rw [eM] at this
      cases this
    rw [List.concat_eq_append] at eM
    have at1 : atI (M.map fun q => V.ref q.a) (-1) = some (V.ref g.a) := by rw [eM, List.map_append]; exact atI_last _ _
    have lM0 : M0.length = Pl.length := by have := aM.1; rw [eM, List.length_append, List.length_singleton] at this; omega
    have hg : M[Pl.length]? = some g := by rw [eM, ← lM0, List.getElem?_concat_length]
    obtain ⟨q1, q2, q3⟩ := tM g (List.mem_of_getElem? hg)
    obtain ⟨a1, a2, a3⟩ := aM.2 _ _ hg
    have gp : g.zs.Perm Pl.flatten := by rw [show Pl.flatten = doneOf Pl Pl.length by unfold doneOf; rw [List.take_length]]; exact a2
    have g6 : g.zs.length ≤ 6 := by rw [gp.length_eq]; exact l6
    obtain ⟨kE, kN, kY⟩ := k _ g.zs rfl a3 gp
    refine ⟨.ref rl, rfl, 1, rfl, rl, _, -1, .ref g.a, rfl, rfl, Evl.sq_of hrl, at1, g.a, _, rfl, Evl.st_of q1, rfl, _, _, rfl, _, [], rfl, rfl, ?_⟩
    refine ⟨.ref sl, rfl, .ref sl, S.length, rfl, (hsl.ex x12).imp (fun h => ⟨_, h, by rw [List.length_map]⟩) (fun h => ⟨_, h, by rw [List.length_map]⟩), rfl, _, rfl, ?_⟩
    by_cases s0 : S = []
    · rw [decide_eq_true (by rw [s0]; rfl)]
      refine iteT ⟨by show 0 ≤ sizeLine; decide, fun e he => ⟨.ref g.d, rfl, by show 2 ≤ sizeLine; decide, fun r hr0 => ?_⟩⟩
      have y3 := (Evl.Ex.new (o := HO.tup []) he).trans (Evl.Ex.new (o := HO.tup [.ref e, .ref g.d]) hr0)
      exact kE s0 r e g.d _ (nt_ex (x12.trans y3)) ((hT.ext x12).ext y3) upd_same ((Evl.Ex.new hr0) _ _ upd_same) (y3 _ _ q2)
    rw [decide_eq_false (fun z => s0 (List.length_eq_zero_iff.mp (by injection z with z; omega)))]
    refine iteF ?_
    refine ⟨.ref m, rfl, .ref a, rfl, .ref sl, rfl, m, a, sl, L, S, ends, dots, ss, ps, o, n, rfl, N.to x12, ok, hS.ex x12, tL.to x12, pk0, hsl.ex x12, tS.to x12, okS, s12, hT.ext x12, fun p H3 B x3 T3 p3 tB eB lB few b6 => ?_⟩
    rw [← hPl] at eB
    rw [← eB] at kN kY
    have z3 : Evl.Ex (nt H) (nt H3) := (nt_ex x12).trans x3
    refine ⟨p, B, rfl, Evl.sq_of p3, tB, by omega, few, b6, fun t H4 A x4 _ t4 tA eA fA lA => ?_⟩
    rw [← eA] at kN kY
    have z4 := z3.trans (nt_ex x4)
    have T4 := T3.ext x4
    have x24 : Evl.Ex (nt H2) H4 := (x3.trans (nt_ex x4)).trans (ex_nt H4)
    obtain ⟨xs, ds, c1, c2, c3, c4, c5⟩ := all_listsD (K := K) t4 tA (fun r hr => Nat.le_trans (fA.few r hr) (by decide))
    refine ⟨.ref t, rfl, t, xs, ds, rfl, c1, c2, c3, c4, _, rfl, ?_⟩
    rw [c5]
    cases hb : fullB (stasOf A) with
    | false => exact iteT (kN s0 hb H4 z4 T4)
    | true =>
      have kY := kY s0 hb
      rcases List.eq_nil_or_concat A with eA0 | ⟨A0, l, eA0⟩
      · rw [eA0] at lA
        exact absurd (List.length_eq_zero_iff.mp (by rw [← lB, ← lA]; rfl)) s0
      rw [List.concat_eq_append] at eA0
      have ml : l ∈ A := by rw [eA0]; exact List.mem_append_right _ List.mem_cons_self
      have eLast : (stasOf A).getLastD [] = l.2.map StaR.st := by rw [eA0]; show (List.map _ _).getLastD [] = _; rw [List.map_append, List.map_singleton, List.getLastD_concat]
      rw [eLast] at kY
      have tl := tA l ml
      have ll := fA.few l ml
      have at2 : atI (A.map fun r => V.ref r.1) (-1) = some (V.ref l.1) := by rw [eA0, List.map_append]; exact atI_last _ _
      have inA : ∀ q ∈ l.2, q.k ≤ Pl.length ∧ q.B.length ≤ 6 := fun q hq => by
        obtain ⟨r0, h0, s0'⟩ := fA.mem l ml
        have h1 : r0.2.map StaR.st ∈ seenStas Pl o n (S.map (·.2)) := by rw [← eB]; exact List.mem_map_of_mem (f := fun r : Addr × List StaR => r.2.map StaR.st) h0
        unfold seenStas at h1
        obtain ⟨sg, _, h2⟩ := List.mem_map.mp h1
        have h3 : q.st ∈ r0.2.map StaR.st := List.mem_map_of_mem (s0' q hq)
        rw [← h2] at h3
        have h4 := (List.mem_filter.mp h3).1
        exact ⟨(allStas_mem.mp h4).1, Nat.le_trans (allStas_sub h4).length_le (Nat.le_trans (lot_sub _).length_le l6)⟩
      have rl4 := x24 _ _ (nt_lst hrl)
      have tM4 := tM.nt.to x24
      have gd4 : H4 g.d = some (.tup (g.zs.map V.str)) := x24 _ _ (nt_tup q2)
      refine iteF ⟨.ref t, rfl, 1, rfl, t, _, -1, .ref l.1, rfl, rfl, Evl.sq_of t4, at2, l.1, rfl, ⟨_, Evl.sq_of tl.1⟩, fun D hD => lc_list (K := K) (a := l.1) (xs := refsS l.2)
        (fun i H' => Evl.Ex H4 H' ∧ ∃ J : List (Addr × List Str), H' D = some (.lst (J.map fun q => V.ref q.1)) ∧ RowsT H' J ∧ J.length = i ∧ ∀ z, J.map (fun q => decide (z ∈ q.2)) = (l.2.take i).map fun s => newB Pl s.st z) ⟨Evl.Ex.new hD, [], upd_same, (fun q hq => nomatch hq), rfl, fun z => rfl⟩ (fun i H' _ h => Evl.sq_of (h.1 _ _ tl.1)) ?_ ?_⟩
      · rintro i v H5 hi ⟨x5, J, d5, tJ, lJ, eJ⟩
        obtain ⟨q, hq, rfl⟩ := map_at hi
        have mq := List.mem_of_getElem? hq
        have il := (List.getElem?_eq_some_iff.mp hq).1
        refine ⟨rfl, yes_if ?_⟩
        refine ⟨.ref rl, rfl, .ref q.a, rfl, rl, M, Pl, q, rfl, Evl.sq_of (x5 _ _ rl4), tM4.to x5, aM, l6, ⟨x5 _ _ (tl.2 q mq).1, x5 _ _ (tl.2 q mq).2⟩, (inA q mq).1, (inA q mq).2, fun pj H6 js x6 hj ej => ?_⟩
        have d6 := x6 _ _ d5
        refine ⟨_, d6, by rw [List.length_map]; exact small1000 (by omega), (x5.trans x6).mut hD, J ++ [(pj, js)], ?_, ?_, by rw [List.length_append, lJ]; rfl, fun z => ?_⟩
        · rw [upd_same, List.map_append]
          rfl
        · refine RowsT.mut ((tJ.to x6).app fun r hr' => ?_) d6
          rw [List.mem_singleton.mp hr']
          exact hj
        · rw [List.map_append, eJ z, List.take_add_one, hq, List.map_append]
          congr 1
          show [decide (z ∈ js)] = [newB Pl q.st z]
          congr 1
          cases c : newB Pl q.st z with
          | true => exact decide_eq_true ((ej z).mpr c)
          | false => exact decide_eq_false fun h => by rw [(ej z).mp h] at c; cases c
      · rintro H5 ⟨x5, J, d5, tJ, lJ, eJ⟩
        rw [List.length_map] at lJ
        have eJ : ∀ z, J.map (fun q => decide (z ∈ q.2)) = (l.2.map StaR.st).map fun s => newB Pl s z := fun z => by rw [eJ z, List.length_map, List.take_length, List.map_map]; rfl
        have gd5 := x5 _ _ gd4
        have J5 : J.length ≤ 500 := by omega
        -- in_each
        refine ⟨.ref g.d, rfl, g.d, rfl, ⟨_, Evl.st_of gd5⟩, fun D2 hD2 => lc_tup (K := K) (a := g.d) (xs := g.zs.map V.str)
          (fun i H' => Evl.Ex H5 H' ∧ H' D2 = some (.lst ((eachL Pl (l.2.map StaR.st) (g.zs.take i)).map V.str))) ⟨Evl.Ex.new hD2, upd_same⟩ (fun i H' _ h => Evl.st_of (h.1 _ _ gd5)) ?_ ?_⟩
        · rintro i v H6 hi ⟨x6, d6⟩
          obtain ⟨z, hz, rfl⟩ := str_at hi
          have fl : (eachL Pl (l.2.map StaR.st) (g.zs.take i)).length ≤ 6 := Nat.le_trans (List.length_filter_le _ _) (by rw [List.length_take]; omega)
          have d56 := x6 _ _ d5
          refine ⟨rfl, .ref D, rfl, D, rfl, ⟨_, Evl.sq_of d56⟩, fun D3 hD3 => lc_list (K := K) (a := D) (xs := J.map fun q => V.ref q.1)
            (fun j H' => j ≤ J.length ∧ Evl.Ex H6 H' ∧ H' D3 = some (.lst (((J.take j).map fun q => decide (z ∈ q.2)).map V.bl))) ⟨Nat.zero_le _, Evl.Ex.new hD3, upd_same⟩ (fun j H' _ h => Evl.sq_of (h.2.1 _ _ d56)) ?_ ?_⟩
          · rintro j v H7 hj ⟨_, x7, d7⟩
            obtain ⟨q, hq, rfl⟩ := map_at hj
            have jl := (List.getElem?_eq_some_iff.mp hq).1
            have tq := x7 _ _ (x6 _ _ (tJ q (List.mem_of_getElem? hq)))
            refine ⟨rfl, yes_if ?_⟩
            refine ⟨.str z, rfl, .ref q.1, rfl, q.1, q.2.map V.str, rfl, .inr (Evl.st_of tq), rfl, flat_strs _, ?_⟩
            rw [inV_str]
            refine ⟨_, d7, by rw [List.length_map, List.length_map, List.length_take]; exact small1000 (by omega), jl, x7.mut hD3, ?_⟩
            rw [upd_same, List.take_add_one, hq, List.map_append, List.map_append]
            rfl
          · rintro H7 ⟨_, x7, d7⟩
            rw [List.length_map, List.take_length] at d7
            refine ⟨D3, _, rfl, Evl.sq_of d7, _, rfl, ?_⟩
            rw [List.all_map, show (J.all (id ∘ fun q => decide (z ∈ q.2))) = (l.2.map StaR.st).all fun s => newB Pl s z from all_pts (eJ z)]
            have ez : eachL Pl (l.2.map StaR.st) (g.zs.take (i + 1)) = eachL Pl (l.2.map StaR.st) (g.zs.take i) ++ (if ((l.2.map StaR.st).all fun s => newB Pl s z) = true then [z] else []) := by
              unfold eachL
              rw [List.take_add_one, hz, List.filter_append]
              congr 1
              show List.filter _ [z] = _
              rw [List.filter_cons]
              rfl
            by_cases hc : ((l.2.map StaR.st).all fun s => newB Pl s z) = true
            · rw [if_pos hc] at ez
              rw [hc]
              refine iteT ⟨.str z, rfl, _, x7 _ _ d6, by rw [List.length_map]; exact small1000 (by omega), (x6.trans x7).mut hD2, ?_⟩
              rw [upd_same, ez, List.map_append]
              rfl
            · rw [if_neg hc, List.append_nil] at ez
              rw [Bool.not_eq_true] at hc
              rw [hc]
              exact iteF ⟨x6.trans x7, by rw [ez]; exact x7 _ _ d6⟩
        · rintro H6 ⟨x6, d6⟩
          rw [List.length_map, List.take_length] at d6
          refine ⟨D2, _, rfl, .inl ⟨Evl.sq_of d6, fun e he => ?_⟩⟩
          have y7 : Evl.Ex H6 (upd H6 e (.tup ((eachL Pl (l.2.map StaR.st) g.zs).map V.str))) := Evl.Ex.new he
          have e7 : (upd H6 e (.tup ((eachL Pl (l.2.map StaR.st) g.zs).map V.str))) e = some (.tup ((eachL Pl (l.2.map StaR.st) g.zs).map V.str)) := upd_same
          generalize upd H6 e (.tup ((eachL Pl (l.2.map StaR.st) g.zs).map V.str)) = H7 at y7 e7
          have x57 := x6.trans y7
          have gd7 := x57 _ _ gd5
          have d57 := x57 _ _ d5
          -- in_some
          refine ⟨.ref g.d, rfl, g.d, rfl, ⟨_, Evl.st_of gd7⟩, fun D4 hD4 => lc_tup (K := K) (a := g.d) (xs := g.zs.map V.str)
            (fun i H' => Evl.Ex H7 H' ∧ H' D4 = some (.lst ((someL Pl (l.2.map StaR.st) (g.zs.take i)).map V.str))) ⟨Evl.Ex.new hD4, upd_same⟩ (fun i H' _ h => Evl.st_of (h.1 _ _ gd7)) ?_ ?_⟩
          · rintro i v H8 hi ⟨x8, d8⟩
            obtain ⟨z, hz, rfl⟩ := str_at hi
            have fl : (someL Pl (l.2.map StaR.st) (g.zs.take i)).length ≤ 6 := Nat.le_trans (List.length_filter_le _ _) (by rw [List.length_take]; omega)
            have d58 := x8 _ _ d57
            refine ⟨rfl, .ref D, rfl, D, rfl, ⟨_, Evl.sq_of d58⟩, fun D3 hD3 => lc_list (K := K) (a := D) (xs := J.map fun q => V.ref q.1)
              (fun j H' => j ≤ J.length ∧ Evl.Ex H8 H' ∧ H' D3 = some (.lst (((J.take j).map fun q => decide (z ∈ q.2)).map V.bl))) ⟨Nat.zero_le _, Evl.Ex.new hD3, upd_same⟩ (fun j H' _ h => Evl.sq_of (h.2.1 _ _ d58)) ?_ ?_⟩
            · rintro j v H9 hj ⟨_, x9, d9⟩
              obtain ⟨q, hq, rfl⟩ := map_at hj
              have jl := (List.getElem?_eq_some_iff.mp hq).1
              have tq := x9 _ _ (x8 _ _ (x57 _ _ (tJ q (List.mem_of_getElem? hq))))
              refine ⟨rfl, yes_if ?_⟩
              refine ⟨.str z, rfl, .ref q.1, rfl, q.1, q.2.map V.str, rfl, .inr (Evl.st_of tq), rfl, flat_strs _, ?_⟩
              rw [inV_str]
              refine ⟨_, d9, by rw [List.length_map, List.length_map, List.length_take]; exact small1000 (by omega), jl, x9.mut hD3, ?_⟩
              rw [upd_same, List.take_add_one, hq, List.map_append, List.map_append]
              rfl
            · rintro H9 ⟨_, x9, d9⟩
              rw [List.length_map, List.take_length] at d9
              refine ⟨D3, _, rfl, Evl.sq_of d9, _, rfl, ?_⟩
              rw [List.any_map, show (J.any (id ∘ fun q => decide (z ∈ q.2))) = (l.2.map StaR.st).any fun s => newB Pl s z from any_pts (eJ z)]
              have ez : someL Pl (l.2.map StaR.st) (g.zs.take (i + 1)) = someL Pl (l.2.map StaR.st) (g.zs.take i) ++ (if ((l.2.map StaR.st).any fun s => newB Pl s z) = true then [z] else []) := by
                unfold someL
                rw [List.take_add_one, hz, List.filter_append]
                congr 1
                show List.filter _ [z] = _
                rw [List.filter_cons]
                rfl
              by_cases hc : ((l.2.map StaR.st).any fun s => newB Pl s z) = true
              · rw [if_pos hc] at ez
                rw [hc]
                refine iteT ⟨.str z, rfl, _, x9 _ _ d8, by rw [List.length_map]; exact small1000 (by omega), (x8.trans x9).mut hD4, ?_⟩
                rw [upd_same, ez, List.map_append]
                rfl
              · rw [if_neg hc, List.append_nil] at ez
                rw [Bool.not_eq_true] at hc
                rw [hc]
                exact iteF ⟨x8.trans x9, by rw [ez]; exact x9 _ _ d8⟩
          · rintro H8 ⟨x8, d8⟩
            rw [List.length_map, List.take_length] at d8
            refine ⟨D4, _, rfl, .inl ⟨Evl.sq_of d8, fun d hd => ?_⟩⟩
            refine ⟨.ref e, rfl, .ref d, rfl, by show 2 ≤ sizeLine; decide, fun r hr0 => ?_⟩
            have y9 := (Evl.Ex.new (o := HO.tup ((someL Pl (l.2.map StaR.st) g.zs).map V.str)) hd).trans (Evl.Ex.new (o := HO.tup [.ref e, .ref d]) hr0)
            have x49 := (x5.trans (x57.trans x8)).trans y9
            exact kY r e d _ (z4.trans (nt_ex x49)) (T4.ext x49) upd_same (y9 _ _ (x8 _ _ e7)) ((Evl.Ex.new hr0) _ _ upd_same)
end
end Rw
end T_EH

section T_E7C
set_option Elab.async false
set_option linter.all false
set_option maxRecDepth 100000
set_option maxHeartbeats 8000000
namespace Rw
open PySem L2 PyProof.Rows LamX
section
variable {P : Program} {w : World} {K : PySem.W.Frag} {mg : Str → Option Value} {base : Heap}
/-! ### clash -/
/-- the rows of the sights i and j alone -/
def pairOf (seen : List (List Sta)) (i j : Nat) : List (List Sta) := if i = j then [seen[i]?.getD []] else [seen[i]?.getD [], seen[j]?.getD []]
def fitB (seen : List (List Sta)) (i j : Nat) : Bool := fullB (inStories (pairOf seen i j))
def spClash (K : PySem.W.Frag) (T : List (Addr × Str)) (C : Addr) : Sp := fun vs H Q _ => ∃ (m a sl : Addr) (L : List (Addr × List Str)) (S : List (Addr × Sig)) (ends dots ss ps : List Str) (o n : Str → List (Str × V)), vs = [.ref m, .ref a, .ref sl] ∧ NetAt C H m ends dots ss ps o n ∧ ModelOk ends dots ss ps ∧ SqR K H a (L.map fun q => V.ref q.1) ∧ RowsT H L ∧ PlanOk (moving ends dots o n) (L.map (·.2)) ∧ SqR K H sl (S.map fun q => V.ref q.1) ∧ SigsT H S ∧ (∀ q ∈ S, SigOk ends dots q.2) ∧ S.length ≤ 12 ∧ Tabs T H ∧
  (∀ seen, seen = seenStas (L.map (·.2)) o n (S.map (·.2)) →
    (∀ H', Evl.Ex (nt H) (nt H') → Tabs T H' → (∀ i j, i ≤ j → j < S.length → fitB seen i j = true) → Q .non H') ∧
    (∀ (i j : Nat) (r : Addr) H', Evl.Ex (nt H) (nt H') → Tabs T H' → i ≤ j → j < S.length → fitB seen i j = false → (∀ i' j', i' ≤ j' → j' < S.length → (i' < i ∨ i' = i ∧ j' < j) → fitB seen i' j' = true) → H' r = some (.tup [.int (i : Int), .int (j : Int)]) → Q (.ref r) H'))
abbrev nClash : List Str := ["net", "plan", "sights", "seen", "first", "second", "pair"]
theorem sc_clash : FnScope nClash ["net", "plan", "sights"] (defScope p_clash) := ⟨rfl, rfl, rfl, by decide +kernel, rfl, by decide +kernel, by decide +kernel⟩
theorem ok_clash {f C : Addr} {fd : FuncData} {T : List (Addr × Str)} (F : Fun K "clash" "clash" p_clash f fd) (C1 : Cal P w K mg base 6 "check_asked" ["net", "plan", "sights"] (spCheckAsked K C)) (C2 : Cal P w K mg base 6 "states_seen" ["net", "plan", "sights"] (spStatesSeen K T C)) (C3 : Cal P w K mg base 3 "states_in_stories" ["seen"] (spInStories K))
    (mRange : mg "range" = none) (mLen : mg "len" = none) (mAll : mg "all" = none) : FnOk P w K mg base CX0 7 f fd ["net", "plan", "sights"] (spClash K T C) := by
  obtain ⟨f1, fd1, F1, k1, b1, g1⟩ := C1.ex
  obtain ⟨f2, fd2, F2, k2, b2, g2⟩ := C2.ex
  obtain ⟨f3, fd3, F3, k3, b3, g3⟩ := C3.ex
  refine F.ok sc_clash (fun vs H Q E h => ?_) (fun cdv A outer s H vs Q E hr h => ?_)
  · obtain ⟨m, a, sl, L, S, ends, dots, ss, ps, o, n, rfl, _⟩ := h
    rfl
  · obtain ⟨m, a, sl, L, S, ends, dots, ss, ps, o, n, rfl, N, ok, hS, tL, pk, hsl, tS, okS, s12, hT, k⟩ := h
    have nd := sc_clash.nd
    refine ⟨_, pss_cons (ps_expr (pe_call F1 hr rfl g1 k1 b1 .nil pass0 (pa_cons (pv 0) (pa_cons (pv 1) (pa_cons (pv 2) pa_nil)))))
      (pss_cons (ps_set (i := 3) nd rfl (.inl rfl) (pe_call F2 hr rfl g2 k2 b2 .nil pass0 (pa_cons (pv 0) (pa_cons (pv 1) (pa_cons (pv 2) pa_nil)))))
      (pss_cons (ps_for PassesOwn.never rfl (pi_range1 (by rfl) mRange (pa_cons (pe_callB call_len (by rfl) mLen PySem.boot_len (pa_cons (pv 3) pa_nil)) pa_nil)) (pg_name (i := 4) nd rfl (.inl rfl))
        (pss_one (ps_for PassesOwn.never rfl (pi_range2 (by rfl) mRange (pa_cons (pv 4) (pa_cons (pe_callB call_len (by rfl) mLen PySem.boot_len (pa_cons (pv 3) pa_nil)) pa_nil))) (pg_name (i := 5) nd rfl (.inl rfl))
          (pss_cons (ps_set (i := 6) nd rfl (.inl rfl) (pe_ifExp (pt_cmpR op_eq (pv 4) (pv 5) (nomark _)) (pe_lst (pa_cons (pe_ix ix_list (pv 3) (pv 4) (fun _ _ => rfl)) pa_nil)) (pe_lst (pa_cons (pe_ix ix_list (pv 3) (pv 4) (fun _ _ => rfl)) (pa_cons (pe_ix ix_list (pv 3) (pv 5) (fun _ _ => rfl)) pa_nil)))))
          (pss_one (ps_if (pt_not (pt_val (pe_callB (cr_allD rfl) (by rfl) mAll (by decide +kernel) (pa_cons (pe_call F3 (hr.mono (by decide)) rfl g3 k3 b3 .nil pass0 (pa_cons (pv 6) pa_nil)) pa_nil))))
            (pss_one (ps_ret (pe_tup (pa_cons (pv 4) (pa_cons (pv 5) pa_nil))))) pss_nil))))))
      (pss_one (ps_ret pe_non)))), ?_⟩
    refine ⟨.ref m, rfl, .ref a, rfl, .ref sl, rfl, m, a, sl, L, S, ends, dots, ss, ps, o, n, rfl, N, ok, hS, tL, pk, hsl, tS, okS, s12, fun H1 x1 => ?_⟩
    refine ⟨.ref m, rfl, .ref a, rfl, .ref sl, rfl, m, a, sl, L, S, ends, dots, ss, ps, o, n, rfl, N.to x1, ok, hS.ex x1, tL.to x1, pk, hsl.ex x1, tS.to x1, okS, s12, hT.ext x1, fun p H2 B x2 T2 p2 tB eB lB few b6 => ?_⟩
    obtain ⟨k0, k1'⟩ := k _ rfl
    rw [← eB] at k0 k1'
    obtain ⟨seen, hseen⟩ : ∃ seen, seen = stasOf B := ⟨_, rfl⟩
    rw [← hseen] at k0 k1'
    have z2 : Evl.Ex (nt H) (nt H2) := (nt_ex x1).trans x2
    have at_ : ∀ i (h : i < B.length), atI (B.map fun r => V.ref r.1) (i : Int) = some (V.ref (B[i]'h).1) := fun i h => atI_nat (by rw [List.getElem?_map, List.getElem?_eq_getElem h]; rfl)
    have se_ : ∀ i (h : i < B.length), seen[i]?.getD [] = (B[i]'h).2.map StaR.st := fun i h => by rw [hseen]; show (List.map _ _)[i]?.getD _ = _; rw [List.getElem?_map, List.getElem?_eq_getElem h]; rfl
    refine ⟨.ref p, rfl, .ref p, B.length, rfl, .inl ⟨_, Evl.sq_of p2, by rw [List.length_map]⟩, (B.length : Int), rfl, by omega, by omega, for_range (lo := 0) (n := ((B.length : Nat) : Int).toNat)
      (fun i σ H' => ∃ (x4 x5 x6 : Option V), σ = [some (.ref m), some (.ref a), some (.ref sl), some (.ref p), x4, x5, x6] ∧ Evl.Ex H2 H' ∧ ∀ i' j', i' ≤ j' → j' < S.length → i' < i → fitB seen i' j' = true)
      ⟨none, none, none, rfl, Evl.Ex.refl _, fun _ _ _ _ h => absurd h (Nat.not_lt_zero _)⟩ ?_ ?_⟩
    · rintro i σ H3 hi ⟨x4, x5, x6, rfl, x3, no⟩
      rw [Int.toNat_natCast] at hi
      rw [Int.zero_add]
      have p3 := x3 _ _ p2
      refine ⟨.int (i : Int), rfl, .ref p, rfl, .ref p, B.length, rfl, .inl ⟨_, Evl.sq_of p3, by rw [List.length_map]⟩, (i : Int), (B.length : Int), rfl, ⟨by omega, by omega, by omega, by omega⟩, for_range (lo := (i : Int)) (n := ((B.length : Int) - (i : Int)).toNat)
        (fun j σ H' => ∃ (x5 x6 : Option V), σ = [some (.ref m), some (.ref a), some (.ref sl), some (.ref p), some (.int (i : Int)), x5, x6] ∧ Evl.Ex H2 H' ∧ ∀ i' j', i' ≤ j' → j' < S.length → (i' < i ∨ i' = i ∧ j' < i + j) → fitB seen i' j' = true)
        ⟨x5, x6, rfl, x3, fun i' j' h1 h2 h3 => no i' j' h1 h2 (by omega)⟩ ?_ ?_⟩
      · rintro j σ H4 hj ⟨x5, x6, rfl, x4, no2⟩
        have jl : i + j < B.length := by omega
        have ij : ((i : Int) + (j : Int)) = ((i + j : Nat) : Int) := by omega
        rw [ij]
        have p4 := x4 _ _ p2
        have iB : i < B.length := by omega
        have ef : fitB seen i (i + j) = fullB (inStories (pairOf seen i (i + j))) := rfl
        have x5sub : ∀ LLp : List (Addr × List StaR), (∀ r ∈ LLp, r ∈ B) → ListsT H2 LLp := fun LLp h r hr => tB r (h r hr)
        refine ⟨.int (i : Int), rfl, .int ((i + j : Nat) : Int), rfl, rfl, _, rfl, ?_⟩
        by_cases c : i = i + j
        · rw [decide_eq_true (by rw [← c])]
          refine iteT ⟨.ref p, rfl, .int (i : Int), rfl, p, _, (i : Int), _, rfl, rfl, Evl.sq_of p4, at_ i iB, by show 1 ≤ sizeLine; decide, fun q hq => ?_⟩
          have y5 : Evl.Ex H4 (upd H4 q (.lst [V.ref (B[i]).1])) := Evl.Ex.new hq
          have q5 : (upd H4 q (.lst [V.ref (B[i]).1])) q = some (.lst (([B[i]] : List (Addr × List StaR)).map fun r => V.ref r.1)) := upd_same
          generalize upd H4 q (.lst [V.ref (B[i]).1]) = H5 at y5 q5
          have inB : ∀ r ∈ ([B[i]] : List (Addr × List StaR)), r ∈ B := fun r hr => by
            simp only [List.mem_cons, List.not_mem_nil, or_false] at hr
            rw [hr]; exact List.getElem_mem iB
          have ep : stasOf [B[i]] = pairOf seen i (i + j) := by
            unfold pairOf
            rw [if_pos c, se_ i iB]; rfl
          refine ⟨.ref q, rfl, q, [B[i]], rfl, Evl.sq_of q5, (x5sub _ inB).to (x4.trans y5), by simp only [List.length_cons, List.length_nil]; omega, fun r hr => few r (inB r hr), fun r hr => b6 r (inB r hr), fun t H6 A x6 _ t6 tA eA fA lA => ?_⟩
          obtain ⟨xs, ds, a1, a2, a3, a4, a5⟩ := all_listsD (K := K) t6 tA (fun r hr => Nat.le_trans (fA.few r hr) (by decide))
          refine ⟨t, xs, ds, rfl, a1, a2, a3, a4, _, rfl, ?_⟩
          rw [a5, eA, ep, ← ef]
          have x46 := (x4.trans y5).trans x6
          cases hb : fitB seen i (i + j) with
          | true =>
            refine iteF ⟨_, _, rfl, x46, fun i' j' h1 h2 h3 => ?_⟩
            by_cases c2 : i' = i ∧ j' = i + j
            · rw [c2.1, c2.2]; exact hb
            · exact no2 i' j' h1 h2 (by omega)
          | false =>
            refine iteT ⟨.int (i : Int), rfl, .int ((i + j : Nat) : Int), rfl, by show 2 ≤ sizeLine; decide, fun t2 ht2 => ?_⟩
            have y7 := x46.trans (Evl.Ex.new (o := HO.tup [.int (i : Int), .int ((i + j : Nat) : Int)]) ht2)
            exact k1' i (i + j) t2 _ (z2.trans (nt_ex y7)) (T2.ext y7) (by omega) (by omega) hb (fun i' j' h1 h2 h3 => no2 i' j' h1 h2 h3) upd_same
        · rw [decide_eq_false (fun z => c (by injection z with z; omega))]
          refine iteF ⟨.ref p, rfl, .int (i : Int), rfl, p, _, (i : Int), _, rfl, rfl, Evl.sq_of p4, at_ i iB, .ref p, rfl, .int ((i + j : Nat) : Int), rfl, p, _, ((i + j : Nat) : Int), _, rfl, rfl, Evl.sq_of p4, at_ (i + j) jl, by show 2 ≤ sizeLine; decide, fun q hq => ?_⟩
          have y5 : Evl.Ex H4 (upd H4 q (.lst [V.ref (B[i]).1, V.ref (B[i + j]).1])) := Evl.Ex.new hq
          have q5 : (upd H4 q (.lst [V.ref (B[i]).1, V.ref (B[i + j]).1])) q = some (.lst (([B[i], B[i + j]] : List (Addr × List StaR)).map fun r => V.ref r.1)) := upd_same
          generalize upd H4 q (.lst [V.ref (B[i]).1, V.ref (B[i + j]).1]) = H5 at y5 q5
          have inB : ∀ r ∈ ([B[i], B[i + j]] : List (Addr × List StaR)), r ∈ B := fun r hr => by
            simp only [List.mem_cons, List.not_mem_nil, or_false] at hr
            rcases hr with hr | hr <;> rw [hr] <;> exact List.getElem_mem _
          have ep : stasOf [B[i], B[i + j]] = pairOf seen i (i + j) := by
            unfold pairOf
            rw [if_neg c, se_ i iB, se_ (i + j) jl]; rfl
          refine ⟨.ref q, rfl, q, [B[i], B[i + j]], rfl, Evl.sq_of q5, (x5sub _ inB).to (x4.trans y5), by simp only [List.length_cons, List.length_nil]; omega, fun r hr => few r (inB r hr), fun r hr => b6 r (inB r hr), fun t H6 A x6 _ t6 tA eA fA lA => ?_⟩
          obtain ⟨xs, ds, a1, a2, a3, a4, a5⟩ := all_listsD (K := K) t6 tA (fun r hr => Nat.le_trans (fA.few r hr) (by decide))
          refine ⟨t, xs, ds, rfl, a1, a2, a3, a4, _, rfl, ?_⟩
          rw [a5, eA, ep, ← ef]
          have x46 := (x4.trans y5).trans x6
          cases hb : fitB seen i (i + j) with
          | true =>
            refine iteF ⟨_, _, rfl, x46, fun i' j' h1 h2 h3 => ?_⟩
            by_cases c2 : i' = i ∧ j' = i + j
            · rw [c2.1, c2.2]; exact hb
            · exact no2 i' j' h1 h2 (by omega)
          | false =>
            refine iteT ⟨.int (i : Int), rfl, .int ((i + j : Nat) : Int), rfl, by show 2 ≤ sizeLine; decide, fun t2 ht2 => ?_⟩
            have y7 := x46.trans (Evl.Ex.new (o := HO.tup [.int (i : Int), .int ((i + j : Nat) : Int)]) ht2)
            exact k1' i (i + j) t2 _ (z2.trans (nt_ex y7)) (T2.ext y7) (by omega) (by omega) hb (fun i' j' h1 h2 h3 => no2 i' j' h1 h2 h3) upd_same
      · rintro σ H4 ⟨x5, x6, rfl, x4, no2⟩
        refine ⟨_, _, _, rfl, x4, fun i' j' h1 h2 h3 => no2 i' j' h1 h2 ?_⟩
        omega
    · rintro σ H3 ⟨x4, x5, x6, rfl, x3, no⟩
      rw [Int.toNat_natCast] at no
      exact k0 H3 (z2.trans (nt_ex x3)) (T2.ext x3) fun i j h1 h2 => no i j h1 h2 (by omega)
end
end Rw
end T_E7C

section T_E8
set_option Elab.async false
set_option linter.all false
set_option maxRecDepth 100000
set_option maxHeartbeats 8000000
namespace Rw
open PySem L2 PyProof.Rows LamX
section
variable {P : Program} {w : World} {K : PySem.W.Frag} {mg : Str → Option Value} {base : Heap}
/-! ### story -/
def spStory (K : PySem.W.Frag) (T : List (Addr × Str)) (C : Addr) : Sp := fun vs H Q _ => ∃ (m a sl : Addr) (L : List (Addr × List Str)) (S : List (Addr × Sig)) (ends dots ss ps : List Str) (o n : Str → List (Str × V)), vs = [.ref m, .ref a, .ref sl] ∧ NetAt C H m ends dots ss ps o n ∧ ModelOk ends dots ss ps ∧ SqR K H a (L.map fun q => V.ref q.1) ∧ RowsT H L ∧ PlanOk (moving ends dots o n) (L.map (·.2)) ∧ SqR K H sl (S.map fun q => V.ref q.1) ∧ SigsT H S ∧ (∀ q ∈ S, SigOk ends dots q.2) ∧ S.length ≤ 12 ∧ Tabs T H ∧
  (∀ kept, kept = inStories (seenStas (L.map (·.2)) o n (S.map (·.2))) →
    (∀ H', Evl.Ex (nt H) (nt H') → Tabs T H' → fullB kept = false → Q .non H') ∧
    (∀ (r : Addr) (R : List StaR) H', Evl.Ex (nt H) (nt H') → Tabs T H' → fullB kept = true → H' r = some (.lst (refsS R)) → StasT H' R → Story kept (R.map StaR.st) → Q (.ref r) H'))
abbrev nStory : List Str := ["net", "plan", "sights", "states", "told", "some", "state"]
theorem sc_story : FnScope nStory ["net", "plan", "sights"] (defScope p_story) := ⟨rfl, rfl, rfl, by decide +kernel, rfl, by decide +kernel, by decide +kernel⟩
theorem ok_story {f C : Addr} {fd : FuncData} {T : List (Addr × Str)} (F : Fun K "story" "story" p_story f fd) (C1 : Cal P w K mg base 6 "check_asked" ["net", "plan", "sights"] (spCheckAsked K C)) (C2 : Cal P w K mg base 6 "states_seen" ["net", "plan", "sights"] (spStatesSeen K T C)) (C3 : Cal P w K mg base 3 "states_in_stories" ["seen"] (spInStories K)) (C4 : Cal P w K mg base 2 "can_follow" ["state", "later"] spFol)
    (mAll : mg "all" = none) : FnOk P w K mg base CX0 7 f fd ["net", "plan", "sights"] (spStory K T C) := by
  obtain ⟨f1, fd1, F1, k1, b1, g1⟩ := C1.ex
  obtain ⟨f2, fd2, F2, k2, b2, g2⟩ := C2.ex
  obtain ⟨f3, fd3, F3, k3, b3, g3⟩ := C3.ex
  obtain ⟨f4, fd4, F4, k4, b4, g4⟩ := C4.ex
  refine F.ok sc_story (fun vs H Q E h => ?_) (fun cdv A outer s H vs Q E hr h => ?_)
  · obtain ⟨m, a, sl, L, S, ends, dots, ss, ps, o, n, rfl, _⟩ := h
    rfl
  · obtain ⟨m, a, sl, L, S, ends, dots, ss, ps, o, n, rfl, N, ok, hS, tL, pk, hsl, tS, okS, s12, hT, k⟩ := h
    have nd := sc_story.nd
    refine ⟨_, pss_cons (ps_expr (pe_call F1 hr rfl g1 k1 b1 .nil pass0 (pa_cons (pv 0) (pa_cons (pv 1) (pa_cons (pv 2) pa_nil)))))
      (pss_cons (ps_set (i := 3) nd rfl (.inl rfl) (pe_call F3 (hr.mono (by decide)) rfl g3 k3 b3 .nil pass0 (pa_cons (pe_call F2 hr rfl g2 k2 b2 .nil pass0 (pa_cons (pv 0) (pa_cons (pv 1) (pa_cons (pv 2) pa_nil)))) pa_nil)))
      (pss_cons (ps_if (pt_not (pt_val (pe_callB (cr_allD rfl) (by rfl) mAll (by decide +kernel) (pa_cons (pv 3) pa_nil)))) (pss_one (ps_ret pe_non)) pss_nil)
      (pss_cons (ps_set (i := 4) nd rfl (.inr rfl) (pe_lst pa_nil))
      (pss_cons (ps_for PassesOwn.never rfl (pi_list (pv 3)) (pg_name (i := 5) nd rfl (.inl rfl))
        (pss_one (ps_expr (pe_bm PySem.F.plainAttrs_list PySem.F.slot_list_append PySem.F.type_list_append mt_append (pv 4) (pa_cons
          (pe_ix ix_list (pe_lc (own := [("state", 6)]) (g := gName 6) (tt := tOr (tNot (fun σ H Q => tVar 4 σ H fun x H' => ∃ k, TruV K x H' k ∧ Q k H')) (tB (tCall spFol [] E0 (tCons (tOp (rIxL K) (tVar 4) (tUn (rU fun i => .int (-i)) (tC (.int 1)))) (tCons (tVar 6) tNil))))) (te := tVar 6) rfl nd (pi_list (pv 5)) (blkOk_by (own := [("state", 6)]) (N := nStory) (sc := defScope p_story) (by decide +kernel))
            (fun _ _ _ _ _ => pg_name (i := 6) nd rfl (Or.inl rfl))
            (fun _ _ _ _ _ => pts_one (PW.pt (pw_or (pt_not (pt_truth (pv 4) (fun _ => rfl))) (pw_or1 (pt_val (pe_call F4 (hr.mono (by decide)) rfl g4 k4 b4 .nil pass0 (pa_cons (pe_ix ix_list (pv 4) (pe_un un_neg pe_int) (fun _ _ => rfl)) (pa_cons (pv 6) pa_nil))))))))
            (fun _ _ _ _ _ => pv 6)) pe_int (fun _ _ => rfl)) pa_nil)))))
      (pss_one (ps_ret (pv 4))))))), ?_⟩
    refine ⟨.ref m, rfl, .ref a, rfl, .ref sl, rfl, m, a, sl, L, S, ends, dots, ss, ps, o, n, rfl, N, ok, hS, tL, pk, hsl, tS, okS, s12, fun H1 x1 => ?_⟩
    refine ⟨.ref m, rfl, .ref a, rfl, .ref sl, rfl, m, a, sl, L, S, ends, dots, ss, ps, o, n, rfl, N.to x1, ok, hS.ex x1, tL.to x1, pk, hsl.ex x1, tS.to x1, okS, s12, hT.ext x1, fun p H2 B x2 T2 p2 tB eB lB few b6 => ?_⟩
    obtain ⟨k0, k1'⟩ := k _ rfl
    rw [← eB] at k0 k1'
    have z2 : Evl.Ex (nt H) (nt H2) := (nt_ex x1).trans x2
    refine ⟨p, B, rfl, Evl.sq_of p2, tB, by omega, few, b6, fun t H3 A x3 _ t3 tA eA fA lA => ?_⟩
    rw [← eA] at k0 k1'
    have z3 := z2.trans (nt_ex x3)
    have T3 := T2.ext x3
    have onw : Onw (stasOf A) := by rw [eA]; exact stories_onw _
    obtain ⟨xs, ds, a1, a2, a3, a4, a5⟩ := all_listsD (K := K) t3 tA (fun r hr => Nat.le_trans (fA.few r hr) (by decide))
    refine ⟨.ref t, rfl, t, xs, ds, rfl, a1, a2, a3, a4, _, rfl, ?_⟩
    rw [a5]
    cases hb : fullB (stasOf A) with
    | false => exact iteT (k0 H3 z3 T3 hb)
    | true =>
      refine iteF ⟨by show 0 ≤ sizeLine; decide, fun td htd => ?_⟩
      have y4 : Evl.Ex H3 (upd H3 td (.lst [])) := Evl.Ex.new htd
      have d4 : (upd H3 td (.lst [])) td = some (.lst (refsS [])) := upd_same
      generalize upd H3 td (.lst []) = H4 at y4 d4
      refine ⟨.ref t, rfl, t, rfl, ⟨_, Evl.sq_of (y4 _ _ t3)⟩, for_list (K := K) (a := t) (xs := A.map fun r => V.ref r.1)
        (fun i σ H' => ∃ (x5 : Option V) (R : List StaR), σ = [some (.ref m), some (.ref a), some (.ref sl), some (.ref t), some (.ref td), x5, none] ∧ Evl.Ex H3 H' ∧ H' td = some (.lst (refsS R)) ∧ StasT H' R ∧ R.length = i ∧ (∀ (j : Nat) (l : List Sta) (s : Sta), (stasOf A)[j]? = some l → (R.map StaR.st)[j]? = some s → s ∈ l) ∧ (∀ q ∈ R, q.B.length ≤ 6) ∧ (∀ (j : Nat) (s u : Sta), (R.map StaR.st)[j]? = some s → (R.map StaR.st)[j + 1]? = some u → folB s u = true))
        ⟨none, [], rfl, y4, d4, (fun q hq => nomatch hq), rfl, (fun j l s _ h => by cases h), (fun q hq => nomatch hq), (fun j s u h => by cases h)⟩ (fun i σ H' _ ⟨_, _, _, x, _⟩ => Evl.sq_of (x _ _ t3)) ?_ ?_⟩
      · rintro i v σ H5 hi ⟨x5, R, rfl, x5', d5, tR, lR, mR, bR, fR⟩
        obtain ⟨r, hr0, rfl⟩ := map_at hi
        have mr := List.mem_of_getElem? hr0
        have il := (List.getElem?_eq_some_iff.mp hr0).1
        have tr := tA r mr
        have rl := fA.few r mr
        have hr1 := x5' _ _ tr.1
        have sr := tr.2.to x5'
        have ne : r.2 ≠ [] := fun z => by
          unfold fullB at hb
          have := List.all_eq_true.mp hb (r.2.map StaR.st) (List.mem_map_of_mem (f := fun r : Addr × List StaR => r.2.map StaR.st) mr)
          rw [z] at this
          cases this
        have br : ∀ q ∈ r.2, q.B.length ≤ 6 := fun q hq => by
          obtain ⟨r0, h0, s0⟩ := fA.mem r mr
          exact b6 r0 h0 q (s0 q hq)
        -- the test for one state
        obtain ⟨fb, hfb⟩ : ∃ fb : StaR → Bool, fb = fun q => R.isEmpty || (R.getLast?.map fun l => folB l.st q.st).getD false := ⟨_, rfl⟩
        refine ⟨.ref td, rfl, .inl ⟨rfl, _, Evl.sq_of d5⟩, .ref r.1, rfl, r.1, rfl, ⟨_, Evl.sq_of hr1⟩, fun D hD => lc_list (K := K) (a := r.1) (xs := refsS r.2)
          (fun j H' => Evl.Ex H5 H' ∧ H' D = some (.lst (refsS ((r.2.take j).filter fb)))) ⟨Evl.Ex.new hD, upd_same⟩ (fun j H' _ h => Evl.sq_of (h.1 _ _ hr1)) ?_ ?_⟩
        · rintro j v H6 hj ⟨x6, d6⟩
          obtain ⟨q, hq, rfl⟩ := map_at hj
          have mq := List.mem_of_getElem? hq
          have jl := (List.getElem?_eq_some_iff.mp hq).1
          have tq : StaT H6 q := ⟨x6 _ _ (sr q mq).1, x6 _ _ (sr q mq).2⟩
          have fl : ((r.2.take j).filter fb).length ≤ 500 := Nat.le_trans (List.length_filter_le _ _) (by rw [List.length_take]; omega)
          have put : ∀ H7 : Hp, Evl.Ex H6 H7 → fb q = true → ∃ acc, H7 D = some (.lst acc) ∧ acc.length < sizeLine ∧ (Evl.Ex H5 (upd H7 D (HO.lst (acc ++ [V.ref q.a]))) ∧ (upd H7 D (HO.lst (acc ++ [V.ref q.a]))) D = some (.lst (refsS ((r.2.take (j + 1)).filter fb)))) := fun H7 x7 e => by
            refine ⟨_, x7 _ _ d6, by rw [List.length_map]; exact small1000 (by omega), (x6.trans x7).mut hD, ?_⟩
            rw [upd_same, List.take_add_one, hq, List.filter_append]
            show _ = some (HO.lst (List.map _ (_ ++ List.filter _ [q])))
            rw [List.filter_cons_of_pos e, List.filter_nil, List.map_append]
            rfl
          refine ⟨rfl, .ref td, rfl, !R.isEmpty, .inl ⟨_, Evl.sq_of (x6 _ _ d5), by rw [List.isEmpty_map]⟩, ?_⟩
          rcases List.eq_nil_or_concat R with eR | ⟨R0, l, eR⟩
          · refine (if_pos (show (!(!R.isEmpty)) = true by rw [eR]; rfl)).mpr ?_
            exact iteT ⟨.ref q.a, rfl, put H6 (Evl.Ex.refl _) (by rw [hfb, eR]; rfl)⟩
          rw [List.concat_eq_append] at eR
          have eE : R.isEmpty = false := by rw [eR]; cases R0 <;> rfl
          have efb : fb q = folB l.st q.st := by rw [hfb]; show (R.isEmpty || _) = _; rw [eE, eR, List.getLast?_concat]; rfl
          refine (if_neg (show ¬((!(!R.isEmpty)) = true) by rw [eE]; decide)).mpr ?_
          have ml : l ∈ R := by rw [eR]; exact List.mem_append_right _ List.mem_cons_self
          have tl : StaT H6 l := ⟨x6 _ _ (tR l ml).1, x6 _ _ (tR l ml).2⟩
          have lb := bR l ml
          have at1 : atI (refsS R) (-1) = some (V.ref l.a) := by show atI (List.map _ R) _ = _; rw [eR, List.map_append]; exact atI_last _ _
          refine ⟨.ref td, rfl, 1, rfl, td, _, -1, _, rfl, rfl, Evl.sq_of (x6 _ _ d5), at1, .ref q.a, rfl, l, q, rfl, tl, tq, by omega, fun H7 x7 => ⟨_, rfl, ?_⟩⟩
          cases hc : folB l.st q.st with
          | true => exact iteT ⟨.ref q.a, rfl, put H7 x7 (by rw [efb, hc])⟩
          | false =>
            refine iteF ⟨x6.trans x7, ?_⟩
            rw [x7 _ _ d6, List.take_add_one, hq, List.filter_append]
            show _ = some (HO.lst (List.map _ (_ ++ List.filter _ [q])))
            rw [List.filter_cons_of_neg (by rw [efb, hc]; decide), List.filter_nil, List.append_nil]
        · rintro H6 ⟨x6, d6⟩
          rw [List.length_map, List.take_length] at d6
          have ei : (stasOf A)[i]? = some (r.2.map StaR.st) := by show (List.map _ _)[i]? = _; rw [List.getElem?_map, hr0]; rfl
          have lRi : (R.map StaR.st).length = i := by rw [List.length_map, lR]
          have some_ : ∃ q ∈ r.2, fb q = true := by
            rcases List.eq_nil_or_concat R with eR | ⟨R0, l, eR⟩
            · obtain ⟨q, hq⟩ := List.exists_mem_of_ne_nil _ ne
              exact ⟨q, hq, by rw [hfb, eR]; rfl⟩
            · rw [List.concat_eq_append] at eR
              have eE : R.isEmpty = false := by rw [eR]; cases R0 <;> rfl
              have i0 : R0.length + 1 = i := by rw [← lR, eR, List.length_append]; rfl
              have h1 : (R.map StaR.st)[R0.length]? = some l.st := by rw [eR, List.map_append, List.getElem?_append_right (by rw [List.length_map]; exact Nat.le_refl _), List.length_map, Nat.sub_self]; rfl
              have h2 : R0.length < (stasOf A).length := by
                have := (List.getElem?_eq_some_iff.mp ei).1
                omega
              obtain ⟨u, hu, fu⟩ := onw_at onw (List.getElem?_eq_getElem h2) (by rw [i0]; exact ei) l.st (mR _ _ _ (List.getElem?_eq_getElem h2) h1)
              obtain ⟨q, hq, rfl⟩ := List.mem_map.mp hu
              exact ⟨q, hq, by rw [hfb]; show (R.isEmpty || _) = _; rw [eE, eR, List.getLast?_concat]; exact fu⟩
          obtain ⟨q0, rest, eq0⟩ : ∃ q0 rest, r.2.filter fb = q0 :: rest := by
            obtain ⟨q, hq, fq⟩ := some_
            cases e : r.2.filter fb with
            | nil => exact absurd (List.mem_filter.mpr ⟨hq, fq⟩) (by rw [e]; exact List.not_mem_nil)
            | cons q0 rest => exact ⟨q0, rest, rfl⟩
          have m0 : q0 ∈ r.2 ∧ fb q0 = true := List.mem_filter.mp (by rw [eq0]; exact List.mem_cons_self)
          have d56 := x6 _ _ d5
          refine ⟨D, _, 0, .ref q0.a, rfl, rfl, Evl.sq_of d6, atI_nat (j := 0) (by rw [eq0]; rfl), td, _, .ref q0.a, rfl, rfl, d56, by rw [List.length_map]; exact small1000 (by omega), ?_⟩
          refine ⟨_, R ++ [q0], rfl, (x5'.trans x6).mut htd, ?_, StasT.mut (fun q hq => ?_) d56, by rw [List.length_append, lR]; rfl, ?_, fun q hq => ?_, ?_⟩
          · rw [upd_same]
            show _ = some (HO.lst (List.map _ _))
            rw [List.map_append]
            rfl
          · rcases List.mem_append.mp hq with hq | hq
            · exact tR.to x6 q hq
            · rw [List.mem_singleton.mp hq]
              exact sr.to x6 q0 m0.1
          · rw [List.map_append]
            exact mem_snoc mR (by rw [lRi]; exact ei) (List.mem_map_of_mem m0.1)
          · rcases List.mem_append.mp hq with hq | hq
            · exact bR q hq
            · rw [List.mem_singleton.mp hq]
              exact br q0 m0.1
          · rw [List.map_append]
            refine fol_snoc fR fun u hu => ?_
            have h1 := m0.2
            rw [hfb] at h1
            rw [List.getLast?_map] at hu
            cases e : R.getLast? with
            | none => rw [e] at hu; cases hu
            | some l =>
              rw [e] at hu
              injection hu with hu
              rw [← hu]
              have eE : R.isEmpty = false := by cases R with
                | nil => cases e
                | cons _ _ => rfl
              have h1' : (R.isEmpty || (R.getLast?.map fun l => folB l.st q0.st).getD false) = true := h1
              rw [eE, e] at h1'
              exact h1'
      · rintro σ H5 ⟨x5, R, rfl, x5', d5, tR, lR, mR, bR, fR⟩
        rw [List.length_map] at lR
        exact ⟨.ref td, rfl, k1' td R H5 (z3.trans (nt_ex x5')) (T3.ext x5') hb d5 tR ⟨by rw [List.length_map, lR]; exact (List.length_map ..).symm, mR, fR⟩⟩
end
end Rw
end T_E8

section T_Y0
set_option Elab.async false
set_option linter.all false
set_option maxRecDepth 100000
set_option maxHeartbeats 4000000
namespace Rw
open PySem L2 PyProof.Rows
/-- a dict comprehension over any walk -/
theorem dc_it {J : It} {n : Nat} {G : Hp → Prop} {Y : Nat → Hp → V → Hp → Prop} (wk : Walk J n G Y) {g : TG} {tt : TT} {tk tv : TE} {vs : List Nat} {σ : L2.St} {H1 : Hp} {D : Addr} {Qd : Hp → Prop} (Pv : Nat → Hp → Prop) (start : Pv 0 (upd H1 D (.dK []))) (hG : ∀ i H, i ≤ n → Pv i H → G H)
    (turn : ∀ i x H H', i < n → Pv i H → Y i H x H' → g x (wipe σ vs) H' fun σ2 H2 => wipe σ2 vs = wipe σ vs ∧ tt σ2 H2 fun b H3 =>
      if b = true then tk σ2 H3 fun y H4 => tv σ2 H4 fun z H5 => ∃ kvs k, y = kV k ∧ H5 D = some (.dK kvs) ∧ kvs.length < sizeLine ∧ Pv (i + 1) (upd H5 D (.dK (putK kvs k z))) else Pv (i + 1) H3) (fin : ∀ H, Pv n H → Qd H) :
    ∃ W : Nat → Nat → Hp → Prop, (∃ m, W 0 m (upd H1 D (.dK []))) ∧ ∀ i m H, W i m H →
      (J.stop i H ∧ Qd H) ∨ (J.go i H ∧ ∃ Nx : Hp → Prop, (∀ H', Nx H' → ∃ m', m' < m ∧ W (i + 1) m' H') ∧ ∀ x H', J.yld i H x H' → g x (wipe σ vs) H' fun σ2 H2 => wipe σ2 vs = wipe σ vs ∧ tt σ2 H2 fun b H3 =>
        if b = true then tk σ2 H3 fun y H4 => tv σ2 H4 fun z H5 => ∃ kvs k, y = kV k ∧ H5 D = some (.dK kvs) ∧ kvs.length < sizeLine ∧ Nx (upd H5 D (.dK (putK kvs k z))) else Nx H3) := by
  refine ⟨fun i m H => m = n - i ∧ i ≤ n ∧ Pv i H, ⟨n, by simp, Nat.zero_le _, start⟩, ?_⟩
  rintro i m H ⟨rfl, hi, p⟩
  by_cases lt : i < n
  · exact .inr ⟨wk.goes i H lt (hG i H hi p), Pv (i + 1), fun H' p' => ⟨n - (i + 1), by omega, rfl, lt, p'⟩, fun x H' y => turn i x H H' lt p (wk.yields i H x H' lt (hG i H hi p) y)⟩
  · have e : i = n := by omega
    subst e
    exact .inl ⟨wk.stops H (hG _ H hi p), fin H p⟩
theorem RowsAt.ok {H : Hp} {ends dots : List Str} {rows : List (Str × V)} {o n : Str → List (Str × V)} (h : RowsAt H ends dots rows o n) (hk : rows.map (·.1) = ends) (nd : ends.Nodup) : RowsOk H dots rows := fun q hq => by
  obtain ⟨i, hi, rfl⟩ := List.getElem_of_mem hq
  have ge : ends[i]? = some rows[i].1 := by rw [← hk, List.getElem?_map, List.getElem?_eq_getElem hi]; rfl
  obtain ⟨p, po, pn, hv, pa⟩ := h rows[i].1 (List.mem_of_getElem? ge)
  have h1 := tkv_at hk nd ge hv
  unfold tkv at h1
  rw [List.map_map, List.getElem?_map, List.getElem?_eq_getElem hi] at h1
  exact ⟨p, po, pn, _, _, Option.some.inj h1, pa⟩
/-- new tables, told by their addresses: goal, pair, old, new -/
def tabRs (T : List (Str × Addr × Addr × Addr)) : List (Str × V) := T.map fun t => (t.1, V.ref t.2.1)
theorem tabRs_keys (T : List (Str × Addr × Addr × Addr)) : (tabRs T).map (·.1) = T.map (·.1) := by
  unfold tabRs
  rw [List.map_map]
  rfl
structure TabsAt (H0 H : Hp) (D : Addr) (T : List (Str × Addr × Addr × Addr)) (ends dots : List Str) (o n : Str → List (Str × V)) : Prop where
  hd : H D = some (.dK (tkv (tabRs T)))
  ks : T.map (·.1) = ends
  pa : ∀ t ∈ T, PairAt H dots t.1 t.2.1 t.2.2.1 t.2.2.2 (o t.1) (n t.1) ∧ H0 t.2.1 = none ∧ H0 t.2.2.1 = none ∧ H0 t.2.2.2 = none
  nd : (D :: T.flatMap fun t => [t.2.2.1, t.2.2.2]).Nodup
theorem TabsAt.get {H0 H : Hp} {D : Addr} {T : List (Str × Addr × Addr × Addr)} {ends dots : List Str} {o n : Str → List (Str × V)} (h : TabsAt H0 H D T ends dots o n) (en : ends.Nodup) {t : Str × Addr × Addr × Addr} (ht : t ∈ T) : valV (tkv (tabRs T)) (Sum.inr t.1) = some (.ref t.2.1) := by
  have ks := h.ks
  clear h
  induction T generalizing ends with
  | nil => cases ht
  | cons u T ih =>
    subst ks
    obtain ⟨h1, h2⟩ := List.nodup_cons.mp en
    show valV ((Sum.inr u.1, V.ref u.2.1) :: tkv (tabRs T)) (Sum.inr t.1) = _
    rcases List.mem_cons.mp ht with rfl | ht
    · exact valV_pos (p := ((Sum.inr t.1 : Key), V.ref t.2.1)) rfl
    · rw [valV_neg (fun e => h1 (by have e' : u.1 = t.1 := Sum.inr.inj e; show u.1 ∈ T.map (·.1); rw [e']; exact List.mem_map_of_mem ht))]
      exact ih h2 ht rfl
theorem TabsAt.rows {H0 H : Hp} {D : Addr} {T : List (Str × Addr × Addr × Addr)} {ends dots : List Str} {o n : Str → List (Str × V)} (h : TabsAt H0 H D T ends dots o n) (en : ends.Nodup) : RowsAt H ends dots (tabRs T) o n := fun e he => by
  rw [← h.ks] at he
  obtain ⟨t, ht, rfl⟩ := List.mem_map.mp he
  exact ⟨_, _, _, h.get en ht, (h.pa t ht).1⟩
section
variable {P : Program} {w : World} {K : PySem.W.Frag} {mg : Str → Option Value} {base : Heap}
def spTabs (C : Addr) : Sp := fun vs H Q _ => ∃ (m : Addr) (ends dots ss ps : List Str) (o n : Str → List (Str × V)), vs = [.ref m] ∧ NetAt C H m ends dots ss ps o n ∧ 0 < ends.length ∧ ends.length ≤ 100 ∧ ends.Nodup ∧
  ∀ D T H', Evl.Ex H H' → H D = none → TabsAt H H' D T ends dots (fun e => canon dots (o e)) (fun e => canon dots (n e)) → Q (.ref D) H'
abbrev nTabs : List Str := ["self", "goal", "old", "new"]
theorem sc_tabs : FnScope nTabs ["self"] (defScope c_Net_tables) := ⟨rfl, rfl, rfl, by decide +kernel, rfl, by decide +kernel, by decide +kernel⟩
theorem ok_tabs {f C : Addr} {fd : FuncData} (F : Fun K "tables" "Net.tables" c_Net_tables f fd) (T : NetTxt K C) (mDict : mg "dict" = none) : FnOk P w K mg base CX0 1 f fd ["self"] (spTabs C) := by
  refine F.ok sc_tabs (fun vs H Q E h => ?_) (fun cdv A outer s H vs Q E hr h => ?_)
  · obtain ⟨m, ends, dots, ss, ps, o, n, rfl, _⟩ := h
    rfl
  · obtain ⟨m, ends, dots, ss, ps, o, n, rfl, N, e0, few, en, k⟩ := h
    have nd := sc_tabs.nd
    refine ⟨_, pss_one (ps_ret (pe_lock (pe_dc (own := [("goal", 1), ("old", 2), ("new", 3)]) (g := gTup K 2 (gCons (gName 1) (gCons (gTup K 2 (gCons (gName 2) (gCons (gName 3) gNil))) gNil))) (tt := tYes) (tk := tVar 1) rfl nd (pi_items (pe_fld (pv 0) rfl))
      (blkOk_by (own := [("goal", 1), ("old", 2), ("new", 3)]) (N := nTabs) (sc := defScope c_Net_tables) (by decide +kernel))
      (fun _ _ _ _ _ => pg_tup rfl (pgs_cons (pg_name (i := 1) nd rfl (Or.inl rfl)) (pgs_cons (pg_tup rfl (pgs_cons (pg_name (i := 2) nd rfl (Or.inl rfl)) (pgs_cons (pg_name (i := 3) nd rfl (Or.inl rfl)) pgs_nil))) pgs_nil)))
      (fun _ _ _ _ _ => pts_nil) (fun _ _ _ _ _ => pv 1)
      (fun _ _ _ _ _ => pe_tup (pa_cons (pe_callTy call_dictD (by rfl) mDict (by decide +kernel) (pa_cons (pv 2) pa_nil)) (pa_cons (pe_callTy call_dictD (by rfl) mDict (by decide +kernel) (pa_cons (pv 3) pa_nil)) pa_nil)))))), ?_⟩
    obtain ⟨dx, T', N', S, Po, rows, h1, h2, h3, h4, h5, h6, h7⟩ := N.ex
    have rl : rows.length = ends.length := by rw [← h6, List.length_map]
    have rne : rows ≠ [] := fun z => by rw [z] at rl; simp at rl; omega
    have ro := h7.ok h6 en
    refine ⟨T', .dK (tkv rows), h2, trivial, fun od => ?_⟩
    have locked : (upd H T' (.frz od (.dK (tkv rows)))) T' = some (.frz od (.dK (tkv rows))) := upd_same
    have up : ∀ {a : Addr} {u : HO}, H a = some u → a ≠ T' → (upd H T' (.frz od (.dK (tkv rows)))) a = some u := fun {a u} h ne => by rw [upd_ne ne]; exact h
    have back : ∀ {H4 : Hp}, Evl.Ex (upd H T' (.frz od (.dK (tkv rows)))) H4 → Evl.Ex H (upd H4 T' (.dK (tkv rows))) := fun {H4} e a u h => by
      by_cases q : a = T'
      · subst q
        rw [upd_same, ← h2, h]
      · rw [upd_ne q]
        exact e _ _ (by rw [upd_ne q]; exact h)
    generalize upd H T' (.frz od (.dK (tkv rows))) = HL at locked up back
    refine ⟨.ref m, rfl, m, C, dx, _, .ref T', rfl, up h1 (ne_of h1 h2 (by intro z; cases z)), T.cl, T.nT, nflds_tables _ _ _ _, T', od, _, rfl, locked, fun D hD => dc_it walk_items
      (fun i H' => i ≤ ends.length ∧ Evl.Ex HL H' ∧ ∃ rs : List (Str × Addr × Addr × Addr), H' D = some (.dK (tkv (tabRs rs))) ∧ rs.map (·.1) = ends.take i ∧
        (∀ q ∈ rs, PairAt H' dots q.1 q.2.1 q.2.2.1 q.2.2.2 (canon dots (o q.1)) (canon dots (n q.1)) ∧ HL q.2.1 = none ∧ HL q.2.2.1 = none ∧ HL q.2.2.2 = none) ∧ (D :: rs.flatMap fun t => [t.2.2.1, t.2.2.2]).Nodup)
      ⟨Nat.zero_le _, Evl.Ex.new hD, [], upd_same, rfl, (fun q hq => by cases hq), List.nodup_cons.mpr ⟨by simp, List.nodup_nil⟩⟩ (fun i H' _ h => h.2.1 _ _ locked) ?_ ?_⟩
    · rintro i x H4 H4' hi ⟨_, x4, rs, d4, hk, hpr, hnd⟩ ⟨Tt, xk, xv, rfl, hTt, rfl, hxk, hxv⟩
      rw [tkv_len, rl] at hi
      have gi : ends[i]? = some ends[i] := List.getElem?_eq_getElem hi
      obtain ⟨p, po, pn, hv, pa⟩ := h7 ends[i] (List.getElem_mem hi)
      have ev : xv = .ref p := by
        have z := tkv_at h6 en gi hv
        rw [List.getElem?_map] at z
        exact Option.some.inj (hxv.symm.trans z)
      have ek : xk = .str ends[i] := by
        have z : ((tkv rows).map fun kv => kV kv.1)[i]? = some (.str ends[i]) := by rw [tkv_keysV, h6, List.getElem?_map, gi]; rfl
        rw [List.getElem?_map] at z
        exact Option.some.inj (hxk.symm.trans z)
      subst ev ek
      have n1 : p ≠ T' := ne_of pa.hp h2 (by intro z; cases z)
      have n2 : po ≠ T' := tab_ne h2 ro rne pa.ho pa.o1
      have n3 : pn ≠ T' := tab_ne h2 ro rne pa.hn pa.o2
      have y1 : Evl.Ex H4 (upd H4 Tt (.tup [.str ends[i], .ref p])) := Evl.Ex.new hTt
      have t1 : (upd H4 Tt (.tup [.str ends[i], .ref p])) Tt = some (.tup [.str ends[i], .ref p]) := upd_same
      generalize upd H4 Tt (.tup [.str ends[i], .ref p]) = H5 at y1 t1
      have x5 := x4.trans y1
      have zn : ends[i] ∉ ends.take i := fun hm => by
        have q1 : (ends.take (i + 1)).Nodup := en.sublist (List.take_sublist _ _)
        rw [List.take_add_one, gi] at q1
        exact (List.nodup_append.mp q1).2.2 _ hm _ (List.mem_singleton.mpr rfl) rfl
      refine ⟨Tt, _, rfl, Evl.st_of t1, rfl, _, _, rfl, _, [], rfl, p, _, rfl, Evl.st_of (x5 _ _ (up pa.hp n1)), rfl, _, _, rfl, _, [], rfl, rfl, rfl, rfl, ?_⟩
      refine yes_if ?_
      refine ⟨.str ends[i], rfl, .ref po, rfl, po, _, rfl, .inl (x5 _ _ (up pa.ho n2)), fun po' hpo' => ?_⟩
      have y2 : Evl.Ex H5 (upd H5 po' (.dK (tkv (canon dots (o ends[i]))))) := Evl.Ex.new hpo'
      have q2 : (upd H5 po' (.dK (tkv (canon dots (o ends[i]))))) po' = some (.dK (tkv (canon dots (o ends[i])))) := upd_same
      have f2 : H4 po' = none := by
        cases z : H4 po' with
        | none => rfl
        | some u => rw [y1 _ _ z] at hpo'; cases hpo'
      generalize upd H5 po' (.dK (tkv (canon dots (o ends[i])))) = H6 at y2 q2
      refine ⟨.ref pn, rfl, pn, _, rfl, .inl ((x5.trans y2) _ _ (up pa.hn n3)), fun pn' hpn' => ⟨by show 2 ≤ sizeLine; decide, fun p' hp' => ?_⟩⟩
      have y3 : Evl.Ex H6 (upd (upd H6 pn' (.dK (tkv (canon dots (n ends[i]))))) p' (.tup [.ref po', .ref pn'])) := (Evl.Ex.new hpn').trans (Evl.Ex.new hp')
      have q3 : (upd (upd H6 pn' (.dK (tkv (canon dots (n ends[i]))))) p' (.tup [.ref po', .ref pn'])) pn' = some (.dK (tkv (canon dots (n ends[i])))) := Evl.Ex.new hp' _ _ upd_same
      have q1 : (upd (upd H6 pn' (.dK (tkv (canon dots (n ends[i]))))) p' (.tup [.ref po', .ref pn'])) p' = some (.tup [.ref po', .ref pn']) := upd_same
      have f3 : H4 pn' = none := by
        cases z : H4 pn' with
        | none => rfl
        | some u => rw [(y1.trans y2) _ _ z] at hpn'; cases hpn'
      generalize upd (upd H6 pn' (.dK (tkv (canon dots (n ends[i]))))) p' (.tup [.ref po', .ref pn']) = H7 at y3 q3 q1
      have x7 := x5.trans (y2.trans y3)
      have d7 := (y1.trans (y2.trans y3)) _ _ d4
      have q2' := y3 _ _ q2
      have l4 := x4 _ _ locked
      have back4 : ∀ {a : Addr}, H4 a = none → HL a = none := fun {a} h => by
        cases z : HL a with
        | none => rfl
        | some u => rw [x4 _ _ z] at h; cases h
      have f1 : H4 p' = none := by
        cases z : H4 p' with
        | none => rfl
        | some u =>
          have w6 : Evl.Ex H4 (upd H6 pn' (.dK (tkv (canon dots (n ends[i]))))) := (y1.trans y2).trans (Evl.Ex.new hpn')
          rw [w6 _ _ z] at hp'
          cases hp'
      have rsl : rs.length ≤ 100 := by
        have := congrArg List.length hk
        rw [List.length_map, List.length_take] at this
        omega
      -- what was made stands apart
      have apart : ∀ a ∈ D :: rs.flatMap (fun t => [t.2.2.1, t.2.2.2]), (H4 a).isSome = true := fun a ha => by
        rcases List.mem_cons.mp ha with rfl | ha
        · rw [d4]; rfl
        · obtain ⟨t, ht, ha⟩ := List.mem_flatMap.mp ha
          have pt := (hpr t ht).1
          rcases List.mem_cons.mp ha with rfl | ha
          · rw [pt.ho]; rfl
          · rw [List.mem_singleton.mp ha, pt.hn]; rfl
      have no_po : po' ∉ D :: rs.flatMap fun t => [t.2.2.1, t.2.2.2] := fun m => by
        have := apart _ m
        rw [f2] at this
        cases this
      have no_pn : pn' ∉ D :: rs.flatMap fun t => [t.2.2.1, t.2.2.2] := fun m => by
        have := apart _ m
        rw [f3] at this
        cases this
      have n_on : po' ≠ pn' := ne_of_none q2 hpn'
      have m1 : p' ≠ D := ne_of q1 d7 (by intro z; cases z)
      have m2 : po' ≠ D := (ne_of_none d4 f2).symm
      have m3 : pn' ≠ D := (ne_of_none d4 f3).symm
      have et : tabRs (rs ++ [(ends[i], p', po', pn')]) = tabRs rs ++ [(ends[i], V.ref p')] := by unfold tabRs; rw [List.map_append]; rfl
      have lenR : (tkv (tabRs rs)).length ≤ 100 := by rw [tkv_len]; unfold tabRs; rw [List.length_map]; exact rsl
      refine ⟨_, Sum.inr ends[i], rfl, d7, small1000 (by omega), hi, x7.mut hD, rs ++ [(ends[i], p', po', pn')], ?_, ?_, ?_, ?_⟩
      · rw [upd_same, tkv_new (by rw [tabRs_keys, hk]; exact zn), et]
      · rw [List.map_append, hk, List.take_add_one, gi]
        rfl
      · have keep : ∀ {a : Addr} {u : HO}, H7 a = some u → a ≠ D → (upd H7 D (.dK (putK (tkv (tabRs rs)) (Sum.inr ends[i]) (V.ref p')))) a = some u := fun {a u} h ne => by rw [upd_ne ne]; exact h
        intro q hq
        rcases List.mem_append.mp hq with hq | hq
        · obtain ⟨pa1, z1, z2, z3⟩ := hpr q hq
          have pw := pa1.ex (y1.trans (y2.trans y3))
          have ne2 : q.2.2.1 ≠ D := fun e => (List.nodup_cons.mp hnd).1 (e ▸ List.mem_flatMap.mpr ⟨q, hq, List.mem_cons_self⟩)
          have ne3 : q.2.2.2 ≠ D := fun e => (List.nodup_cons.mp hnd).1 (e ▸ List.mem_flatMap.mpr ⟨q, hq, List.mem_cons_of_mem _ List.mem_cons_self⟩)
          exact ⟨⟨keep pw.hp (ne_of pw.hp d7 (by intro z; cases z)), keep pw.ho ne2, keep pw.hn ne3, pw.o1, pw.o2⟩, z1, z2, z3⟩
        · rw [List.mem_singleton.mp hq]
          exact ⟨⟨keep q1 m1, keep q2' m2, keep q3 m3, pa.o1, pa.o2⟩, back4 f1, back4 f2, back4 f3⟩
      · rw [List.flatMap_append]
        show ((D :: rs.flatMap _) ++ [po', pn']).Nodup
        refine List.nodup_append.mpr ⟨hnd, List.nodup_cons.mpr ⟨by simpa using n_on, List.nodup_cons.mpr ⟨by simp, List.nodup_nil⟩⟩, fun a ha b hb e => ?_⟩
        subst e
        rcases List.mem_cons.mp hb with rfl | hb
        · exact no_po ha
        · rw [List.mem_singleton.mp hb] at ha
          exact no_pn ha
    · rintro H4 ⟨_, x4, rs, d4, hk, hpr, hnd⟩
      rw [tkv_len, rl, List.take_length] at hk
      refine ⟨x4 _ _ locked, ?_⟩
      have nDT : D ≠ T' := (ne_of_none locked hD).symm
      have old : ∀ {a : Addr}, HL a = none → H a = none := fun {a} h => by
        by_cases e : a = T'
        · rw [e, locked] at h; cases h
        · cases z : H a with
          | none => rfl
          | some u => rw [up z e] at h; cases h
      have offT : ∀ {a : Addr}, HL a = none → a ≠ T' := fun {a} h e => by rw [e, locked] at h; cases h
      refine k D rs _ (back x4) (old hD) ⟨by rw [upd_ne nDT]; exact d4, hk, fun t ht => ?_, hnd⟩
      obtain ⟨pa1, z1, z2, z3⟩ := hpr t ht
      exact ⟨⟨by rw [upd_ne (offT z1)]; exact pa1.hp, by rw [upd_ne (offT z2)]; exact pa1.ho, by rw [upd_ne (offT z3)]; exact pa1.hn, pa1.o1, pa1.o2⟩, old z1, old z2, old z3⟩
end
end Rw
end T_Y0

section T_Y1
set_option Elab.async false
set_option linter.all false
set_option maxRecDepth 100000
set_option maxHeartbeats 4000000
namespace Rw
open PySem L2 PyProof.Rows
/-- the places of z in the mixture of a round -/
def spotsOf (o n : List (Str × V)) (zs ys : List Str) (z : Str) : List V := if z ∈ zs then [look n z] else if (decide (z ∈ ys) && !decide (look o z = look n z)) = true then [look o z, look n z] else [look o z]
/-- a new dict of new lists -/
structure MixAt (H0 H : Hp) (D : Addr) (dots : List Str) (f : Str → List V) : Prop where
  ex : ∃ rs : List (Str × V), H D = some (.dK (tkv rs)) ∧ rs.map (·.1) = dots ∧ ∀ q ∈ rs, ∃ a : Addr, q.2 = .ref a ∧ H0 a = none ∧ H a = some (.lst (f q.1))
section
variable {P : Program} {w : World} {K : PySem.W.Frag} {mg : Str → Option Value} {base : Heap}
def spMix (C : Addr) : Sp := fun vs H Q _ => ∃ (m a b : Addr) (e : Str) (zs ys ends dots ss ps : List Str) (o n : Str → List (Str × V)), vs = [.ref m, .ref a, .ref b, .str e] ∧ NetAt C H m ends dots ss ps o n ∧ ModelOk ends dots ss ps ∧ e ∈ ends ∧
  LotAt H a zs (moving ends dots o n) ∧ LotAt H b ys (moving ends dots o n) ∧ (∀ y ∈ ys, y ∉ zs) ∧ ∀ D H', Evl.Ex H H' → H D = none → MixAt H H' D dots (spotsOf (o e) (n e) zs ys) → Q (.ref D) H'
abbrev nMix : List Str := ["net", "done", "lot", "goal", "old", "new", "mixture", "node"]
theorem sc_mix : FnScope nMix ["net", "done", "lot", "goal"] (defScope p_ways) := ⟨rfl, rfl, rfl, by decide +kernel, rfl, by decide +kernel, by decide +kernel⟩
theorem ok_mix {f C : Addr} {fd : FuncData} (F : Fun K "ways" "ways" p_ways f fd) (T : NetTxt K C) (C1 : Cal P w K mg base 5 "check_round" ["net", "done", "lot", "part"] (spRound C)) (C2 : Cal P w K mg base 3 "check_goal" ["net", "goal"] (spCheckGoal C))
    (P1 : Prp P w K mg base C 1 "tables" (spTabs C)) (P2 : Prp P w K mg base C 1 "nodes" (spDots C)) : FnOk P w K mg base CX0 6 f fd ["net", "done", "lot", "goal"] (spMix C) := by
  obtain ⟨f1, fd1, F1, k1, b1, g1⟩ := C1.ex
  obtain ⟨f2, fd2, F2, k2, b2, g2⟩ := C2.ex
  obtain ⟨p3, g3, fd3, at3, F3, b3⟩ := P1.ex
  obtain ⟨p4, g4, fd4, at4, F4, b4⟩ := P2.ex
  refine F.ok sc_mix (fun vs H Q E h => ?_) (fun cdv A outer s H vs Q E hr h => ?_)
  · obtain ⟨m, a, b, e, zs, ys, ends, dots, ss, ps, o, n, rfl, _⟩ := h
    rfl
  · obtain ⟨m, a, b, e, zs, ys, ends, dots, ss, ps, o, n, rfl, N, ok, he, La, Lb, dis, k⟩ := h
    have nd := sc_mix.nd
    have hu := hu_of hr
    have hr3 : Room 3 _ := hr.mono (by decide)
    have hr2 : Room 2 _ := hr.mono (by decide)
    have e2 := ok.e2
    have d6 := ok.d6
    refine ⟨_, PSs.nox (pss_cons (ps_expr (pe_call F1 hr rfl g1 k1 b1 .nil pass0 (pa_cons (pv 0) (pa_cons (pv 1) (pa_cons (pv 2) (pa_cons pe_str pa_nil))))))
      (pss_cons (ps_expr (pe_call F2 hr3 rfl g2 k2 b2 .nil pass0 (pa_cons (pv 0) (pa_cons (pv 3) pa_nil))))
      (pss_cons (ps_asg (pe_dget hu (pe_prop (pv 0) T.cl at3 F3 hr2 b3 .nil pass0 rfl) (pv 3) (fun _ _ => rfl)) (pg_tup rfl (pgs_cons (pg_name (i := 4) nd rfl (.inl rfl)) (pgs_cons (pg_name (i := 5) nd rfl (.inl rfl)) pgs_nil))))
      (pss_cons (ps_set (i := 6) nd rfl (.inl rfl) pe_dnewK)
      (pss_cons (ps_for PassesOwn.never rfl (pi_tup (pe_prop (pv 0) T.cl at4 F4 hr2 b4 .nil pass0 rfl)) (pg_name (i := 7) nd rfl (.inl rfl))
        (pss_one (ps_if (pt_cmpR op_in_seq (pv 7) (pv 1) rfl) (pss_one (ps_dput hu (pv 6) (pv 7) (pe_lst (pa_cons (pe_dget hu (pv 5) (pv 7) (fun _ _ => rfl)) pa_nil)) rfl))
          (pss_one (ps_if (PW.pt (pw_and (pt_cmpR op_in_seq (pv 7) (pv 2) rfl) (pw_and1 (pt_cmpR op_ne (pe_dget hu (pv 4) (pv 7) (fun _ _ => rfl)) (pe_dget hu (pv 5) (pv 7) (fun _ _ => rfl)) (nomark _)))))
            (pss_one (ps_dput hu (pv 6) (pv 7) (pe_lst (pa_cons (pe_dget hu (pv 4) (pv 7) (fun _ _ => rfl)) (pa_cons (pe_dget hu (pv 5) (pv 7) (fun _ _ => rfl)) pa_nil))) rfl))
            (pss_one (ps_dput hu (pv 6) (pv 7) (pe_lst (pa_cons (pe_dget hu (pv 4) (pv 7) (fun _ _ => rfl)) pa_nil)) rfl)))))))
      (pss_one (ps_ret (pv 6)))))))), ?_⟩
    refine ⟨.ref m, rfl, .ref a, rfl, .ref b, rfl, m, a, b, _, zs, ys, ends, dots, ss, ps, o, n, rfl, N, by omega, by omega, ok.en, La, Lb, dis, fun H1 x1 => ?_⟩
    refine ⟨.ref m, rfl, .str e, rfl, m, e, ends, dots, ss, ps, o, n, rfl, N.to x1, by omega, he, fun H2 x2 => ?_⟩
    have x12 := x1.trans x2
    have N2 := N.to x12
    obtain ⟨dx, T', N', S, Po, rows0, h1, _⟩ := N2.ex
    refine ⟨.ref m, rfl, m, dx, _, rfl, h1, m, ends, dots, ss, ps, o, n, rfl, N2, ok.e0, by omega, ok.en, fun TD TT H3 x3 _ tabs => ?_⟩
    have hTD := tabs.hd
    have ra := tabs.rows ok.en
    have x13 := x12.trans x3
    obtain ⟨p, po, pn, hv, pa⟩ := ra e he
    refine ⟨.str e, rfl, TD, .ref p, rfl, dget_of (k := Sum.inr e) hTD hv, p, _, rfl, Evl.st_of pa.hp, rfl, _, _, rfl, _, [], rfl, rfl, ?_⟩
    refine fun D hD => ?_
    have x4 : Evl.Ex H3 (upd H3 D (.dK [])) := Evl.Ex.new hD
    have hD0 : H D = none := ex_none x13 hD
    have d4 : (upd H3 D (.dK [])) D = some (.dK (tkv [])) := upd_same
    generalize upd H3 D (.dK []) = H4 at x4 d4
    have x14 := x13.trans x4
    have pa4 := pa.ex x4
    have N4 := N.to x14
    refine ⟨.ref m, rfl, m, dx, _, rfl, (x3.trans x4) _ _ h1, m, ends, dots, ss, ps, o, n, rfl, N4, fun q hq => ⟨q, rfl, ⟨_, Evl.st_of hq⟩, for_tup (K := K) (a := q) (xs := dots.map V.str)
      (fun i σ H' => ∃ x7 : Option V, σ = [some (.ref m), some (.ref a), some (.ref b), some (.str e), some (.ref po), some (.ref pn), some (.ref D), x7] ∧ i ≤ dots.length ∧ Evl.Ex H H' ∧ H' q = some (.tup (dots.map V.str)) ∧ H' po = some (.dK (tkv (canon dots (o e)))) ∧ H' pn = some (.dK (tkv (canon dots (n e)))) ∧ po ≠ D ∧ pn ≠ D ∧
        ∃ rs : List (Str × V), H' D = some (.dK (tkv rs)) ∧ rs.map (·.1) = dots.take i ∧ ∀ q ∈ rs, ∃ l : Addr, q.2 = .ref l ∧ H l = none ∧ H' l = some (.lst (spotsOf (o e) (n e) zs ys q.1)))
      ⟨_, rfl, Nat.zero_le _, x14, hq, pa4.ho, pa4.hn, ne_of_none pa.ho hD, ne_of_none pa.hn hD, [], d4, rfl, fun q hq => by cases hq⟩ (fun i σ H' _ ⟨_, _, _, _, h, _⟩ => Evl.st_of h) ?_ ?_⟩⟩
    · rintro i y σ H5 hi ⟨x7, rfl, _, x5, q5, o5, n5, npo, npn, rs, d5, hks, hrs⟩
      obtain ⟨z, hz, rfl⟩ := str_at hi
      have hil : i < dots.length := (List.getElem?_eq_some_iff.mp hz).1
      have zd := List.mem_of_getElem? hz
      have et : dots.take (i + 1) = dots.take i ++ [z] := by rw [List.take_add_one, hz]; rfl
      have zn : z ∉ dots.take i := fun hm => by
        have q1 : (dots.take (i + 1)).Nodup := ok.dn.sublist (List.take_sublist _ _)
        rw [et] at q1
        exact (List.nodup_append.mp q1).2.2 z hm z (List.mem_singleton.mpr rfl) rfl
      have c1 := look_ok pa.o1 zd
      have c2 := look_ok pa.o2 zd
      have go : DGet H5 po (.str z) (some (look (o e) z)) := by
        have t := dget_of (k := Sum.inr z) o5 c1.2
        rw [look_canon zd] at t
        exact t
      have gn : DGet H5 pn (.str z) (some (look (n e) z)) := by
        have t := dget_of (k := Sum.inr z) n5 c2.2
        rw [look_canon zd] at t
        exact t
      have sc := scal_place c1.1 c2.1
      rw [look_canon zd, look_canon zd] at sc
      have rsl : rs.length ≤ 100 := by
        have := congrArg List.length hks
        rw [List.length_map, List.length_take] at this
        omega
      have small : (tkv rs).length < sizeLine := by rw [tkv_len]; exact small1000 (by omega)
      have dput : ∀ (us : List V) (l : Addr), H5 l = none → (upd H5 l (.lst us)) D = some (.dK (tkv rs)) := fun us l hl => Evl.Ex.new hl _ _ d5
      have fin : ∀ us : List V, us = spotsOf (o e) (n e) zs ys z → ∀ l, H5 l = none →
          ∃ x7 : Option V, [some (V.ref m), some (.ref a), some (.ref b), some (.str e), some (.ref po), some (.ref pn), some (.ref D), some (.str z)] = [some (.ref m), some (.ref a), some (.ref b), some (.str e), some (.ref po), some (.ref pn), some (.ref D), x7] ∧ i + 1 ≤ dots.length ∧ Evl.Ex H (upd (upd H5 l (.lst us)) D (.dK (putK (tkv rs) (Sum.inr z) (.ref l)))) ∧
            (upd (upd H5 l (.lst us)) D (.dK (putK (tkv rs) (Sum.inr z) (.ref l)))) q = some (.tup (dots.map V.str)) ∧ (upd (upd H5 l (.lst us)) D (.dK (putK (tkv rs) (Sum.inr z) (.ref l)))) po = some (.dK (tkv (canon dots (o e)))) ∧ (upd (upd H5 l (.lst us)) D (.dK (putK (tkv rs) (Sum.inr z) (.ref l)))) pn = some (.dK (tkv (canon dots (n e)))) ∧ po ≠ D ∧ pn ≠ D ∧
            ∃ rs' : List (Str × V), (upd (upd H5 l (.lst us)) D (.dK (putK (tkv rs) (Sum.inr z) (.ref l)))) D = some (.dK (tkv rs')) ∧ rs'.map (·.1) = dots.take (i + 1) ∧ ∀ q ∈ rs', ∃ l' : Addr, q.2 = .ref l' ∧ H l' = none ∧ (upd (upd H5 l (.lst us)) D (.dK (putK (tkv rs) (Sum.inr z) (.ref l)))) l' = some (.lst (spotsOf (o e) (n e) zs ys q.1)) := by
        rintro us rfl l hl
        have y1 : Evl.Ex H5 (upd H5 l (.lst (spotsOf (o e) (n e) zs ys z))) := Evl.Ex.new hl
        have l1 : (upd H5 l (.lst (spotsOf (o e) (n e) zs ys z))) l = some (.lst (spotsOf (o e) (n e) zs ys z)) := upd_same
        have d6' := y1 _ _ d5
        have nlD : l ≠ D := (ne_of_none d5 hl).symm
        refine ⟨_, rfl, hil, (x5.trans y1).mut hD0, by rw [upd_ne (ne_of (y1 _ _ q5) d6' (by intro t; cases t))]; exact y1 _ _ q5, by rw [upd_ne npo]; exact y1 _ _ o5, by rw [upd_ne npn]; exact y1 _ _ n5, npo, npn, rs ++ [(z, .ref l)], ?_, ?_, ?_⟩
        · rw [upd_same, tkv_new (by rw [hks]; exact zn)]
        · rw [List.map_append, hks, et]
          rfl
        · intro r hr'
          rcases List.mem_append.mp hr' with hr' | hr'
          · obtain ⟨l', t1, t2, t3⟩ := hrs r hr'
            exact ⟨l', t1, t2, by rw [upd_ne (ne_of (y1 _ _ t3) d6' (by intro t; cases t))]; exact y1 _ _ t3⟩
          · rw [List.mem_singleton.mp hr']
            exact ⟨l, rfl, ex_none x5 hl, by rw [upd_ne nlD]; exact l1⟩
      refine ⟨.str z, rfl, .ref a, rfl, a, zs.map V.str, rfl, .inr (Evl.st_of (x5 _ _ La.ha)), rfl, flat_strs zs, ?_⟩
      rw [inV_str]
      by_cases mz : z ∈ zs
      · rw [decide_eq_true mz]
        refine ⟨true, rfl, iteT ?_⟩
        refine ⟨.ref pn, rfl, .str z, rfl, pn, _, rfl, gn, by show 1 ≤ sizeLine; decide, fun l hl => ⟨.ref D, rfl, .str z, rfl, D, _, rfl, DPut.k (k := Sum.inr z) (dput _ l hl) small, fin _ ?_ l hl⟩⟩
        unfold spotsOf
        rw [if_pos mz]
      · rw [decide_eq_false mz]
        refine ⟨false, rfl, iteF ?_⟩
        refine ⟨.str z, rfl, .ref b, rfl, b, ys.map V.str, rfl, .inr (Evl.st_of (x5 _ _ Lb.ha)), rfl, flat_strs ys, ?_⟩
        rw [inV_str]
        have two : (decide (z ∈ ys) && !decide (look (o e) z = look (n e) z)) = true → spotsOf (o e) (n e) zs ys z = [look (o e) z, look (n e) z] := fun t => by unfold spotsOf; rw [if_neg mz, if_pos t]
        have one : (decide (z ∈ ys) && !decide (look (o e) z = look (n e) z)) = false → spotsOf (o e) (n e) zs ys z = [look (o e) z] := fun t => by unfold spotsOf; rw [if_neg mz, if_neg (by rw [t]; decide)]
        by_cases my : z ∈ ys
        · rw [decide_eq_true my] at two one ⊢
          refine ⟨true, rfl, iteT ?_⟩
          refine ⟨.ref po, rfl, .str z, rfl, po, _, rfl, go, .ref pn, rfl, .str z, rfl, pn, _, rfl, gn, sc, _, rfl, ?_⟩
          by_cases q : look (o e) z = look (n e) z
          · rw [decide_eq_true q] at one ⊢
            refine iteF ?_
            exact ⟨.ref po, rfl, .str z, rfl, po, _, rfl, go, by show 1 ≤ sizeLine; decide, fun l hl => ⟨.ref D, rfl, .str z, rfl, D, _, rfl, DPut.k (k := Sum.inr z) (dput _ l hl) small, fin _ (one rfl).symm l hl⟩⟩
          · rw [decide_eq_false q] at two ⊢
            refine iteT ?_
            exact ⟨.ref po, rfl, .str z, rfl, po, _, rfl, go, .ref pn, rfl, .str z, rfl, pn, _, rfl, gn, by show 2 ≤ sizeLine; decide, fun l hl => ⟨.ref D, rfl, .str z, rfl, D, _, rfl, DPut.k (k := Sum.inr z) (dput _ l hl) small, fin _ (two rfl).symm l hl⟩⟩
        · rw [decide_eq_false my] at one ⊢
          refine ⟨false, rfl, iteF ?_⟩
          refine iteF ?_
          exact ⟨.ref po, rfl, .str z, rfl, po, _, rfl, go, by show 1 ≤ sizeLine; decide, fun l hl => ⟨.ref D, rfl, .str z, rfl, D, _, rfl, DPut.k (k := Sum.inr z) (dput _ l hl) small, fin _ (one rfl).symm l hl⟩⟩
    · rintro σ H5 ⟨x7, rfl, _, x5, q5, o5, n5, npo, npn, rs, d5, hks, hrs⟩
      rw [List.length_map, List.take_length] at hks
      exact ⟨.ref D, rfl, k D H5 x5 hD0 ⟨rs, d5, hks, hrs⟩⟩
end
end Rw
end T_Y1

section T_FR
set_option Elab.async false
set_option linter.all false
set_option maxRecDepth 100000
set_option maxHeartbeats 4000000
namespace Rw
open PySem L2 PyProof.Rows LamX
/-! ### steps of laws that draw and call lambdas -/
theorem DrawAt.nt {H : Hp} {d g c : Addr} (D : DrawAt H d g c) : DrawAt (nt H) d g c := by
  obtain ⟨r, t, h⟩ := D.ex
  obtain ⟨gs, hg⟩ := D.gl
  obtain ⟨cs, hc⟩ := D.cl
  exact ⟨⟨r, t, nt_dK h⟩, ⟨gs, nt_lst hg⟩, ⟨cs, nt_lst hc⟩, D.ne⟩
theorem DrawAt.ntTo {H H' : Hp} {d g c : Addr} (D : DrawAt H d g c) (x : Evl.Ex (Rw.nt H) (Rw.nt H')) : DrawAt H' d g c := D.nt.ext (x.trans (ex_nt H'))
theorem Tabs.draw {T : List (Addr × Str)} {d g c : Addr} {H H' : Hp} (h : Tabs T H) (D : DrawAt H d g c) (x : Evl.Ex (off d g H) (off d g H')) : Tabs T H' := fun q hq => by
  obtain ⟨ts, h1, h2, h3⟩ := h q hq
  have st : ∀ {b : Addr} {u : HO}, H b = some u → (∀ l, u ≠ .dK l) → (∀ l, u ≠ .lst l) → H' b = some u := fun {b u} e n1 n2 => by
    obtain ⟨r, t, hd⟩ := D.ex
    obtain ⟨gs, hg⟩ := D.gl
    refine ex_off d g H' _ _ (x _ _ (off_of e (fun z => ?_) (fun z => ?_)))
    · rw [z, hd] at e
      exact n1 _ (Option.some.inj e).symm
    · rw [z, hg] at e
      exact n2 _ (Option.some.inj e).symm
  refine ⟨ts, st h1 (fun l z => by cases z) (fun l z => by cases z), h2, fun pos cv hcv => ?_⟩
  obtain ⟨c', e1, e2⟩ := h3 pos cv hcv
  exact ⟨c', e1, st e2 (fun l z => by unfold CodeO at z; cases z) (fun l z => by unfold CodeO at z; cases z)⟩
/-- what stays while draws are made and lambdas are -/
def fr (d g : Addr) (H : Hp) : Hp := off d g (nt H)
theorem fr_draw {d g : Addr} {H H' : Hp} (x : Evl.Ex (off d g H) (off d g H')) : Evl.Ex (fr d g H) (fr d g H') := fun a o h => by
  have z := off_some h
  have y := nt_some z.2.2
  have w := off_some (x a o (off_of y.1 z.1 z.2.1))
  exact off_of (nt_of w.2.2 y.2) z.1 z.2.1
theorem fr_nt {d g : Addr} {H H' : Hp} (x : Evl.Ex (nt H) (nt H')) : Evl.Ex (fr d g H) (fr d g H') := off_ex x
theorem fr_ex {d g : Addr} {H H' : Hp} (x : Evl.Ex H H') : Evl.Ex (fr d g H) (fr d g H') := fr_nt (nt_ex x)
theorem ex_fr (d g : Addr) (H : Hp) : Evl.Ex (fr d g H) H := (ex_off d g (nt H)).trans (ex_nt H)
theorem fr_of {d g : Addr} {H : Hp} {a : Addr} {o : HO} (h : off d g H a = some o) (n : ∀ ps, o ≠ .tbl ps) : fr d g H a = some o := by
  have z := off_some h
  exact off_of (nt_of z.2.2 n) z.1 z.2.1
theorem nt_mut2 {H H3 : Hp} {D : Addr} {xs : List V} (x : Evl.Ex (nt H) (nt H3)) (hD : nt H D = none) : Evl.Ex (nt H) (nt (upd H3 D (.lst xs))) := fun p' o' h' => by
  have h1 := x _ _ h'
  have np : p' ≠ D := fun z => by rw [z, hD] at h'; cases h'
  exact nt_of (by rw [upd_ne np]; exact (nt_some h1).1) (nt_some h1).2
theorem rest_fr {d g c : Addr} {H H' : Hp} (D : DrawAt H d g c) : Evl.Ex (nt (rest H H')) (Rw.fr d g H') := fun a u ha => by
  have y := nt_some ha
  have z : H a = none ∧ H' a = some u := by
    have e := y.1
    unfold rest at e
    cases q : H a with
    | none => rw [q] at e; exact ⟨rfl, e⟩
    | some w => rw [q] at e; cases e
  have ne := D.ned z.1
  exact fr_of (off_of z.2 ne.1 ne.2.1) y.2
end Rw
end T_FR

section T_PR
set_option Elab.async false
set_option linter.all false
set_option maxRecDepth 100000
set_option maxHeartbeats 4000000
namespace Rw
open PySem L2 PyProof.Rows
/-- the sights i and j, i alone where they are one -/
def pairS {α : Type} (S : List α) (i j : Nat) : List α := S[i]?.toList ++ if i < j then S[j]?.toList else []
theorem pairS_map {α β : Type} (f : α → β) (S : List α) (i j : Nat) : (pairS S i j).map f = pairS (S.map f) i j := by
  unfold pairS
  rw [List.map_append, List.getElem?_map, List.getElem?_map]
  congr 1
  · cases S[i]? <;> rfl
  · by_cases c : i < j
    · rw [if_pos c, if_pos c]; cases S[j]? <;> rfl
    · rw [if_neg c, if_neg c]; rfl
theorem pairS_mem {α : Type} {S : List α} {i j : Nat} {x : α} (h : x ∈ pairS S i j) : x ∈ S := by
  unfold pairS at h
  have go : ∀ k : Nat, x ∈ S[k]?.toList → x ∈ S := fun k h => by
    cases e : S[k]? with
    | none => rw [e] at h; cases h
    | some y => rw [e] at h; rw [List.mem_singleton.mp h]; exact List.mem_of_getElem? e
  rcases List.mem_append.mp h with h | h
  · exact go i h
  · by_cases c : i < j
    · rw [if_pos c] at h; exact go j h
    · rw [if_neg c] at h; cases h
end Rw
end T_PR

section T_ED
set_option Elab.async false
set_option linter.all false
set_option maxRecDepth 100000
set_option maxHeartbeats 4000000
namespace Rw
open PySem L2 PyProof.Rows
/-! ### pairs of sights -/
section
variable {P : List (List Str)} {o n : Str → List (Str × V)}
theorem pairS_one {α : Type} {S : List α} {i : Nat} (h : i < S.length) : pairS S i i = [S[i]] := by
  unfold pairS
  rw [if_neg (Nat.lt_irrefl i), List.getElem?_eq_getElem h]
  rfl
theorem pairS_two {α : Type} {S : List α} {i j : Nat} (h : i < j) (hj : j < S.length) : pairS S i j = [S[i]'(by omega), S[j]] := by
  unfold pairS
  rw [if_pos h, List.getElem?_eq_getElem hj, List.getElem?_eq_getElem (show i < S.length by omega)]
  rfl
theorem pairS_whole {α : Type} {S : List α} (h : S.length = 1 ∨ S.length = 2) : pairS S 0 (S.length - 1) = S := by
  match S, h with
  | [a], _ => rfl
  | [a, b], _ => rfl
  | [], h => simp at h
  | _ :: _ :: _ :: _, h => simp at h
theorem pairOf_is {seen : List (List Sta)} {i j : Nat} (h : i ≤ j) (hj : j < seen.length) : pairOf seen i j = pairS seen i j := by
  unfold pairOf
  by_cases c : i = j
  · subst c
    rw [if_pos rfl, pairS_one hj, List.getElem?_eq_getElem hj]
    rfl
  · rw [if_neg c, pairS_two (by omega) hj, List.getElem?_eq_getElem hj, List.getElem?_eq_getElem (show i < seen.length by omega)]
    rfl
theorem fit_pair (nd : P.flatten.Nodup) {W : List Sig} {i j : Nat} (h : i ≤ j) (hj : j < W.length) : fitB (seenStas P o n W) i j = true ↔ Fit P o n (pairS W i j) := by
  unfold fitB
  rw [pairOf_is h (by unfold seenStas; rw [List.length_map]; exact hj)]
  have e : pairS (seenStas P o n W) i j = seenStas P o n (pairS W i j) := by
    unfold seenStas
    rw [← pairS_map]
  rw [e]
  exact full_fit nd _
theorem fit_all {W : List Sig} : Fit P o n W ↔ ∀ i j : Nat, i ≤ j → j < W.length → Fit P o n (pairS W i j) := by
  constructor
  · rintro ⟨h1, h2⟩ i j hij hj
    refine ⟨fun s hs => h1 s (pairS_mem hs), ?_⟩
    by_cases c : i = j
    · subst c
      rw [pairS_one hj]
      exact List.pairwise_singleton _ _
    · rw [pairS_two (by omega) hj]
      refine List.pairwise_cons.mpr ⟨fun t ht => ?_, List.pairwise_singleton _ _⟩
      rw [List.mem_singleton.mp ht]
      exact List.pairwise_iff_getElem.mp h2 i j (by omega) hj (by omega)
  · intro h
    refine ⟨fun s hs => ?_, List.pairwise_iff_getElem.mpr fun i j hi hj ij => ?_⟩
    · obtain ⟨i, hi, rfl⟩ := List.getElem_of_mem hs
      have := h i i (Nat.le_refl _) hi
      rw [pairS_one hi] at this
      exact this.1 _ List.mem_cons_self
    · have := h i j (by omega) hj
      rw [pairS_two ij hj] at this
      exact (List.pairwise_cons.mp this.2).1 _ List.mem_cons_self
/-- the least pair that doesn't fit, alone: its own clash is the whole of it -/
theorem least_alone {W : List Sig} {i j : Nat} (hij : i ≤ j) (hj : j < W.length) (bad : ¬Fit P o n (pairS W i j)) (low : ∀ i' j' : Nat, i' ≤ j' → j' < W.length → (i' < i ∨ i' = i ∧ j' < j) → Fit P o n (pairS W i' j'))
    {a b : Nat} (hab : a ≤ b) (hb : b < (pairS W i j).length) (bad2 : ¬Fit P o n (pairS (pairS W i j) a b)) (low2 : ∀ a' b' : Nat, a' ≤ b' → b' < (pairS W i j).length → (a' < a ∨ a' = a ∧ b' < b) → Fit P o n (pairS (pairS W i j) a' b')) :
    a = 0 ∧ b + 1 = (pairS W i j).length := by
  by_cases c : i = j
  · subst c
    rw [pairS_one hj] at hb ⊢
    simp only [List.length_cons, List.length_nil] at hb ⊢
    omega
  · have e := pairS_two (S := W) (i := i) (j := j) (by omega) hj
    have l2 : (pairS W i j).length = 2 := by rw [e]; rfl
    rw [l2] at hb low2 ⊢
    have f0 : Fit P o n (pairS (pairS W i j) 0 0) := by
      have h1 := low i i (Nat.le_refl _) (by omega) (.inr ⟨rfl, by omega⟩)
      rw [pairS_one (show i < W.length by omega)] at h1
      rw [pairS_one (by rw [l2]; decide)]
      have : (pairS W i j)[0]'(by rw [l2]; decide) = W[i]'(by omega) := by simp only [e]; rfl
      rw [this]
      exact h1
    have w01 : pairS (pairS W i j) 0 1 = pairS W i j := by rw [e]; rfl
    by_cases a0 : a = 0
    · subst a0
      refine ⟨rfl, ?_⟩
      by_cases b0 : b = 0
      · subst b0; exact absurd f0 bad2
      · omega
    · have a1 : a = 1 := by omega
      have h := low2 0 1 (by decide) (by decide) (.inl (by omega))
      rw [w01] at h
      exact absurd h bad
end
end Rw
end T_ED

section T_FL
set_option Elab.async false
set_option linter.all false
set_option maxRecDepth 100000
set_option maxHeartbeats 8000000
namespace Rw
open PySem L2 PyProof.Rows LamX
theorem eqV_self {v : V} (h : Spot v) : eqV v v = true := by
  rcases h with rfl | ⟨y, rfl, _⟩
  · rfl
  · exact beq_self_eq_true y
theorem scal_self_spot {v : V} (h : Spot v) : scal v v = true := by rcases h with rfl | ⟨y, rfl, _⟩ <;> rfl
theorem inV_of {v : V} (hv : Spot v) {l : List V} (h : v ∈ l) : inV v l = true := List.any_eq_true.mpr ⟨v, h, eqV_self hv⟩
theorem inV_int {k : Int} {ks : List Int} (h : k ∈ ks) : inV (.int k) (ks.map V.int) = true := List.any_eq_true.mpr ⟨.int k, List.mem_map_of_mem h, beq_self_eq_true k⟩
theorem flat_spot {v : V} (h : Spot v) : flatV v = true := by rcases h with rfl | ⟨y, rfl, _⟩ <;> rfl
theorem flat_nums (ks : List Int) : (ks.map V.int).all flatV = true := by rw [List.all_map]; exact List.all_eq_true.mpr fun _ _ => rfl
/-- a story stays one of the kept states -/
theorem story_kept {seen : List (List Sta)} {ss : List Sta} (h : StoryL folB seen ss) : StoryL folB (inStories seen) ss := by
  obtain ⟨A, e, hA⟩ := stepG_story seen ss [] h (.inl rfl)
  rw [List.nil_append] at e
  obtain ⟨B, e2, hB⟩ := stepG_story A.reverse ss.reverse [] (storyL_rev hA) (.inl rfl)
  rw [List.nil_append] at e2
  have e3 : inStories seen = B.reverse := by rw [inStories_is, ahead_is, e, e2]
  rw [e3]
  have := storyL_rev hB
  rw [List.reverse_reverse] at this
  exact this
theorem subL_at : ∀ {A L : List (List Sta)} {i : Nat} {a : List Sta}, SubL A L → A[i]? = some a → ∃ l, L[i]? = some l ∧ ∀ s ∈ a, s ∈ l
  | [], [], i, _, _, h => by cases i <;> cases h
  | [], _ :: _, _, _, g, _ => g.elim
  | _ :: _, [], _, _, g, _ => g.elim
  | x :: A, y :: L, 0, a, g, h => by
    injection h with h
    exact ⟨y, rfl, by rw [← h]; exact g.1⟩
  | x :: A, y :: L, i + 1, a, g, h => subL_at (A := A) (L := L) g.2 h
theorem story_of : ∀ {L : List (List Sta)} {ss : List Sta}, Story L ss → StoryL folB L ss
  | [], [], _ => trivial
  | [], _ :: _, h => by have := h.ln; cases this
  | _ :: _, [], h => by have := h.ln; cases this
  | x :: L, t :: ss, h => by
    refine ⟨h.mem 0 x t rfl rfl, fun u hu => h.fol 0 t u rfl ?_, story_of ⟨?_, fun i l s h1 h2 => h.mem (i + 1) l s h1 h2, fun i s u h1 h2 => h.fol (i + 1) s u h1 h2⟩⟩
    · rw [List.head?_eq_getElem?] at hu
      exact hu
    · have := h.ln
      rw [List.length_cons, List.length_cons] at this
      omega
theorem rev_fit_of {P : List (List Str)} {o n : Str → List (Str × V)} {W : List Sig} {ss : List Sta} (nd : P.flatten.Nodup) (h : StoryL folB (seenStas P o n W) ss) : fullB (inStories (seenStas P o n W)) = true := (full_iff _).mpr ⟨ss, h⟩
/-- the way by a moment is one of the mixture -/
theorem way_in {P : List (List Str)} {o n : List (Str × V)} {t : Sta} {zs : List Str} {z : Str} (hz : zs.Perm (doneOf P t.1)) (sub : ∀ y ∈ t.2, y ∈ lotOf P t.1) : look (if newB P t z = true then n else o) z ∈ spotsOf o n zs (lotOf P t.1) z := by
  unfold spotsOf
  by_cases c : z ∈ zs
  · have c' : newB P t z = true := by unfold newB; exact decide_eq_true (.inl (hz.subset c))
    rw [if_pos c, if_pos c']
    exact List.mem_singleton.mpr rfl
  · rw [if_neg c]
    have nd : z ∉ doneOf P t.1 := fun h => c (hz.symm.subset h)
    by_cases d : newB P t z = true
    · rw [if_pos d]
      have hz2 : z ∈ t.2 := by
        unfold newB at d
        exact (of_decide_eq_true d).resolve_left nd
      have hl := sub z hz2
      by_cases e : look o z = look n z
      · rw [if_neg (by rw [decide_eq_true e, Bool.not_true, Bool.and_false]; decide), e]
        exact List.mem_singleton.mpr rfl
      · rw [if_pos (by rw [decide_eq_true hl, decide_eq_false e]; rfl)]
        exact List.mem_cons_of_mem _ List.mem_cons_self
    · rw [if_neg d]
      split
      · exact List.mem_cons_self
      · exact List.mem_singleton.mpr rfl
/-! ### what stays while lambdas are made, behind draws -/
theorem overF {d g : Addr} {H H' : Hp} (x : Evl.Ex (fr d g H) (fr d g H')) {a : Addr} {o : HO} (h : off d g H a = some o) (n : ∀ ps, o ≠ .tbl ps) : off d g H' a = some o := off_ex (ex_nt H') _ _ (x _ _ (fr_of h n))
theorem RowsAt.overF {d g : Addr} {H H' : Hp} {ends dots : List Str} {rows : List (Str × V)} {o n : Str → List (Str × V)} (h : RowsAt (off d g H) ends dots rows o n) (x : Evl.Ex (fr d g H) (fr d g H')) : RowsAt (off d g H') ends dots rows o n := fun e he => by
  obtain ⟨p, po, pn, h1, z⟩ := h e he
  exact ⟨p, po, pn, h1, ⟨Rw.overF x z.hp (fun _ w => by cases w), Rw.overF x z.ho (fun _ w => by cases w), Rw.overF x z.hn (fun _ w => by cases w), z.o1, z.o2⟩⟩
theorem int_at {ks : List Int} {i : Nat} {v : V} (h : (ks.map V.int)[i]? = some v) : ∃ k, ks[i]? = some k ∧ v = .int k := by
  rw [List.getElem?_map] at h
  cases e : ks[i]? with
  | none => rw [e] at h; cases h
  | some k => rw [e] at h; exact ⟨k, rfl, (Option.some.inj h).symm⟩
/-- a sight is data -/
theorem sight_data {K : PySem.W.Frag} {H : Hp} {a : Addr} {s : Sig} {ends dots : List Str} (h : SigT H a s) (k : SigOk ends dots s) (ne : ∀ z ∈ ends, Nm z) (nd : ∀ z ∈ dots, Nm z) : DataV K H (.ref a) := by
  obtain ⟨e, z, v⟩ := s
  have h1 := nm_ok (ne e k.e)
  have h2 := nm_ok (nd z k.z)
  rcases place_spot k.p nd (ne e k.e) with hv | ⟨y, hv, ny⟩
  · refine ⟨.tuple [.str e, .str z, .none], .tup (Evl.st_of h) (.cons (.str e) (.cons (.str z) (.cons ?_ .nil))), ?_, ?_⟩
    · rw [show v = .non from hv]; exact .non
    · show (PyData.strOk e && (PyData.strOk z && (true && true))) = true
      rw [h1, h2]
      rfl
    · exact Nat.le_of_ble_eq_true (by rfl)
  · refine ⟨.tuple [.str e, .str z, .str y], .tup (Evl.st_of h) (.cons (.str e) (.cons (.str z) (.cons ?_ .nil))), ?_, ?_⟩
    · rw [show v = .str y from hv]; exact .str y
    · show (PyData.strOk e && (PyData.strOk z && (PyData.strOk y && true))) = true
      rw [h1, h2, nm_ok ny]
      rfl
    · exact Nat.le_of_ble_eq_true (by rfl)
/-- the sights in turned order -/
theorem clash_none {P : List (List Str)} {o n : Str → List (Str × V)} (nd : P.flatten.Nodup) {W : List Sig} : (∀ i j, i ≤ j → j < W.length → fitB (seenStas P o n W) i j = true) ↔ Fit P o n W := by
  rw [fit_all]
  exact ⟨fun h i j h1 h2 => (fit_pair nd h1 h2).mp (h i j h1 h2), fun h i j h1 h2 => (fit_pair nd h1 h2).mpr (h i j h1 h2)⟩
section
variable {P : Program} {w : World} {K : PySem.W.Frag} {mg : Str → Option Value} {base : Heap}
def spLaw (K : PySem.W.Frag) (T : List (Addr × Str)) : Sp := fun vs H Q _ => ∃ (a : Addr) (ns : List Int), vs = [.ref a] ∧ SqL K H a (ns.map V.int) ∧ ns.length ≤ 63 ∧ Tabs T H ∧ ∀ H', Q (.bl true) H'
abbrev nLaw : List Str := ["script", "draw", "turn", "model", "made", "plan", "some", "tale", "told", "at", "end", "dot", "spot", "stage", "ready", "turned", "other"]
theorem sc_law : FnScope nLaw ["script"] (defScope s_law) := ⟨rfl, rfl, rfl, by decide +kernel, rfl, by decide +kernel, by decide +kernel⟩
theorem ok_law {f C : Addr} {fd : FuncData} {T : List (Addr × Str)} (F : Fun K "law" "law" s_law f fd)
    (CB : Cal P w K mg base 1 "_law_begin" ["script"] (spBegin K)) (CMd : Cal P w K mg base 6 "_law_model" ["draw", "ends", "most"] spModel) (CN : Cal P w K mg base 6 "_law_net" ["model"] (spNet C)) (CP : Cal P w K mg base 4 "_law_plan" ["draw", "model"] spPlan)
    (CS : Cal P w K mg base 4 "_law_moved" ["draw", "model", "plan"] (spMoved K)) (CD : Cal P w K mg base 1 "_law_done_in" ["trail", "stage"] (spDoneIn K))
    (CG : Cal P w K mg base 7 "stages" ["net", "plan", "sights"] (spStagesT K T C)) (CI : Cal P w K mg base 7 "is_story" ["net", "plan", "sights", "thing"] (spIsStory K C)) (CC : Cal P w K mg base 7 "clash" ["net", "plan", "sights"] (spClash K T C)) (CW : Cal P w K mg base 6 "ways" ["net", "done", "lot", "goal"] (spMix C))
    (CK : Cal P w K mg base 7 "known" ["net", "plan", "sights"] (spKnown K T C)) (CT : Cal P w K mg base 7 "story" ["net", "plan", "sights"] (spStory K T C))
    (mRange : mg "range" = none) (mMin : mg "min" = none) (mLen : mg "len" = none) (mEnum : mg "enumerate" = none) (mTup : mg "tuple" = none) (mSorted : mg "sorted" = none) (mList : mg "list" = none) : FnOk P w K mg base CX0 8 f fd ["script"] (spLaw K T) := by
  obtain ⟨fB, fdB, BG, kB, bB, gB⟩ := CB.ex
  obtain ⟨fM, fdM, MD, kM, bM, gM⟩ := CMd.ex
  obtain ⟨fN, fdN, NT, kN, bN, gN⟩ := CN.ex
  obtain ⟨fP, fdP, PN, kP, bP, gP⟩ := CP.ex
  obtain ⟨fS, fdS, SI, kS, bS, gS⟩ := CS.ex
  obtain ⟨fD, fdD, DI, kD, bD, gD⟩ := CD.ex
  obtain ⟨fG, fdG, SG, kG, bG, gG⟩ := CG.ex
  obtain ⟨fI, fdI, IS, kI, bI, gI⟩ := CI.ex
  obtain ⟨fC, fdC, CL_, kC, bC, gC⟩ := CC.ex
  obtain ⟨fW, fdW, WY, kW, bW, gW⟩ := CW.ex
  obtain ⟨fK, fdK, KN, kK, bK, gK⟩ := CK.ex
  obtain ⟨fT, fdT, ST, kT, bT, gT⟩ := CT.ex
  refine F.ok sc_law (fun vs H Q E h => ?_) (fun cdv A outer s H vs Q E hr h => ?_)
  · obtain ⟨a, ns, rfl, _⟩ := h
    rfl
  · obtain ⟨a, ns, rfl, hS, hl, hT, k⟩ := h
    have nd := sc_law.nd
    have hu := hu_of hr
    have hr1 : Room 1 _ := hr.mono (by decide)
    have hr4 : Room 4 _ := hr.mono (by decide)
    have hr6 : Room 6 _ := hr.mono (by decide)
    refine ⟨_, PSs.nox (pss_cons (ps_set (i := 1) nd rfl (.inl rfl) (pe_call BG hr1 rfl gB kB bB .nil pass0 (pa_cons (pv 0) pa_nil)))
      (pss_cons (ps_for PassesOwn.never rfl (pi_range1 (by rfl) mRange (pa_cons (pe_op op_add pe_int (pe_callB (call_min2 rfl) (by rfl) mMin (by decide +kernel) (pa_cons (pe_callB call_len (by rfl) mLen PySem.boot_len (pa_cons (pv 0) pa_nil)) (pa_cons pe_int pa_nil)))) pa_nil)) (pg_name (i := 2) nd rfl (.inl rfl))
        (pss_cons (ps_set (i := 3) nd rfl (.inl rfl) (pe_call MD hr6 rfl gM kM bM .nil pass0 (pa_cons (pv 1) (pa_cons pe_int (pa_cons pe_int pa_nil)))))
        (pss_cons (ps_par (i := 4) (j := 5) (by rfl) nd rfl rfl (by decide) rfl rfl (pa_cons (pe_call NT hr6 rfl gN kN bN .nil pass0 (pa_cons (pv 3) pa_nil)) (pa_cons (pe_call PN hr4 rfl gP kP bP .nil pass0 (pa_cons (pv 1) (pa_cons (pv 3) pa_nil))) pa_nil)) (by rfl))
        (pss_cons (ps_asg (pe_call SI hr4 rfl gS kS bS .nil pass0 (pa_cons (pv 1) (pa_cons (pv 3) (pa_cons (pv 5) pa_nil)))) (pg_tup rfl (pgs_cons (pg_name (i := 6) nd rfl (.inl rfl)) (pgs_cons (pg_name (i := 7) nd rfl (.inl rfl)) pgs_nil))))
        (pss_cons (ps_set (i := 8) nd rfl (.inl rfl) (pe_call SG hr rfl gG kG bG .nil pass0 (pa_cons (pv 4) (pa_cons (pv 5) (pa_cons (pv 6) pa_nil)))))
        (pss_cons (ps_if (PW.pt (pw_or (pt_cmpR op_notBl (pe_call IS hr rfl gI kI bI .nil pass0 (pa_cons (pv 4) (pa_cons (pv 5) (pa_cons (pv 6) (pa_cons (pv 7) pa_nil))))) pe_bl (nomark _)) (pw_or (pt_cmpR op_notN (pe_call CL_ hr rfl gC kC bC .nil pass0 (pa_cons (pv 4) (pa_cons (pv 5) (pa_cons (pv 6) pa_nil)))) pe_non (nomark _)) (pw_or1 (pt_cmpR op_isN (pv 8) pe_non (nomark _)))))) (pss_one (ps_ret pe_bl)) pss_nil)
        (pss_cons (ps_for PassesOwn.never rfl (pi_enum (by rfl) mEnum (pa_cons (pv 6) pa_nil)) (pg_tup rfl (pgs_cons (pg_name (i := 9) nd rfl (.inl rfl)) (pgs_cons (pg_tup rfl (pgs_cons (pg_name (i := 10) nd rfl (.inl rfl)) (pgs_cons (pg_name (i := 11) nd rfl (.inl rfl)) (pgs_cons (pg_name (i := 12) nd rfl (.inl rfl)) pgs_nil)))) pgs_nil)))
          (pss_cons (ps_if (pt_cmpR op_notIn_seq (pe_ix ix_tup (pe_ix ix_list (pv 7) (pv 9) (fun _ _ => rfl)) pe_int (fun _ _ => rfl)) (pe_ix ix_list (pv 8) (pv 9) (fun _ _ => rfl)) rfl) (pss_one (ps_ret pe_bl)) pss_nil)
          (pss_one (ps_for PassesOwn.never rfl (pi_tup (pe_ix ix_list (pv 8) (pv 9) (fun _ _ => rfl))) (pg_name (i := 13) nd rfl (.inl rfl))
            (pss_cons (ps_set (i := 14) nd rfl (.inl rfl) (pe_callTy call_tuple_of (by rfl) mTup (by decide +kernel) (pa_cons (pe_callB cr_sortedS (by rfl) mSorted (by decide +kernel) (pa_cons (pe_call DI hr1 rfl gD kD bD .nil pass0 (pa_cons (pv 5) (pa_cons (pv 13) pa_nil))) pa_nil)) pa_nil)))
            (pss_one (ps_if (pt_cmpR op_notIn_seq (pv 12) (pe_dget hu (pe_call WY hr6 rfl gW kW bW .nil pass0 (pa_cons (pv 4) (pa_cons (pv 14) (pa_cons (pe_ix ix_list (pe_op op_cat (pe_callTy call_list_of (by rfl) mList (by decide +kernel) (pa_cons (pv 5) pa_nil)) (pe_lst (pa_cons (pe_tup pa_nil) pa_nil))) (pv 13) (fun _ _ => rfl)) (pa_cons (pv 10) pa_nil))))) (pv 11) (fun _ _ => rfl)) rfl) (pss_one (ps_ret pe_bl)) pss_nil)))))))
        (C8.pss_cut (ps_if (pt_cmpR (op_neD hr.units) (pv 6) (pe_lst pa_nil) (nomark _))
          (pss_cons (ps_asg (pe_ix ix_list (pv 6) (pe_un un_neg pe_int) (fun _ _ => rfl)) (pg_tup rfl (pgs_cons (pg_name (i := 10) nd rfl (.inl rfl)) (pgs_cons (pg_name (i := 11) nd rfl (.inl rfl)) (pgs_cons (pg_name (i := 12) nd rfl (.inl rfl)) pgs_nil)))))
          (pss_one (ps_if (PW.pt (pw_and (pt_cmpR op_in_seq (pv 11) (pe_ix ix_tup (pe_call KN hr rfl gK kK bK .nil pass0 (pa_cons (pv 4) (pa_cons (pv 5) (pa_cons (pv 6) pa_nil)))) pe_int (fun _ _ => rfl)) rfl) (pw_and1 (pt_cmpR op_ne (pv 12) (pe_dget hu (pe_ix ix_tup (pe_dget hu (pe_dget hu (pv 3) pe_str (fun _ _ => rfl)) (pv 10) (fun _ _ => rfl)) pe_int (fun _ _ => rfl)) (pv 11) (fun _ _ => rfl)) (nomark _))))) (pss_one (ps_ret pe_bl)) pss_nil))) pss_nil)
        (pss_cons (ps_set (i := 15) nd rfl (.inl rfl) (pe_revL (pv 6)))
        (pss_cons (ps_if (pt_cmpR op_ne (pe_cmpR op_isN (pe_call CL_ hr rfl gC kC bC .nil pass0 (pa_cons (pv 4) (pa_cons (pv 5) (pa_cons (pv 15) pa_nil)))) pe_non (nomark _)) (pe_cmpR op_notN (pe_call SG hr rfl gG kG bG .nil pass0 (pa_cons (pv 4) (pa_cons (pv 5) (pa_cons (pv 15) pa_nil)))) pe_non (nomark _)) (nomark _)) (pss_one (ps_ret pe_bl)) pss_nil)
        (pss_cons (ps_set (i := 16) nd rfl (.inl rfl) (pe_call ST hr rfl gT kT bT .nil pass0 (pa_cons (pv 4) (pa_cons (pv 5) (pa_cons (pv 15) pa_nil)))))
        (pss_one (ps_if (PW.pt (pw_and (pt_cmpR op_notN (pv 16) pe_non (nomark _)) (pw_and1 (pt_not (pt_val (pe_call IS hr rfl gI kI bI .nil pass0 (pa_cons (pv 4) (pa_cons (pv 5) (pa_cons (pv 15) (pa_cons (pv 16) pa_nil)))))))))) (pss_one (ps_ret pe_bl)) pss_nil)))))))))))))
      (pss_one (ps_ret pe_bl)))), ?_⟩
    -- draw = _law_begin(script)
    refine ⟨.ref a, rfl, a, ns, rfl, hS, hl, fun d g c H1 D1 x1 => ?_⟩
    have T1 : Tabs T H1 := hT.ext (x1.trans (ex_off d g H1))
    refine ⟨.ref a, rfl, .ref a, _, rfl, .inl ⟨_, Evl.ex_l (x1.trans (ex_off d g H1)) hS, rfl⟩, _, _, rfl, _, _, rfl, rfl, ?_⟩
    obtain ⟨many, hmany⟩ : ∃ many : Int, many = (3 : Int) + (if (10 : Int) < ((ns.map V.int).length : Int) then 10 else ((ns.map V.int).length : Int)) := ⟨_, rfl⟩
    have bound : (0 : Int) ≤ many ∧ many ≤ 100 := by
      rw [hmany, List.length_map]
      split <;> omega
    refine ⟨many, by rw [hmany], by omega, by omega, for_range (lo := 0) (n := many.toNat)
      (fun i σ H' => ∃ x2 x3 x4 x5 x6 x7 x8 x9 x10 x11 x12 x13 x14 x15 x16 : Option V, σ = [some (.ref a), some (.ref d), x2, x3, x4, x5, x6, x7, x8, x9, x10, x11, x12, x13, x14, x15, x16] ∧ DrawAt H' d g c ∧ Tabs T H')
      ⟨none, none, none, none, none, none, none, none, none, none, none, none, none, none, none, rfl, D1, T1⟩ ?_ ?_⟩
    · rintro i σ H2 hi ⟨x2, x3, x4, x5, x6, x7, x8, x9, x10, x11, x12, x13, x14, x15, x16, rfl, D2, T2⟩
      -- model
      refine ⟨.ref d, rfl, d, g, c, 2, 4, rfl, D2, by decide, by decide, by decide, by decide, fun m tb db sb pb ends dots ss ps rows H3 D3 y3 MA => ?_⟩
      obtain ⟨o, n, ro⟩ := RowsAt.of MA.ro MA.rk
      have T3 := Rw.Tabs.draw T2 D2 y3
      have ok := MA.ok
      -- made, plan
      refine ⟨.ref m, rfl, m, tb, db, sb, pb, ends, dots, ss, ps, rows, o, n, rfl, MA.ex (ex_off d g H3), ro.ex (ex_off d g H3), fun nx H4 y4 hnx N4 => ?_⟩
      have D4 := D3.ext y4
      have T4 := T3.ext y4
      have NF4 : NetAt C (fr d g H4) nx ends dots ss ps o n := N4.nt.to (rest_fr D3)
      have MA4 := MA.ex (off_ex (d := d) (g := g) y4)
      have ro4 := ro.ex (off_ex (d := d) (g := g) y4)
      refine ⟨.ref d, rfl, .ref m, rfl, d, g, c, m, tb, db, sb, pb, ends, dots, ss, ps, rows, o, n, rfl, D4, MA4, ro4, fun pl L H5 D5 y5 hpl tL pk => ⟨_, _, rfl, ?_⟩⟩
      have T5 := Rw.Tabs.draw T4 D4 y5
      have MA5 := MA4.ex y5
      have ro5 := ro4.ex y5
      -- some, tale
      refine ⟨.ref d, rfl, .ref m, rfl, .ref pl, rfl, d, g, c, m, tb, db, sb, pb, pl, L, ends, dots, ss, ps, rows, o, n, rfl, D5, MA5, ro5, hpl, tL, pk, fun p fo ta S Tl H6 D6 y6 hp hfo tS okS s12 hta tT sT => ⟨p, _, rfl, Evl.st_of (off_some hp).2.2, rfl, _, _, rfl, _, [], rfl, rfl, ?_⟩⟩
      have T6 := Rw.Tabs.draw T5 D5 y6
      have MA6 := MA5.ex y6
      have ro6 := ro5.ex y6
      have NF6 : NetAt C (fr d g H6) nx ends dots ss ps o n := NF4.to (fr_draw (y5.trans y6))
      have N6 : NetAt C H6 nx ends dots ss ps o n := NF6.to (ex_fr d g H6)
      have hpl6 := (off_some (y6 _ _ hpl)).2.2
      have tL6 := (tL.to y6).to (ex_off d g H6)
      have hfo6 := (off_some hfo).2.2
      have tS6 := tS.to (ex_off d g H6)
      have hta6 := (off_some hta).2.2
      have tT6 : StasT H6 Tl := fun r hr => ⟨(off_some (tT r hr).1).2.2, (off_some (tT r hr).2).2.2⟩
      obtain ⟨Pl, hPl⟩ : ∃ Pl, Pl = L.map (·.2) := ⟨_, rfl⟩
      obtain ⟨W, hW⟩ : ∃ W, W = S.map (·.2) := ⟨_, rfl⟩
      have nfl : Pl.flatten.Nodup := by rw [hPl]; exact pk.fl
      have l6 : Pl.flatten.length ≤ 6 := by rw [hPl]; exact pk.l6
      have l6' : (L.map (·.2)).flatten.length ≤ 6 := pk.l6
      have pL : L.length ≤ 6 := by have := pk.p6; rw [List.length_map] at this; exact this
      have lW : W.length = S.length := by rw [hW, List.length_map]
      have sT' : StoryL folB (seenStas Pl o n W) (Tl.map StaR.st) := by rw [hPl, hW]; exact sT
      have full := rev_fit_of nfl sT'
      have fit : Fit Pl o n W := (full_fit nfl W).mp full
      have lT : Tl.length = S.length := by
        have := storyL_len sT'
        unfold seenStas at this
        rw [List.length_map, List.length_map, lW] at this
        exact this
      have spots : ∀ q ∈ S, Spot q.2.2.2 := fun q hq => place_spot (okS q hq).p ok.dm (ok.em _ (okS q hq).e)
      have env : ∀ {HX : Hp}, Evl.Ex (nt H6) (nt HX) → NetAt C HX nx ends dots ss ps o n ∧ HX pl = some (.lst (L.map fun q => V.ref q.1)) ∧ RowsT HX L ∧ HX fo = some (.lst (S.map fun q => V.ref q.1)) ∧ SigsT HX S ∧ HX ta = some (.lst (refsS Tl)) ∧ StasT HX Tl ∧ DrawAt HX d g c := fun {HX} x => by
        have z := x.trans (ex_nt HX)
        exact ⟨N6.nt.to z, z _ _ (nt_lst hpl6), tL6.nt.to z, z _ _ (nt_lst hfo6), tS6.nt.to z, z _ _ (nt_lst hta6), tT6.nt.to z, D6.ntTo x⟩
      have soL : ∀ kk, sortedS (lotOf Pl kk) = true := fun kk => by
        cases hc : Pl[kk]? with
        | none => rw [show lotOf Pl kk = [] by unfold lotOf; rw [hc]; rfl]; rfl
        | some l => rw [lot_at hc]; rw [hPl] at hc; exact pk.so l (List.mem_of_getElem? hc)
      have mvL : ∀ z ∈ Pl.flatten, z ∈ moving ends dots o n := by rw [hPl]; exact pk.mv
      have nmL : ∀ z ∈ Pl.flatten, Nm z := by rw [hPl]; exact pk.nm
      -- told
      refine ⟨.ref nx, rfl, .ref pl, rfl, .ref fo, rfl, nx, pl, fo, L, S, ends, dots, ss, ps, o, n, rfl, N6, ok, .inl (Evl.sq_of hpl6), tL6, pk, .inl (Evl.sq_of hfo6), tS6, okS, s12, T6, fun kept ek => ?_⟩
      rw [← hPl, ← hW] at ek
      refine ⟨fun nf => (by rw [ek, full] at nf; cases nf), fun _ r R H7 x7 T7 hr0 tR lR aR => ?_⟩
      obtain ⟨N7, pl7, tL7, fo7, tS7, ta7, tT7, D7⟩ := env x7
      have lK : kept.length = S.length := by
        have h1 := storyL_len (story_kept sT')
        rw [List.length_map, ← ek] at h1
        omega
      -- the story is one
      refine ⟨.ref nx, rfl, .ref pl, rfl, .ref fo, rfl, .ref ta, rfl, nx, pl, fo, ta, L, S, Tl, ends, dots, ss, ps, o, n, rfl, N7, ok, Evl.sq_of pl7, tL7, pk, Evl.sq_of fo7, tS7, okS, s12, Evl.sq_of ta7, tT7, sT, fun H8 x8' => ⟨true, true, rfl, rfl, _, rfl, (if_neg (show ¬(!decide (true = true)) = true by decide)).mpr ?_⟩⟩
      have x68 := x7.trans (nt_ex x8')
      have T8 := T7.ext x8'
      have r8 := x8' _ _ hr0
      have tR8 := tR.to x8'
      obtain ⟨N8, pl8, tL8, fo8, tS8, ta8, tT8, D8⟩ := env x68
      -- the sights fit
      refine ⟨.ref nx, rfl, .ref pl, rfl, .ref fo, rfl, nx, pl, fo, L, S, ends, dots, ss, ps, o, n, rfl, N8, ok, .inl (Evl.sq_of pl8), tL8, pk, .inl (Evl.sq_of fo8), tS8, okS, s12, T8, fun seen es => ⟨fun H9 x9' T9 _ => ?_, fun i' j' rr H9 x9' T9 h1 h2 h3 _ _ => ?_⟩⟩
      case refine_2 =>
        exfalso
        rw [es, ← hPl, ← hW, (clash_none nfl).mpr fit i' j' h1 (by omega)] at h3
        cases h3
      refine ⟨rfl, _, rfl, (if_neg (show ¬(!decide (V.non = V.non)) = true by decide)).mpr ?_⟩
      have x69 := x68.trans x9'
      have r9 := (x9'.trans (ex_nt H9)) _ _ (nt_lst r8)
      have tR9 : NumsT H9 R := fun q hq => (x9'.trans (ex_nt H9)) _ _ (nt_tup (tR8 q hq))
      refine ⟨.ref r, rfl, rfl, _, rfl, (if_neg (show ¬decide (V.ref r = V.non) = true by rw [decide_eq_false (fun z => by cases z)]; decide)).mpr ?_⟩
      obtain ⟨N9, pl9, tL9, fo9, tS9, ta9, tT9, D9⟩ := env x69
      -- each sight
      refine ⟨.ref fo, rfl, fo, _, rfl, Evl.sq_of fo9, for_it (walk_enum (K := K) (a := fo) (xs := S.map fun q => V.ref q.1))
        (fun _ σ H' => ∃ (z9 z10 z11 z12 z13 z14 : Option V), σ = [some (.ref a), some (.ref d), some (.int (0 + (i : Int))), some (.ref m), some (.ref nx), some (.ref pl), some (.ref fo), some (.ref ta), some (.ref r), z9, z10, z11, z12, z13, z14, x15, x16] ∧ Evl.Ex H9 H')
        ⟨x9, x10, x11, x12, x13, x14, rfl, Evl.Ex.refl _⟩ (fun _ σ H' _ ⟨_, _, _, _, _, _, _, x⟩ => Evl.sq_of (x _ _ fo9)) ?_ ?_⟩
      · rintro j x σ HA HA' hj ⟨z9, z10, z11, z12, z13, z14, rfl, xA⟩ ⟨Tt, u1, u2, rfl, hTt, rfl, hy1, hy2⟩
        cases hy1
        obtain ⟨q, hq, rfl⟩ := map_at hy2
        have mq := List.mem_of_getElem? hq
        have jl := (List.getElem?_eq_some_iff.mp hq).1
        have yB := Evl.Ex.new (o := HO.tup [.int (j : Nat), .ref q.1]) hTt
        obtain ⟨qa, e, z, v⟩ := q
        have tq : HA qa = some (.tup [.str e, .str z, v]) := xA _ _ (tS9 _ mq)
        have me : e ∈ ends := (okS _ mq).e
        have mz : z ∈ dots := (okS _ mq).z
        have sv : Spot v := spots _ mq
        refine ⟨Tt, _, rfl, Evl.st_of upd_same, rfl, _, _, rfl, _, [], rfl, qa, _, rfl, Evl.st_of (yB _ _ tq), rfl, _, _, rfl, _, _, rfl, _, [], rfl, rfl, rfl, ?_⟩
        generalize upd _ Tt (.tup [.int (j : Nat), .ref qa]) = HB at yB
        have xB := xA.trans yB
        obtain ⟨s, hs⟩ : ∃ s, Tl[j]? = some s := ⟨_, List.getElem?_eq_getElem (by omega)⟩
        obtain ⟨kq, hkq⟩ : ∃ kq, R[j]? = some kq := ⟨_, List.getElem?_eq_getElem (by omega)⟩
        obtain ⟨l, hl'⟩ : ∃ l, kept[j]? = some l := ⟨_, List.getElem?_eq_getElem (by omega)⟩
        have SI := aR j l kq hl' hkq
        have ms := List.mem_of_getElem? hs
        have mk := List.mem_of_getElem? hkq
        have sin : s.st ∈ l := storyL_in (story_kept sT') (by rw [← ek]; exact hl') (by rw [List.getElem?_map, hs]; rfl)
        have kin : ((s.k : Nat) : Int) ∈ kq.2 := (SI.2 _).mpr ⟨s.st, sin, rfl⟩
        have taB := xB _ _ ta9
        have rB := xB _ _ r9
        have tkB := xB _ _ (tR9 kq mk)
        have atT : atI (refsS Tl) (j : Int) = some (.ref s.a) := atI_nat (by rw [List.getElem?_map, hs]; rfl)
        have atR : atI (R.map fun q => V.ref q.1) (j : Int) = some (.ref kq.1) := atI_nat (by rw [List.getElem?_map, hkq]; rfl)
        refine ⟨.ref ta, rfl, .int (j : Int), rfl, ta, _, (j : Int), .ref s.a, rfl, rfl, Evl.sq_of taB, atT, s.a, _, 0, .int (s.k : Int), rfl, rfl, Evl.st_of (xB _ _ (tT9 s ms).1), atI_nat (j := 0) rfl, .ref r, rfl, .int (j : Int), rfl, r, _, (j : Int), .ref kq.1, rfl, rfl, Evl.sq_of rB, atR, kq.1, kq.2.map V.int, rfl, .inr (Evl.st_of tkB), rfl, flat_nums _, _, rfl, ?_⟩
        rw [inV_int kin]
        refine iteF ⟨.ref r, rfl, .int (j : Int), rfl, r, _, (j : Int), .ref kq.1, rfl, rfl, Evl.sq_of rB, atR, kq.1, rfl, ⟨_, Evl.st_of tkB⟩, for_it (walk_tup (K := K) (a := kq.1) (xs := kq.2.map V.int))
          (fun _ σ H' => ∃ (z13 z14 : Option V), σ = [some (.ref a), some (.ref d), some (.int (0 + (i : Int))), some (.ref m), some (.ref nx), some (.ref pl), some (.ref fo), some (.ref ta), some (.ref r), some (.int (j : Int)), some (.str e), some (.str z), some v, z13, z14, x15, x16] ∧ Evl.Ex HB H')
          ⟨z13, z14, rfl, Evl.Ex.refl _⟩ (fun _ σ H' _ ⟨_, _, _, x⟩ => Evl.st_of (x _ _ tkB)) ?_ ?_⟩
        · rintro j2 y σ HC HC' hj2 ⟨z13, z14, rfl, xC⟩ ⟨rfl, hv2⟩
          obtain ⟨ki, hki, rfl⟩ := int_at hv2
          obtain ⟨t, ht, rfl⟩ := (SI.2 ki).mp (List.mem_of_getElem? hki)
          -- the moment
          obtain ⟨sl0, hsl0, sub0⟩ := subL_at (by rw [ek]; exact inStories_sub _ : SubL kept (seenStas Pl o n W)) hl'
          have eS : (seenStas Pl o n W)[j]? = some ((allStas Pl).filter (seenB Pl o n (e, z, v))) := by
            unfold seenStas
            rw [hW, List.getElem?_map, List.getElem?_map, hq]
            rfl
          rw [eS] at hsl0
          injection hsl0 with hsl0
          have ht1 := List.mem_filter.mp (by rw [hsl0]; exact sub0 t ht : t ∈ (allStas Pl).filter (seenB Pl o n (e, z, v)))
          have htk : t.1 ≤ Pl.length := (allStas_mem.mp ht1.1).1
          have hseen : v = look (if newB Pl t z = true then n e else o e) z := of_decide_eq_true ht1.2
          have xC9 := xB.trans xC
          have plC := xC9 _ _ pl9
          have tLC := tL9.to xC9
          refine ⟨.ref pl, rfl, .int (t.1 : Int), rfl, pl, t.1, L, rfl, Evl.sq_of plC, tLC, l6', fun j3 HD xD hj3 => ?_⟩
          rw [← hPl] at hj3
          have dl : (doneOf Pl t.1).length ≤ 6 := Nat.le_trans (done_sub _).length_le l6
          refine ⟨j3, doneOf Pl t.1, rfl, Evl.sq_of hj3, by omega, fun zs sl pz sz hsl => ⟨sl, zs.map V.str, rfl, .inl ⟨Evl.sq_of upd_same, fun rd hrd => ?_⟩⟩⟩
          have yE := (Evl.Ex.new (o := HO.lst (zs.map V.str)) hsl).trans (Evl.Ex.new (o := HO.tup (zs.map V.str)) hrd)
          have rdE : (upd (upd HD sl (.lst (zs.map V.str))) rd (.tup (zs.map V.str))) rd = some (.tup (zs.map V.str)) := upd_same
          generalize upd (upd HD sl (.lst (zs.map V.str))) rd (.tup (zs.map V.str)) = HE at yE rdE
          have xE := (xC9.trans xD).trans yE
          have plE := xE _ _ pl9
          have tLE := tL9.to xE
          -- ways(..)[dot]
          refine ⟨v, rfl, .ref nx, rfl, .ref rd, rfl, .ref pl, rfl, pl, _, rfl, .inl (Evl.sq_of plE), fun l1 hl1 => ⟨by show 0 ≤ sizeLine; decide, fun e0 he0 => ⟨by show 1 ≤ sizeLine; decide, fun p0 hp0 => ?_⟩⟩⟩
          have a1 : (upd (upd (upd HE l1 (.lst (L.map fun q => V.ref q.1))) e0 (.tup [])) p0 (.lst [.ref e0])) l1 = some (.lst (L.map fun q => V.ref q.1)) := ((Evl.Ex.new he0).trans (Evl.Ex.new hp0)) _ _ upd_same
          have a2 : (upd (upd (upd HE l1 (.lst (L.map fun q => V.ref q.1))) e0 (.tup [])) p0 (.lst [.ref e0])) p0 = some (.lst [.ref e0]) := upd_same
          have a3 : (upd (upd (upd HE l1 (.lst (L.map fun q => V.ref q.1))) e0 (.tup [])) p0 (.lst [.ref e0])) e0 = some (.tup (([] : List Str).map V.str)) := (Evl.Ex.new hp0) _ _ upd_same
          have zF : Evl.Ex HE (upd (upd (upd HE l1 (.lst (L.map fun q => V.ref q.1))) e0 (.tup [])) p0 (.lst [.ref e0])) := (Evl.Ex.new hl1).trans ((Evl.Ex.new he0).trans (Evl.Ex.new hp0))
          generalize upd (upd (upd HE l1 (.lst (L.map fun q => V.ref q.1))) e0 (.tup [])) p0 (.lst [.ref e0]) = HF at a1 a2 a3 zF
          refine ⟨l1, p0, _, _, rfl, rfl, a1, a2, by rw [List.length_map]; exact Nat.le_of_lt (small1000 (by show L.length + 1 ≤ 1000; omega)), fun cc hcc => ?_⟩
          obtain ⟨R2, hR2⟩ : ∃ R2, R2 = L ++ [(e0, ([] : List Str))] := ⟨_, rfl⟩
          have c7 : (upd HF cc (.lst (L.map (fun q => V.ref q.1) ++ [.ref e0]))) cc = some (.lst (R2.map fun q => V.ref q.1)) := by rw [upd_same, hR2, List.map_append]; rfl
          have zG : Evl.Ex HF (upd HF cc (.lst (L.map (fun q => V.ref q.1) ++ [.ref e0]))) := Evl.Ex.new hcc
          generalize upd HF cc (.lst (L.map (fun q => V.ref q.1) ++ [.ref e0])) = HG at c7 zG
          have zEG := zF.trans zG
          have tR2 : RowsT HG R2 := by
            rw [hR2]
            exact (tLE.to zEG).app fun q hq => by rw [List.mem_singleton.mp hq]; exact zG _ _ a3
          have kR : t.1 < R2.length := by rw [hR2, List.length_append, List.length_singleton]; rw [hPl, List.length_map] at htk; omega
          obtain ⟨ql, hql⟩ : ∃ ql, R2[t.1]? = some ql := ⟨_, List.getElem?_eq_getElem kR⟩
          have q2 : ql.2 = lotOf Pl t.1 := by
            rw [← lot_app, show Pl ++ [[]] = R2.map (·.2) by rw [hR2, hPl, List.map_append]; rfl]
            unfold lotOf
            rw [List.getElem?_map, hql]
            rfl
          have tql := tR2 ql (List.mem_of_getElem? hql)
          rw [q2] at tql
          have xG := xE.trans zEG
          have LA : LotAt HG rd zs (moving ends dots o n) := ⟨zEG _ _ rdE, fun y hy => mvL y ((done_sub t.1).subset (pz.subset hy)), pz.nodup_iff.mpr (nfl.sublist (done_sub t.1)), sz, fun y hy => nmL y ((done_sub t.1).subset (pz.subset hy)), by rw [pz.length_eq]; omega⟩
          have ll : (lotOf Pl t.1).length ≤ 6 := Nat.le_trans (lot_sub _).length_le l6
          have LB : LotAt HG ql.1 (lotOf Pl t.1) (moving ends dots o n) := ⟨tql, fun y hy => mvL y ((lot_sub t.1).subset hy), nfl.sublist (lot_sub t.1), soL t.1, fun y hy => nmL y ((lot_sub t.1).subset hy), by omega⟩
          refine ⟨.int (t.1 : Int), rfl, cc, _, (t.1 : Int), .ref ql.1, rfl, rfl, Evl.sq_of c7, atI_nat (by rw [List.getElem?_map, hql]; rfl), .str e, rfl, nx, rd, ql.1, e, zs, lotOf Pl t.1, ends, dots, ss, ps, o, n, rfl, N9.to xG, ok, me, LA, LB, fun y hy hz => done_lot nfl (pz.subset hz) hy, fun DM HH xH _ MX => ?_⟩
          obtain ⟨rs, m1, m2, m3⟩ := MX.ex
          obtain ⟨vv, hvv, hm⟩ := tkv_some (tb := rs) (z := z) (by rw [m2]; exact mz)
          obtain ⟨la, ela, _, hla⟩ := m3 _ hm
          have ela' : vv = .ref la := ela
          rw [ela'] at hvv
          have hla' : HH la = some (.lst (spotsOf (o e) (n e) zs (lotOf Pl t.1) z)) := hla
          have vin : v ∈ spotsOf (o e) (n e) zs (lotOf Pl t.1) z := by
            have := way_in (o := o e) (n := n e) (z := z) pz (fun y hy => (allStas_sub ht1.1).subset hy)
            rw [← hseen] at this
            exact this
          have spf : ∀ u ∈ spotsOf (o e) (n e) zs (lotOf Pl t.1) z, flatV u = true := fun u hu => by
            obtain ⟨p', po, pn, _, pa⟩ := ro6 e me
            have s1 : Spot (look (o e) z) := place_spot (look_ok pa.o1 mz).1 ok.dm (ok.em e me)
            have s2 : Spot (look (n e) z) := place_spot (look_ok pa.o2 mz).1 ok.dm (ok.em e me)
            unfold spotsOf at hu
            split at hu
            · rw [List.mem_singleton.mp hu]; exact flat_spot s2
            · split at hu
              · rcases List.mem_cons.mp hu with rfl | hu
                · exact flat_spot s1
                · rw [List.mem_singleton.mp hu]; exact flat_spot s2
              · rw [List.mem_singleton.mp hu]; exact flat_spot s1
          refine ⟨.str z, rfl, DM, .ref la, rfl, dget_of (k := Sum.inr z) m1 hvv, la, _, rfl, .inl (Evl.sq_of hla'), flat_spot sv, List.all_eq_true.mpr spf, _, rfl, ?_⟩
          rw [inV_of sv vin]
          exact iteF ⟨_, _, rfl, ((((xC.trans xD).trans yE).trans zEG).trans xH)⟩
        · rintro σ HC ⟨z13, z14, rfl, xC⟩
          exact ⟨_, _, _, _, _, _, rfl, xB.trans xC⟩
      rintro σ HA ⟨z9, z10, z11, z12, z13, z14, rfl, xA⟩
      have x6A := x69.trans (nt_ex xA)
      have TA := T9.ext xA
      obtain ⟨NA, plA, tLA, foA, tSA, taA, tTA, DA⟩ := env x6A
      have keepN : ∀ {HX : Hp}, Evl.Ex (nt H6) (nt HX) → ∀ {u : Addr} {o' : HO}, off d g H6 u = some o' → (∀ ps, o' ≠ .tbl ps) → HX u = some o' := fun {HX} x {u} {o'} h hn => (ex_nt HX) _ _ (x _ _ (nt_of (off_some h).2.2 hn))
      -- the last sight
      refine ⟨fun σ H' => ∃ y10 y11 y12 : Option V, σ = [some (.ref a), some (.ref d), some (.int (0 + (i : Int))), some (.ref m), some (.ref nx), some (.ref pl), some (.ref fo), some (.ref ta), some (.ref r), z9, y10, y11, y12, z13, z14, x15, x16] ∧ Evl.Ex (nt H6) (nt H') ∧ Tabs T H', ?_, ?_⟩
      · refine ⟨.ref fo, rfl, Nat.zero_le _, fun p hp => ?_⟩
        have xB : Evl.Ex HA (upd HA p (.lst [])) := Evl.Ex.new hp
        obtain ⟨dd, g1, g2, g3⟩ := data_list (K := K) (Evl.sq_of (xB _ _ foA)) fun v hv => by
          obtain ⟨q, hq, rfl⟩ := List.mem_map.mp hv
          exact sight_data (xB _ _ (tSA q hq)) (okS q hq) ok.em ok.dm
        refine ⟨dd, .list [], g1, .lst (Evl.sq_of upd_same) .nil, g2, by rfl, _, rfl, ?_⟩
        rw [g3]
        have x6B := x6A.trans (nt_ex xB)
        have TB := TA.ext xB
        generalize upd HA p (.lst []) = HB at x6B TB
        rcases List.eq_nil_or_concat S with eS | ⟨S0, lq, eS⟩
        · rw [show (S.map fun q => V.ref q.1).isEmpty = true by rw [eS]; rfl]
          exact iteF ⟨z10, z11, z12, rfl, x6B, TB⟩
        rw [List.concat_eq_append] at eS
        rw [show (S.map fun q => V.ref q.1).isEmpty = false by rw [eS]; cases S0 <;> rfl]
        obtain ⟨NB, plB, tLB, foB, tSB, taB, tTB, DB⟩ := env x6B
        obtain ⟨qa, e, z, v⟩ := lq
        have mq : (qa, e, z, v) ∈ S := by rw [eS]; exact List.mem_append_right _ List.mem_cons_self
        have atF : atI (S.map fun q => V.ref q.1) (-1) = some (V.ref qa) := by rw [eS, List.map_append]; exact atI_last _ _
        have me : e ∈ ends := (okS _ mq).e
        have mz : z ∈ dots := (okS _ mq).z
        have sv : Spot v := spots _ mq
        refine iteT ⟨.ref fo, rfl, 1, rfl, fo, _, -1, .ref qa, rfl, rfl, Evl.sq_of foB, atF, qa, _, rfl, Evl.st_of (tSB _ mq), rfl, _, _, rfl, _, _, rfl, _, [], rfl, rfl, ?_⟩
        refine ⟨.str z, rfl, .ref nx, rfl, .ref pl, rfl, .ref fo, rfl, nx, pl, fo, L, S, ends, dots, ss, ps, o, n, rfl, NB, ok, .inl (Evl.sq_of plB), tLB, pk, .inl (Evl.sq_of foB), tSB, okS, s12, TB, fun kept2 zs ek2 so pm => ⟨fun s0 => ?_, fun _ nf => ?_, fun _ _ r2 e2 d2 HC xC TC r2C e2C d2C => ?_⟩⟩
        · rw [eS] at s0
          exact absurd s0 (by simp)
        · rw [ek2, ← hPl, ← hW, full] at nf
          cases nf
        have x6C := x6B.trans xC
        rw [← hPl, ← hW] at ek2
        rw [← hPl] at e2C
        refine ⟨r2, _, 0, .ref e2, rfl, rfl, Evl.st_of r2C, atI_nat (j := 0) rfl, e2, _, rfl, .inr (Evl.st_of e2C), rfl, flat_strs _, _, rfl, ?_⟩
        rw [inV_str]
        by_cases hz : z ∈ eachL Pl (kept2.getLastD []) zs
        · rw [decide_eq_true hz]
          obtain ⟨p, po, pn, hv, pa⟩ := ro6 e me
          have c2 := look_ok pa.o2 mz
          have same : v = look (n e) z := by
            have eW : W = S0.map (·.2) ++ [(e, z, v)] := by rw [hW, eS, List.map_append]; rfl
            have h0 := sT'
            have a0 := (List.mem_filter.mp hz).2
            rw [ek2] at a0
            rcases List.eq_nil_or_concat (Tl.map StaR.st) with w0 | ⟨ss0, t, w0⟩
            · have := congrArg List.length w0
              rw [List.length_map, lT, eS, List.length_append] at this
              exact absurd this (by simp)
            rw [List.concat_eq_append] at w0
            rw [w0] at h0
            have ne0 : seenStas Pl o n W ≠ [] := fun w1 => by
              have := storyL_len h0
              rw [w1] at this
              simp at this
            have lst := (last_stas ne0).mpr ⟨ss0, h0⟩
            rw [eW, seenStas_snoc] at h0
            obtain ⟨m0, _, _⟩ := storyL_unsnoc h0
            have nb := List.all_eq_true.mp a0 t lst
            have sb : v = look (if newB Pl t z = true then n e else o e) z := of_decide_eq_true (List.mem_filter.mp m0).2
            rw [if_pos nb] at sb
            exact sb
          refine iteT ⟨v, rfl, .ref m, rfl, m, .ref tb, rfl, dget_of (keepN x6C MA6.hm (fun _ w => by cases w)) (mkv_tables _ _ _ _), .str e, rfl, tb, .ref p, rfl, dget_of (k := Sum.inr e) (keepN x6C MA6.ht (fun _ w => by cases w)) hv, p, _, 1, .ref pn, rfl, rfl, Evl.st_of (keepN x6C pa.hp (fun _ w => by cases w)), atI_nat (j := 1) rfl, .str z, rfl, pn, _, rfl, dget_of (k := Sum.inr z) (keepN x6C pa.hn (fun _ w => by cases w)) c2.2, ?_⟩
          rw [← same]
          exact ⟨scal_self_spot sv, _, rfl, (if_neg (by rw [decide_eq_true rfl]; decide)).mpr ⟨_, _, _, rfl, x6C, TC⟩⟩
        · rw [decide_eq_false hz]
          exact iteF ⟨_, _, _, rfl, x6C, TC⟩
      rintro σ HB ⟨y10, y11, y12, rfl, x6B, TB⟩
      obtain ⟨NB, plB, tLB, foB, tSB, taB, tTB, DB⟩ := env x6B
      -- turned
      refine ⟨.ref fo, rfl, fo, _, rfl, Evl.sq_of foB, fun tn htn => ?_⟩
      have xC' : Evl.Ex HB (upd HB tn (.lst (S.map fun q => V.ref q.1).reverse)) := Evl.Ex.new htn
      have x6C := x6B.trans (nt_ex xC')
      have TC := TB.ext xC'
      obtain ⟨S2, hS2⟩ : ∃ S2, S2 = S.reverse := ⟨_, rfl⟩
      have tnC : (upd HB tn (.lst (S.map fun q => V.ref q.1).reverse)) tn = some (.lst (S2.map fun q => V.ref q.1)) := by rw [upd_same, hS2, List.map_reverse]
      generalize upd HB tn (.lst (S.map fun q => V.ref q.1).reverse) = HC at x6C TC tnC
      have env2 : ∀ {HX : Hp}, Evl.Ex (nt HC) (nt HX) → NetAt C HX nx ends dots ss ps o n ∧ HX pl = some (.lst (L.map fun q => V.ref q.1)) ∧ RowsT HX L ∧ HX tn = some (.lst (S2.map fun q => V.ref q.1)) ∧ SigsT HX S2 ∧ DrawAt HX d g c := fun {HX} x => by
        obtain ⟨h1, h2, h3, _, h5, _, _, h8⟩ := env (x6C.trans x)
        exact ⟨h1, h2, h3, (x.trans (ex_nt HX)) _ _ (nt_lst tnC), fun q hq => h5 q (by rw [hS2] at hq; exact List.mem_reverse.mp hq), h8⟩
      have okS2 : ∀ q ∈ S2, SigOk ends dots q.2 := fun q hq => okS q (by rw [hS2] at hq; exact List.mem_reverse.mp hq)
      have s12' : S2.length ≤ 12 := by rw [hS2, List.length_reverse]; exact s12
      obtain ⟨W2, hW2⟩ : ∃ W2, W2 = S2.map (·.2) := ⟨_, rfl⟩
      obtain ⟨NC, plC, tLC, _, tSC, DC⟩ := env2 (Evl.Ex.refl _)
      -- clash and stages agree
      refine ⟨.ref nx, rfl, .ref pl, rfl, .ref tn, rfl, nx, pl, tn, L, S2, ends, dots, ss, ps, o, n, rfl, NC, ok, .inl (Evl.sq_of plC), tLC, pk, .inl (Evl.sq_of tnC), tSC, okS2, s12', TC, fun seen2 es2 => ⟨fun HD xD TD all => ?_, fun i2 j2 r2 HD xD TD h1 h2 h3 _ _ => ?_⟩⟩
      · obtain ⟨ND, plD, tLD, tnD, tSD, DD⟩ := env2 xD
        refine ⟨rfl, .ref nx, rfl, .ref pl, rfl, .ref tn, rfl, nx, pl, tn, L, S2, ends, dots, ss, ps, o, n, rfl, ND, ok, .inl (Evl.sq_of plD), tLD, pk, .inl (Evl.sq_of tnD), tSD, okS2, s12', TD, fun kept3 ek3 => ⟨fun nf => ?_, fun _ r3 R3 HE xE' TE_ _ _ _ _ => ?_⟩⟩
        · exfalso
          rw [← hPl, ← hW2] at ek3 es2
          rw [ek3, (full_fit nfl W2).mpr ((clash_none nfl).mp (fun i' j' g1 g2 => by rw [← es2]; exact all i' j' g1 (by rw [hW2, List.length_map] at g2; exact g2)))] at nf
          cases nf
        have xE := xD.trans xE'
        obtain ⟨NE, plE, tLE, tnE, tSE, DE⟩ := env2 xE
        refine ⟨rfl, rfl, _, rfl, (if_neg (by rw [decide_eq_false (show ¬(V.ref r3 = V.non) from fun z => V.noConfusion z)]; decide)).mpr ?_⟩
        refine ⟨.ref nx, rfl, .ref pl, rfl, .ref tn, rfl, nx, pl, tn, L, S2, ends, dots, ss, ps, o, n, rfl, NE, ok, .inl (Evl.sq_of plE), tLE, pk, .inl (Evl.sq_of tnE), tSE, okS2, s12', TE_, fun kept4 ek4 => ⟨fun HG xG TG _ => ?_, fun r4 R4 HG xG TG _ r4G R4G sto => ?_⟩⟩
        · refine ⟨.non, rfl, rfl, _, rfl, (if_neg (show ¬(!decide (V.non = V.non)) = true by decide)).mpr ?_⟩
          exact ⟨_, _, _, _, _, _, _, _, _, _, _, _, _, _, _, rfl, D6.ntTo ((x6C.trans xE).trans xG), TG⟩
        · obtain ⟨NG, plG, tLG, tnG, tSG, DG⟩ := env2 (xE.trans xG)
          refine ⟨.ref r4, rfl, rfl, _, rfl, (if_pos (by rw [decide_eq_false (show ¬(V.ref r4 = V.non) from fun z => V.noConfusion z)]; rfl)).mpr ?_⟩
          refine ⟨.ref nx, rfl, .ref pl, rfl, .ref tn, rfl, .ref r4, rfl, nx, pl, tn, r4, L, S2, R4, ends, dots, ss, ps, o, n, rfl, NG, ok, Evl.sq_of plG, tLG, pk, Evl.sq_of tnG, tSG, okS2, s12', Evl.sq_of r4G, R4G, ?_, fun HJ xJ => ?_⟩
          · rw [← hPl, ← hW2]
            rw [← hPl, ← hW2] at ek4
            rw [ek4] at sto
            exact storyL_sub (story_of sto) (inStories_sub _)
          · exact ⟨true, rfl, ⟨_, _, _, _, _, _, _, _, _, _, _, _, _, _, _, rfl, D6.ntTo (((x6C.trans xE).trans xG).trans (nt_ex xJ)), TG.ext xJ⟩⟩
      · obtain ⟨ND, plD, tLD, tnD, tSD, DD⟩ := env2 xD
        refine ⟨rfl, .ref nx, rfl, .ref pl, rfl, .ref tn, rfl, nx, pl, tn, L, S2, ends, dots, ss, ps, o, n, rfl, ND, ok, .inl (Evl.sq_of plD), tLD, pk, .inl (Evl.sq_of tnD), tSD, okS2, s12', TD, fun kept3 ek3 => ⟨fun _ HE xE' TE_ => ?_, fun ful => ?_⟩⟩
        · have xE := xD.trans xE'
          obtain ⟨NE, plE, tLE, tnE, tSE, DE⟩ := env2 xE
          refine ⟨rfl, rfl, _, rfl, (if_neg (by rw [decide_eq_false (show ¬(V.ref r2 = V.non) from fun z => V.noConfusion z)]; decide)).mpr ?_⟩
          refine ⟨.ref nx, rfl, .ref pl, rfl, .ref tn, rfl, nx, pl, tn, L, S2, ends, dots, ss, ps, o, n, rfl, NE, ok, .inl (Evl.sq_of plE), tLE, pk, .inl (Evl.sq_of tnE), tSE, okS2, s12', TE_, fun kept4 ek4 => ⟨fun HG xG TG _ => ?_, fun r4 R4 HG xG TG _ r4G R4G sto => ?_⟩⟩
          · refine ⟨.non, rfl, rfl, _, rfl, (if_neg (show ¬(!decide (V.non = V.non)) = true by decide)).mpr ?_⟩
            exact ⟨_, _, _, _, _, _, _, _, _, _, _, _, _, _, _, rfl, D6.ntTo ((x6C.trans xE).trans xG), TG⟩
          · obtain ⟨NG, plG, tLG, tnG, tSG, DG⟩ := env2 (xE.trans xG)
            refine ⟨.ref r4, rfl, rfl, _, rfl, (if_pos (by rw [decide_eq_false (show ¬(V.ref r4 = V.non) from fun z => V.noConfusion z)]; rfl)).mpr ?_⟩
            refine ⟨.ref nx, rfl, .ref pl, rfl, .ref tn, rfl, .ref r4, rfl, nx, pl, tn, r4, L, S2, R4, ends, dots, ss, ps, o, n, rfl, NG, ok, Evl.sq_of plG, tLG, pk, Evl.sq_of tnG, tSG, okS2, s12', Evl.sq_of r4G, R4G, ?_, fun HJ xJ => ?_⟩
            · rw [← hPl, ← hW2]
              rw [← hPl, ← hW2] at ek4
              rw [ek4] at sto
              exact storyL_sub (story_of sto) (inStories_sub _)
            · exact ⟨true, rfl, ⟨_, _, _, _, _, _, _, _, _, _, _, _, _, _, _, rfl, D6.ntTo (((x6C.trans xE).trans xG).trans (nt_ex xJ)), TG.ext xJ⟩⟩
        · exfalso
          rw [← hPl, ← hW2] at ek3 es2
          rw [ek3] at ful
          rw [es2, (clash_none nfl).mpr ((full_fit nfl W2).mp ful) i2 j2 h1 (by rw [hW2, List.length_map]; exact h2)] at h3
          cases h3
    · rintro σ H2 ⟨x2, x3, x4, x5, x6, x7, x8, x9, x10, x11, x12, x13, x14, x15, x16, rfl, D2, T2⟩
      exact k H2
end
end Rw
end T_FL

section T_B1
set_option Elab.async false
set_option linter.all false
set_option maxRecDepth 100000
set_option maxHeartbeats 4000000
namespace Rw
open PySem L2 PyProof.Rows
section
variable {P : Program} {w : World} {K : PySem.W.Frag} {mg : Str → Option Value} {base : Heap}
theorem sc_begin : FnScope ["script", "great", "cell"] ["script"] (defScope s_begin) := ⟨rfl, rfl, rfl, by decide +kernel, rfl, by decide +kernel, by decide +kernel⟩
theorem ok_begin {f : Addr} {fd : FuncData} (F : Fun K "_law_begin" "_law_begin" s_begin f fd) (mAbs : mg "abs" = none) : FnOk P w K mg base CX0 1 f fd ["script"] (spBegin K) := by
  refine F.ok sc_begin (fun vs H Q E h => ?_) (fun cdv A outer s H vs Q E hr h => ?_)
  · obtain ⟨a, ns, rfl, _⟩ := h
    rfl
  · obtain ⟨a, ns, rfl, hS, hl, k⟩ := h
    have nd := sc_begin.nd
    refine ⟨_, pss_cons (ps_setLc (i := 1) (own := [("cell", 2)]) (g := gName 2) (by rfl) nd rfl rfl (sw_true rfl rfl rfl (by decide +kernel)) (pi_list (pv 0)) (blkOk_by (own := [("cell", 2)]) (N := ["script", "great", "cell"]) (sc := defScope s_begin) (by decide +kernel))
          (fun _ _ _ _ _ => pg_name (i := 2) nd rfl (Or.inl rfl)) (fun _ _ _ _ _ => pts_one (pt_cmpR op_ge (pe_callB call_abs (by rfl) mAbs boot_abs (pa_cons (pv 2) pa_nil)) (pe_op op_pow pe_int pe_int) (nomark _)))
          (fun _ _ _ _ _ => pe_op op_sub (pe_callB call_abs (by rfl) mAbs boot_abs (pa_cons (pv 2) pa_nil)) (pe_op op_pow pe_int pe_int)))
      (pss_one (ps_ret (pe_disp (pps_cons pe_str (pv 1) (pps_cons pe_str pe_int (pps_cons pe_str
          (pe_lc (own := [("cell", 2)]) (g := gName 2) (tt := tYes) rfl nd (pi_list (pv 0)) (blkOk_by (own := [("cell", 2)]) (N := ["script", "great", "cell"]) (sc := defScope s_begin) (by decide +kernel))
            (fun _ _ _ _ _ => pg_name (i := 2) nd rfl (Or.inl rfl)) (fun _ _ _ _ _ => pts_nil) (fun _ _ _ _ _ => pe_callB call_abs (by rfl) mAbs boot_abs (pa_cons (pv 2) pa_nil)))
          (pps_cons pe_str pe_int pps_nil)))) (by rfl) (by rfl) (fun z => by cases z) (by decide)))), ?_⟩
    -- great = [..]
    have int_at : ∀ {i : Nat} {x : V}, (ns.map V.int)[i]? = some x → ∃ z : Int, x = V.int z := fun {i x} hi => by
      rw [List.getElem?_map] at hi
      cases e : ns[i]? with
      | none => rw [e] at hi; cases hi
      | some z => rw [e] at hi; exact ⟨z, (Option.some.inj hi).symm⟩
    refine ⟨.ref a, rfl, a, rfl, ⟨_, hS⟩, fun g hg => lc_list (K := K) (a := a) (xs := ns.map V.int)
      (fun i H1 => ∃ gs : List Int, gs.length ≤ i ∧ H1 = upd H g (.lst (gs.map V.int))) ⟨[], Nat.le_refl _, rfl⟩ ?_ ?_ ?_⟩
    · rintro i H1 _ ⟨gs, _, rfl⟩
      exact Evl.ex_l (Evl.Ex.new hg) hS
    · rintro i x H1 hi ⟨gs, hgl, rfl⟩
      obtain ⟨z, rfl⟩ := int_at hi
      have hil : i < (ns.map V.int).length := (List.getElem?_eq_some_iff.mp hi).1
      rw [List.length_map] at hil
      refine ⟨rfl, _, rfl, z, rfl, 10, 18, rfl, rfl, ⟨by decide, by decide, by decide⟩, _, _, rfl, rfl, _, rfl, ite2 (fun _ => ?_) (fun _ => ⟨gs, by omega, rfl⟩)⟩
      refine ⟨_, rfl, z, rfl, 10, 18, rfl, rfl, ⟨by decide, by decide, by decide⟩, _, _, rfl, rfl, _, upd_same, ?_, gs ++ [(if z < 0 then -z else z) - 10 ^ (18 : Int).toNat], ?_, ?_⟩
      · rw [List.length_map]; exact small1000 (by omega)
      · rw [List.length_append]; show gs.length + 1 ≤ i + 1; omega
      · rw [upd_upd, List.map_append]; rfl
    · rintro H1 ⟨gs, _, rfl⟩
      -- the dict
      intro d hd
      have hng : g ≠ d := ne_of_none upd_same hd
      have hSd : SqL K (upd (upd H g (.lst (gs.map V.int))) d (.dK [])) a (ns.map V.int) := Evl.ex_l (Evl.Ex.new hd) (Evl.ex_l (Evl.Ex.new hg) hS)
      refine ⟨.ref g, rfl, .ref a, rfl, a, rfl, ⟨_, hSd⟩, fun c hc => lc_list (K := K) (a := a) (xs := ns.map V.int)
        (fun i H1 => ∃ cs : List Int, cs.length ≤ i ∧ H1 = upd (upd (upd H g (.lst (gs.map V.int))) d (.dK [])) c (.lst (cs.map V.int))) ⟨[], Nat.le_refl _, rfl⟩ ?_ ?_ ?_⟩
      · rintro i H1 _ ⟨cs, _, rfl⟩
        exact Evl.ex_l (Evl.Ex.new hc) hSd
      · rintro i x H1 hi ⟨cs, hcl, rfl⟩
        obtain ⟨z, rfl⟩ := int_at hi
        have hil : i < (ns.map V.int).length := (List.getElem?_eq_some_iff.mp hi).1
        rw [List.length_map] at hil
        refine ⟨rfl, ?_⟩
        refine yes_if ?_
        refine ⟨_, rfl, z, rfl, _, upd_same, ?_, cs ++ [if z < 0 then -z else z], ?_, ?_⟩
        · rw [List.length_map]; exact small1000 (by omega)
        · rw [List.length_append]; show cs.length + 1 ≤ i + 1; omega
        · rw [upd_upd, List.map_append]; rfl
      · rintro H1 ⟨cs, _, rfl⟩
        have ndc : d ≠ c := ne_of_none upd_same hc
        have ngc : g ≠ c := ne_of_none (o := .lst (gs.map V.int)) (by rw [upd_ne hng]; exact upd_same) hc
        have dn : H d = none := by rw [upd_ne hng.symm] at hd; exact hd
        have cn : H c = none := by rw [upd_ne ndc.symm, upd_ne ngc.symm] at hc; exact hc
        refine ⟨by rw [upd_ne ndc]; exact upd_same, dkv g c 0 0, rfl, by show 4 ≤ 15; decide, ?_⟩
        refine k d g c _ ⟨⟨0, 0, ?_⟩, ⟨gs, ?_⟩, ⟨cs, ?_⟩, ngc.symm⟩ fun b o e => off_of ?_ (ne_of_none e dn) (ne_of_none e hg)
        · rw [upd_same]
          exact congrArg (fun z => some (HO.dK z)) (by kernel_rfl)
        · rw [upd_ne hng, upd_ne ngc, upd_ne hng, upd_same]
        · rw [upd_ne ndc.symm, upd_same]
        · rw [upd_ne (ne_of_none e dn), upd_ne (ne_of_none e cn), upd_ne (ne_of_none e dn), upd_ne (ne_of_none e hg)]
          exact e
end
end Rw
end T_B1

section T_B2
set_option Elab.async false
set_option linter.all false
set_option maxRecDepth 100000
set_option maxHeartbeats 4000000
namespace Rw
open PySem L2 PyProof.Rows
section
variable {P : Program} {w : World} {K : PySem.W.Frag} {mg : Str → Option Value} {base : Heap}
theorem sc_mixed : FnScope ["draw", "some", "left", "found"] ["draw", "some"] (defScope s_mixed) := ⟨rfl, rfl, rfl, by decide +kernel, rfl, by decide +kernel, by decide +kernel⟩
theorem ok_mixed {f fT : Addr} {fd fdT : FuncData} (F : Fun K "_law_mixed" "_law_mixed" s_mixed f fd) (T : FnOk P w K mg base CX0 2 fT fdT ["draw", "size"] spTake) (kT : PySem.W.keepIn K (.ref fT) = true) (bT : Binds K fdT ["draw", "size"] []) (gT : mg "_law_take" = some (.ref fT)) (mLen : mg "len" = none) (mList : mg "list" = none) :
    FnOk P w K mg base CX0 3 f fd ["draw", "some"] (spMixed K) := by
  refine F.ok sc_mixed (fun vs H Q E h => ?_) (fun cdv A outer s H vs Q E hr h => ?_)
  · obtain ⟨d, g, c, a, xs, rfl, _⟩ := h
    rfl
  · obtain ⟨d, g, c, a, xs, rfl, D, hS, hl, hdat, k⟩ := h
    have nd := sc_mixed.nd
    refine ⟨_, pss_cons (ps_par (i := 2) (j := 3) (by rfl) nd rfl rfl (by decide) rfl rfl (pa_cons (pe_callTy call_list_of (by rfl) mList (by decide +kernel) (pa_cons (pv 1) pa_nil)) (pa_cons (pe_lst pa_nil) pa_nil)) (by rfl))
      (pss_cons (ps_while PassesOwn.never (pt_cmpR (op_neD hr.units) (pv 2) (pe_lst pa_nil) (nomark _))
        (pss_one (ps_expr (pe_bm PySem.F.plainAttrs_list PySem.F.slot_list_append PySem.F.type_list_append mt_append (pv 3)
          (pa_cons (pe_bm PySem.F.plainAttrs_list PySem.F.slot_list_pop PySem.F.type_list_pop mt_popAt (pv 2) (pa_cons (pe_call T hr rfl gT kT bT .nil pass0 (pa_cons (pv 0) (pa_cons (pe_callB call_len (by rfl) mLen PySem.boot_len (pa_cons (pv 2) pa_nil)) pa_nil))) pa_nil)) pa_nil)))))
      (pss_one (ps_ret (pv 3)))), ?_⟩
    -- left, found = (list(some), [])
    refine ⟨.ref a, rfl, a, xs, rfl, hS.elim (fun z => .inl (Evl.ex_l (ex_off d g H) z)) (fun z => .inr (Evl.ex_t (ex_off d g H) z)), fun l hl0 => ⟨Nat.zero_le _, fun f hf => ⟨_, _, rfl, ?_⟩⟩⟩
    have hlf : f ≠ l := fun z => by rw [z, upd_same] at hf; cases hf
    have hf0 : H f = none := by rw [upd_ne hlf] at hf; exact hf
    have nl := D.ned hl0
    have nf := D.ned hf0
    have perm_erase : ∀ (ls : List V) (i : Nat) (v : V), ls[i]? = some v → (v :: ls.eraseIdx i).Perm ls := fun ls => by
      induction ls with
      | nil => intro i v h; simp at h
      | cons x r ih =>
        intro i v h
        cases i with
        | zero => simp at h; subst h; exact List.Perm.refl _
        | succ n =>
          have h' : r[n]? = some v := by simpa using h
          exact (List.Perm.swap x v _).trans ((ih n v h').cons x)
    refine while_by (fun σ H' => σ = [some (.ref d), some (.ref a), some (.ref l), some (.ref f)] ∧ ∃ ls fs : List V, H' l = some (.lst ls) ∧ H' f = some (.lst fs) ∧ (fs ++ ls).Perm xs ∧ DrawAt H' d g c ∧ Evl.Ex (off d g H) (off d g H'))
      (fun _ H' => match H' l with | some (.lst ls) => ls.length | _ => 0) ⟨rfl, xs, [], by rw [upd_ne hlf.symm]; exact upd_same, upd_same, List.Perm.refl _, (D.new hl0).new hf, (off_ex (Evl.Ex.new hl0)).trans (off_ex (Evl.Ex.new hf))⟩ ?_ ?_
    · rintro σ H1 ⟨rfl, ls, fs, el, ef, hp, D1, x1⟩
      have hlen : fs.length + ls.length = xs.length := by rw [← List.length_append]; exact hp.length_eq
      have hdl : ∀ v ∈ ls, DataV K H1 v := fun v hv => (hdat v (hp.subset (List.mem_append_right _ hv))).ex (x1.trans (ex_off d g H1))
      refine ⟨.ref l, rfl, Nat.zero_le _, fun p hp0 => ?_⟩
      have x2 : Evl.Ex H1 (upd H1 p (.lst [])) := Evl.Ex.new hp0
      have el2 : (upd H1 p (.lst [])) l = some (.lst ls) := x2 _ _ el
      have ef2 : (upd H1 p (.lst [])) f = some (.lst fs) := x2 _ _ ef
      have D2 : DrawAt (upd H1 p (.lst [])) d g c := D1.ext x2
      have x3 : Evl.Ex (off d g H) (off d g (upd H1 p (.lst []))) := x1.trans (off_ex x2)
      obtain ⟨dd, g1, g2, g3⟩ := data_list (Evl.sq_of el2) fun v hv => (hdl v hv).ex x2
      refine ⟨dd, .list [], g1, .lst (Evl.sq_of upd_same) .nil, g2, by rfl, _, rfl, ?_⟩
      rw [g3]
      generalize upd H1 p (.lst []) = H2 at el2 ef2 D2 x3
      cases ls with
      | nil =>
        have hp' : fs.Perm xs := by rw [List.append_nil] at hp; exact hp
        exact ⟨.ref f, rfl, k f fs H2 hp' D2 x3 hf0 (off_of ef2 nf.1 nf.2.1)⟩
      | cons y r =>
        refine iteT ?_
        refine ⟨.ref f, rfl, .inl ⟨rfl, _, Evl.sq_of ef2⟩, .ref l, rfl, .inl ⟨rfl, _, Evl.sq_of el2⟩, .ref d, rfl, .ref l, rfl, .ref l, (y :: r).length, rfl, .inl ⟨_, Evl.sq_of el2, rfl⟩, ?_⟩
        refine ⟨d, g, c, ((y :: r).length : Int), rfl, by simp, by omega, D2, fun j H3 j0 j1 D3 x4 => ?_⟩
        have el3 : H3 l = some (.lst (y :: r)) := (ex_off d g H3) _ _ (x4 _ _ (off_of el2 nl.1 nl.2.1))
        have ef3 : H3 f = some (.lst fs) := (ex_off d g H3) _ _ (x4 _ _ (off_of ef2 nf.1 nf.2.1))
        have hj : j.toNat < (y :: r).length := by omega
        have ej : (y :: r)[j.toNat]? = some (y :: r)[j.toNat] := List.getElem?_eq_getElem hj
        refine ⟨l, y :: r, j, j.toNat, (y :: r)[j.toNat], rfl, rfl, el3, by omega, by omega, ?_, ej, ?_⟩
        · unfold seqIndex?
          rw [if_neg (by omega : ¬ j < 0)]
          have hb : (decide (0 ≤ j) && decide (j < ((y :: r).length : Nat))) = true := by
            rw [decide_eq_true j0, decide_eq_true (by omega)]
            rfl
          show (if (decide (0 ≤ j) && decide (j < ((y :: r).length : Nat))) = true then some j.toNat else none) = some j.toNat
          rw [if_pos hb]
        · have ef4 : (upd H3 l (.lst ((y :: r).eraseIdx j.toNat))) f = some (.lst fs) := by rw [upd_ne hlf]; exact ef3
          refine ⟨f, fs, (y :: r)[j.toNat], rfl, rfl, ef4, small1000 (by omega), ?_⟩
          refine ⟨⟨rfl, (y :: r).eraseIdx j.toNat, fs ++ [(y :: r)[j.toNat]], by rw [upd_ne hlf.symm]; exact upd_same, upd_same, ?_, ?_, ?_⟩, ?_⟩
          · rw [List.append_assoc]
            exact ((perm_erase (y :: r) j.toNat _ ej).append_left fs).trans hp
          · exact (D3.mut nl.1 nl.2.1 nl.2.2).mut nf.1 nf.2.1 nf.2.2
          · have x5 : Evl.Ex (off d g H) (off d g H3) := x3.trans x4
            exact off_mut (off_mut x5 (off_free hl0)) (off_free hf0)
          · show (match (upd (upd H3 l (.lst ((y :: r).eraseIdx j.toNat))) f (.lst (fs ++ [(y :: r)[j.toNat]]))) l with | some (.lst ls) => ls.length | _ => 0) < (match H1 l with | some (.lst ls) => ls.length | _ => 0)
            rw [upd_ne hlf.symm, upd_same, el]
            show ((y :: r).eraseIdx j.toNat).length < (y :: r).length
            rw [List.length_eraseIdx, if_pos hj]
            simp
    · intro σ H1 Q1 Q2 hq h
      obtain ⟨v, hv, hz, hk⟩ := h
      refine ⟨v, hv, hz, fun p hp => ?_⟩
      obtain ⟨d1, e1, a1, a2, a3, a4, k1, ek, q⟩ := hk p hp
      exact ⟨d1, e1, a1, a2, a3, a4, k1, ek, hq _ _ q⟩
end
end Rw
end T_B2

section T_B3
set_option Elab.async false
set_option linter.all false
set_option maxRecDepth 100000
set_option maxHeartbeats 4000000
namespace Rw
open PySem L2 PyProof.Rows
section
variable {P : Program} {w : World} {K : PySem.W.Frag} {mg : Str → Option Value} {base : Heap}
abbrev nWords : List Str := ["draw", "count", "letters", "found", "some", "k", "word", "span", "near", "j", "letter", "uno"]
theorem sc_words : FnScope nWords ["draw", "count"] (defScope s_words) := ⟨rfl, rfl, rfl, by decide +kernel, rfl, by decide +kernel, by decide +kernel⟩
theorem ok_words {f fT fP : Addr} {fd fdT fdP : FuncData} (F : Fun K "_law_words" "_law_words" s_words f fd)
    (T : FnOk P w K mg base CX0 2 fT fdT ["draw", "size"] spTake) (kT : PySem.W.keepIn K (.ref fT) = true) (bT : Binds K fdT ["draw", "size"] []) (gT : mg "_law_take" = some (.ref fT))
    (PL : FnOk P w K mg base CX0 3 fP fdP ["draw", "some"] (spPickL K)) (PS_ : FnOk P w K mg base CX0 3 fP fdP ["draw", "some"] spPickS) (kP : PySem.W.keepIn K (.ref fP) = true) (bP : Binds K fdP ["draw", "some"] []) (gP : mg "_law_pick" = some (.ref fP))
    (mRange : mg "range" = none) :
    FnOk P w K mg base CX0 4 f fd ["draw", "count"] (spWords K) := by
  refine F.ok sc_words (fun vs H Q E h => ?_) (fun cdv A outer s H vs Q E hr h => ?_)
  · obtain ⟨d, g, c, n, rfl, _⟩ := h
    rfl
  · obtain ⟨d, g, c, n, rfl, D, hn, k⟩ := h
    have nd := sc_words.nd
    have hr2 : Room 2 _ := hr.mono (by decide)
    refine ⟨_, pss_cons (ps_asg (pe_tup (pa_cons pe_str (pa_cons (pe_lst pa_nil) pa_nil))) (pg_tup rfl (pgs_cons (pg_name (i := 2) nd rfl (.inr rfl)) (pgs_cons (pg_name (i := 3) nd rfl (.inr rfl)) pgs_nil))))
      (pss_cons (ps_set (i := 4) nd rfl (.inl rfl) (pe_lst (pa_cons pe_str (pa_cons pe_str (pa_cons pe_str (pa_cons pe_str (pa_cons pe_str (pa_cons pe_str (pa_cons pe_str (pa_cons pe_str (pa_cons pe_str (pa_cons pe_str pa_nil))))))))))))
      (pss_cons (ps_for PassesOwn.never rfl (pi_range1 (by rfl) mRange (pa_cons (pv 1) pa_nil)) (pg_name (i := 5) nd rfl (.inl rfl))
        (pss_cons (ps_set (i := 6) nd rfl (.inr rfl) (pe_call PL hr rfl gP kP bP .nil pass0 (pa_cons (pv 0) (pa_cons (pv 4) pa_nil))))
        (C8.pss_cut (ps_if (pt_cmpR op_gt (pe_call T hr2 rfl gT kT bT .nil pass0 (pa_cons (pv 0) (pa_cons pe_int pa_nil))) pe_int (nomark _))
          (pss_cons (ps_set (i := 7) nd rfl (.inl rfl) (pe_op op_add pe_int (pe_call T hr2 rfl gT kT bT .nil pass0 (pa_cons (pv 0) (pa_cons (pe_call PL hr rfl gP kP bP .nil pass0 (pa_cons (pv 0) (pa_cons (pe_lst (pa_cons pe_int (pa_cons pe_int (pa_cons pe_int pa_nil)))) pa_nil))) pa_nil)))))
          (pss_one (ps_set (i := 6) nd rfl (.inr rfl) (pe_join pe_str
            (pe_lc (own := [("j", 9)]) (g := gName 9) (tt := tYes) rfl nd (pi_range1 (by rfl) mRange (pa_cons (pv 7) pa_nil)) (blkOk_by (own := [("j", 9)]) (N := nWords) (sc := defScope s_words) (by decide +kernel))
              (fun _ _ _ _ _ => pg_name (i := 9) nd rfl (Or.inl rfl)) (fun _ _ _ _ _ => pts_nil) (fun _ _ _ _ _ => pe_call PS_ hr rfl gP kP bP .nil pass0 (pa_cons (pv 0) (pa_cons (pv 2) pa_nil)))))))) pss_nil)
        (pss_cons (ps_set (i := 8) nd rfl (.inl rfl) (pe_op op_cat (pe_lst (pa_cons (pv 6) pa_nil))
            (pe_lc (own := [("letter", 10)]) (g := gName 10) (tt := tYes) rfl nd (pi_str (pv 2)) (blkOk_by (own := [("letter", 10)]) (N := nWords) (sc := defScope s_words) (by decide +kernel))
              (fun _ _ _ _ _ => pg_name (i := 10) nd rfl (Or.inl rfl)) (fun _ _ _ _ _ => pts_nil) (fun _ _ _ _ _ => pe_op op_add_str (pe_slice sl_str (pv 6) po_none (po_some pe_int)) (pv 10)))))
        (pss_one (ps_expr (pe_bm PySem.F.plainAttrs_list PySem.F.slot_list_append PySem.F.type_list_append mt_append (pv 3)
          (pa_cons (pe_ix ix_list (pe_lc (own := [("uno", 11)]) (g := gName 11) (tt := tTest (tOp (rIn K true) (tVar 11) (tVar 3))) rfl nd (pi_list (pv 8)) (blkOk_by (own := [("uno", 11)]) (N := nWords) (sc := defScope s_words) (by decide +kernel))
              (fun _ _ _ _ _ => pg_name (i := 11) nd rfl (Or.inl rfl)) (fun _ _ _ _ _ => pts_one (pt_cmpR op_notIn_seq (pv 11) (pv 3) rfl)) (fun _ _ _ _ _ => pv 11)) pe_int (fun _ _ => rfl)) pa_nil))))))))
      (pss_one (ps_ret (pv 3))))), ?_⟩
    have hz26 : (Str.ofString "abcdefghijklmnopqrstuvwxyz") = z26 := rfl
    -- letters, found = ('..', [])
    refine ⟨Nat.zero_le _, fun f hf => ⟨by show 2 ≤ sizeLine; decide, fun t ht => ⟨t, _, rfl, Evl.st_of upd_same, rfl, _, _, rfl, _, [], rfl, rfl, ?_⟩⟩⟩
    -- some = [..]
    refine ⟨by show 10 ≤ sizeLine; decide, fun sm hsm => ?_⟩
    have nf := D.ned hf
    have D1 : DrawAt (upd (upd (upd H f (.lst [])) t (.tup [.str z26, .ref f])) sm (.lst (words10.map V.str))) d g c := ((D.new hf).new ht).new hsm
    have nsm := ((D.new hf).new ht).ned hsm
    have S0 : StW H (upd (upd (upd H f (.lst [])) t (.tup [.str z26, .ref f])) sm (.lst (words10.map V.str))) d g c f sm [] :=
      ⟨Evl.Ex.new hsm _ _ (Evl.Ex.new ht _ _ upd_same), off_of upd_same nsm.1 nsm.2.1, D1, ((off_ex (Evl.Ex.new hf)).trans (off_ex (Evl.Ex.new ht))).trans (off_ex (Evl.Ex.new hsm)), nf.1, nf.2.1, ne_of_none (Evl.Ex.new ht _ _ upd_same) hsm⟩
    -- for k in range(count)
    refine ⟨.int (n : Int), rfl, (n : Int), rfl, by omega, by omega, for_range (lo := 0) (n := (n : Int).toNat)
      (fun i σ H' => ∃ (x5 x6 x7 x8 : Option V) (zs : List Str), σ = [some (.ref d), some (.int (n : Int)), some (.str z26), some (.ref f), some (.ref sm), x5, x6, x7, x8, none, none, none] ∧ zs.length = i ∧ zs.Nodup ∧ (∀ z ∈ zs, Nm z) ∧ StW H H' d g c f sm zs)
      ⟨none, none, none, none, [], rfl, rfl, List.nodup_nil, (fun z hz => by cases hz), S0⟩ ?_ ?_⟩
    · rintro i σ H1 hi ⟨x5, x6, x7, x8, zs, rfl, hlen, hnd, hnm, S1⟩
      rw [Int.toNat_natCast] at hi
      -- word = _law_pick(draw, some)
      refine ⟨.ref d, rfl, .ref sm, rfl, d, g, c, sm, words10.map V.str, rfl, S1.dr, Evl.sq_of S1.hs, by decide, by decide, fun i1 v H2 hv D2 e2 => ?_⟩
      have S2 := S1.call D2 e2
      obtain ⟨w0, rfl, hw0⟩ : ∃ w0 : Str, v = V.str w0 ∧ Nm w0 := by
        obtain ⟨z, hz, e⟩ := List.mem_map.mp (List.mem_of_getElem? hv)
        exact ⟨z, e.symm, words10_nm z hz⟩
      -- if _law_take(draw, 3) > 0
      refine ⟨fun σ' H' => ∃ (x7 : Option V) (w1 : Str), Nm w1 ∧ σ' = [some (.ref d), some (.int (n : Int)), some (.str z26), some (.ref f), some (.ref sm), some (.int (0 + (i : Int))), some (.str w1), x7, x8, none, none, none] ∧ StW H H' d g c f sm zs, ?_, ?_⟩
      · refine ⟨.ref d, rfl, d, g, c, 3, rfl, by decide, by decide, D2, fun q H3 q0 q1 D3 e3 => ?_⟩
        have S3 := S2.call D3 e3
        refine ⟨q, 0, rfl, rfl, _, rfl, ite2 (fun _ => ?_) (fun _ => ⟨x7, w0, hw0, rfl, S3⟩)⟩
        -- span = 1 + ..
        refine ⟨.ref d, rfl, .ref d, rfl, by show 3 ≤ sizeLine; decide, fun l6 hl6 => ?_⟩
        have S4 := S3.new (o := .lst [.int 1, .int 2, .int 6]) hl6
        have n6 := S3.dr.ned hl6
        refine ⟨d, g, c, l6, [.int 1, .int 2, .int 6], rfl, S4.dr, Evl.sq_of (off_of upd_same n6.1 n6.2.1), by decide, by decide, fun i2 v2 H5 hv2 D5 e5 => ?_⟩
        have S5 := S4.call D5 e5
        obtain ⟨m, rfl, hm0, hm1⟩ : ∃ m : Int, v2 = .int m ∧ 0 < m ∧ m ≤ 6 := by
          match i2, hv2 with
          | 0, hv2 => exact ⟨_, (Option.some.inj hv2).symm, by decide, by decide⟩
          | 1, hv2 => exact ⟨_, (Option.some.inj hv2).symm, by decide, by decide⟩
          | 2, hv2 => exact ⟨_, (Option.some.inj hv2).symm, by decide, by decide⟩
          | n + 3, hv2 => exact absurd hv2 (by simp)
        refine ⟨d, g, c, m, rfl, hm0, by omega, D5, fun r H6 r0 r1 D6 e6 => ?_⟩
        have S6 := S5.call D6 e6
        refine ⟨1, r, rfl, rfl, ?_⟩
        -- word = ''.join([..])
        refine ⟨⟨_, rfl⟩, .int (1 + r), rfl, 1 + r, rfl, by omega, by omega, fun D hD => lc_range (lo := 0) (n := (1 + r).toNat)
          (fun j H' => ∃ cs : List Nat, cs.length = j ∧ (∀ x ∈ cs, 97 ≤ x ∧ x ≤ 122) ∧ H' D = some (.lst (cs.map fun x => V.str (SX.S [x]))) ∧ StW H H' d g c f sm zs) ⟨[], rfl, (fun x hx => by cases hx), upd_same, S6.new hD⟩ ?_ ?_⟩
        · rintro j H7 hj ⟨cs, hcl, hcs, hD7, S7⟩
          refine ⟨rfl, ?_⟩
          refine yes_if ?_
          refine ⟨.ref d, rfl, .str z26, rfl, d, g, c, z26, rfl, S7.dr, by decide +kernel, by decide +kernel, fun i3 ch H8 hch D8 e8 => ?_⟩
          have S8 := S7.call D8 e8
          have fD := S6.free hD
          have hD8 : H8 D = some (.lst (cs.map fun x => V.str (SX.S [x]))) := ex_off d g H8 _ _ (e8 _ _ (off_of hD7 fD.2.2.2.1 fD.2.2.2.2.1))
          refine ⟨_, hD8, by rw [List.length_map]; exact small1000 (by omega), cs ++ [ch], by simp [hcl], fun x hx => ?_, ?_, S8.mut fD.1 fD.2.1 fD.2.2.1 fD.2.2.2.1 fD.2.2.2.2.1 fD.2.2.2.2.2⟩
          · rcases List.mem_append.mp hx with hx | hx
            · exact hcs x hx
            · rw [List.mem_singleton.mp hx]
              have z := List.mem_of_getElem? hch
              rw [z26_eq] at z
              obtain ⟨y, hy, rfl⟩ := List.mem_map.mp z
              have := List.mem_range.mp hy
              omega
          · rw [upd_same, List.map_append]
            rfl
        · rintro H7 ⟨cs, hcl, hcs, hD7, S7⟩
          have el : (cs.map fun x => V.str (SX.S [x])) = (cs.map fun x => SX.S [x]).map V.str := by rw [List.map_map]; rfl
          rw [el] at hD7
          have hsum : ((cs.map fun x => SX.S [x]).map (·.length)).sum = cs.length := by
            clear hD7 el hcs hcl S7
            induction cs with
            | nil => rfl
            | cons x r ih =>
              show (SX.S [x]).length + ((r.map fun x => SX.S [x]).map (·.length)).sum = r.length + 1
              rw [ih, SX.S_len]
              show 1 + r.length = r.length + 1
              omega
          refine ⟨_, D, cs.map fun x => SX.S [x], rfl, rfl, .inl (Evl.sq_of hD7), ?_, ?_⟩
          · rw [hsum, List.length_map]
            show cs.length + cs.length * 0 ≤ 16777216
            omega
          · rw [show Txt.join (Str.ofString "") (cs.map fun x => SX.S [x]) = SX.S cs from join_signs cs]
            exact ⟨_, SX.S cs, ⟨cs, rfl, by omega, by omega, hcs⟩, rfl, S7⟩
      · rintro σ' H3 ⟨x7', w1, ⟨lw, rfl, hw1, hw2, hw3⟩, rfl, S3⟩
        have lenw : (SX.S lw).length ≤ 6 := by rw [SX.S_len]; exact hw2
        -- near = [word] + [..]
        refine ⟨.str (SX.S lw), rfl, by show 1 ≤ sizeLine; decide, fun q hq => ?_⟩
        have S4 := S3.new (o := .lst [.str (SX.S lw)]) hq
        have hq4 : (upd H3 q (.lst [.str (SX.S lw)])) q = some (.lst [.str (SX.S lw)]) := upd_same
        generalize upd H3 q (.lst [.str (SX.S lw)]) = H4 at S4 hq4
        refine ⟨.str z26, rfl, z26, rfl, fun D hD => lc_it walk_str (fun j H' => H' = upd H4 D (.lst ((((List.range 26).take j).map fun k => SX.S (lw.take 5 ++ [97 + k])).map V.str))) rfl (fun _ _ _ _ => trivial) ?_ ?_⟩
        · rintro j x H5 H5' hj rfl ⟨rfl, ch, hch, rfl⟩
          refine ⟨rfl, ?_⟩
          refine yes_if ?_
          have hj' : j < 26 := hj
          have ech : ch = 97 + j := by
            have z : z26.cps.toList[j]? = some ch := by rw [Array.getElem?_toList]; exact hch
            rw [z26_eq, List.getElem?_map, List.getElem?_range hj'] at z
            exact (Option.some.inj z).symm
          subst ech
          refine ⟨.str (SX.S lw), rfl, 5, rfl, SX.S lw, rfl, Nat.le_of_lt (small1000 (by omega)), .str (SX.S [97 + j]), rfl, cutS (SX.S lw) none (some 5), SX.S [97 + j], rfl, rfl, ?_, ?_⟩
          · rw [cut5, SX.S_len, SX.S_len, List.length_take]
            show min 5 lw.length + 1 ≤ sizeLine
            exact Nat.le_of_lt (small1000 (by omega))
          · rw [cut5, SX.S_cat]
            refine ⟨_, upd_same, ?_, ?_⟩
            · rw [List.length_map, List.length_map, List.length_take, List.length_range]
              exact small1000 (by omega)
            · show upd (upd H4 D _) D _ = _
              rw [upd_upd, List.take_add_one (i := j) (l := List.range 26), List.getElem?_range hj', List.map_append, List.map_append]
              rfl
        · rintro H5 rfl
          have hDq : q ≠ D := ne_of_none hq4 hD
          have S5 := S4.new (o := .lst ((((List.range 26).take z26.cps.size).map fun k => SX.S (lw.take 5 ++ [97 + k])).map V.str)) hD
          refine ⟨q, D, _, _, rfl, rfl, by rw [upd_ne hDq]; exact hq4, upd_same, ?_, fun p hp => ?_⟩
          · rw [List.length_map, List.length_map, List.length_take, List.length_range]
            show 1 + min z26.cps.size 26 ≤ sizeLine
            exact Nat.le_of_lt (small1000 (by omega))
          · have en : ([V.str (SX.S lw)] ++ (((List.range 26).take z26.cps.size).map fun k => SX.S (lw.take 5 ++ [97 + k])).map V.str) = (near lw).map V.str := by
              rw [show z26.cps.size = 26 by decide +kernel, show (List.range 26).take 26 = List.range 26 by decide]
              rfl
            rw [en]
            have S6 := S5.new (o := .lst ((near lw).map V.str)) hp
            have hp6 : (upd (upd H4 D (.lst ((((List.range 26).take z26.cps.size).map fun k => SX.S (lw.take 5 ++ [97 + k])).map V.str))) p (.lst ((near lw).map V.str))) p = some (.lst ((near lw).map V.str)) := upd_same
            generalize upd (upd H4 D (.lst ((((List.range 26).take z26.cps.size).map fun k => SX.S (lw.take 5 ++ [97 + k])).map V.str))) p (.lst ((near lw).map V.str)) = H6 at S6 hp6
            -- found.append([..][0])
            refine ⟨.ref f, rfl, .inl ⟨rfl, _, Evl.sq_of S6.hf⟩, .ref p, rfl, p, rfl, ⟨_, Evl.sq_of hp6⟩, fun D2 hD2 => lc_list (K := K) (a := p) (xs := (near lw).map V.str)
              (fun j H' => H' = upd H6 D2 (.lst ((((near lw).take j).filter fun z => decide (z ∉ zs)).map V.str))) rfl (fun j H' _ h => by rw [h]; exact Evl.ex_l (Evl.Ex.new hD2) (Evl.sq_of hp6)) ?_ ?_⟩
            · rintro j x H7 hj rfl
              obtain ⟨z, hz, rfl⟩ : ∃ z, (near lw)[j]? = some z ∧ x = V.str z := by
                rw [List.getElem?_map] at hj
                cases e : (near lw)[j]? with
                | none => rw [e] at hj; cases hj
                | some z => rw [e] at hj; exact ⟨z, rfl, (Option.some.inj hj).symm⟩
              have hjl : j < (near lw).length := (List.getElem?_eq_some_iff.mp hz).1
              have hnl : (near lw).length = 27 := by simp [near]
              refine ⟨rfl, _, rfl, .ref f, rfl, f, _, rfl, .inl (Evl.ex_l (Evl.Ex.new hD2) (Evl.sq_of S6.hf)), rfl, flat_strs zs, _, rfl, ?_⟩
              rw [inV_str]
              have etake : (near lw).take (j + 1) = (near lw).take j ++ [z] := by rw [List.take_add_one, hz]; rfl
              by_cases hin : z ∈ zs
              · rw [decide_eq_true hin]
                show upd H6 D2 _ = _
                rw [etake, List.filter_append, List.filter_cons_of_neg (by simp [hin]), List.filter_nil, List.append_nil]
              · rw [decide_eq_false hin]
                refine ⟨_, rfl, _, upd_same, ?_, ?_⟩
                · rw [List.length_map]
                  refine small1000 (Nat.le_trans (List.length_filter_le _ _) ?_)
                  rw [List.length_take]
                  omega
                · show upd (upd H6 D2 _) D2 _ = _
                  rw [upd_upd, etake, List.filter_append, List.filter_cons_of_pos (by simp [hin]), List.filter_nil, List.map_append]
                  rfl
            · rintro H7 rfl
              rw [List.length_map, List.take_length]
              obtain ⟨z, rest, ez⟩ := near_some lw zs (by omega)
              rw [ez]
              have hzm : z ∈ (near lw).filter fun z => decide (z ∉ zs) := by rw [ez]; exact List.mem_cons_self
              have hz1 := List.mem_filter.mp hzm
              have S7 := S6.new (o := .lst ((z :: rest).map V.str)) hD2
              refine ⟨D2, _, 0, .str z, rfl, rfl, Evl.sq_of upd_same, atI_nat (j := 0) rfl, f, _, .str z, rfl, rfl, S7.hf, ?_, ?_⟩
              · rw [List.length_map]
                exact small1000 (by omega)
              · have nf2 := nf
                have nfs : f ≠ sm := S7.n3
                refine ⟨_, _, _, _, zs ++ [z], rfl, by simp [hlen], ?_, fun y hy => ?_, ?_⟩
                · exact List.nodup_append.mpr ⟨hnd, (by simp), fun a ha b hb e => of_decide_eq_true hz1.2 (List.mem_singleton.mp hb ▸ e ▸ ha)⟩
                · rcases List.mem_append.mp hy with hy | hy
                  · exact hnm y hy
                  · rw [List.mem_singleton.mp hy]
                    exact near_nm hw1 hw2 hw3 z hz1.1
                · have hs7 := off_some S7.hs
                  refine ⟨by rw [upd_same, List.map_append]; rfl, off_of (by rw [upd_ne nfs.symm]; exact hs7.2.2) hs7.1 hs7.2.1, S7.dr.mut nf2.1 nf2.2.1 nf2.2.2, off_mut S7.ex (off_free hf), S7.n1, S7.n2, S7.n3⟩
    · rintro σ H1 ⟨x5, x6, x7, x8, zs, rfl, hlen, hnd, hnm, S1⟩
      rw [Int.toNat_natCast] at hlen
      exact ⟨.ref f, rfl, k f zs H1 hlen hnd hnm S1.dr S1.ex hf (off_of S1.hf S1.n1 S1.n2)⟩
end
end Rw
end T_B3

section T_B4
set_option Elab.async false
set_option linter.all false
set_option maxRecDepth 100000
set_option maxHeartbeats 4000000
namespace Rw
open PySem L2 PyProof.Rows
section
variable {P : Program} {w : World} {K : PySem.W.Frag} {mg : Str → Option Value} {base : Heap}
theorem sc_tree : FnScope ["draw", "some", "end", "found", "ahead", "dot"] ["draw", "some", "end"] (defScope s_tree) := ⟨rfl, rfl, rfl, by decide +kernel, rfl, by decide +kernel, by decide +kernel⟩
theorem ok_tree {f fM fP : Addr} {fd fdM fdP : FuncData} (F : Fun K "_law_tree" "_law_tree" s_tree f fd)
    (M : FnOk P w K mg base CX0 3 fM fdM ["draw", "some"] (spMixed K)) (kM : PySem.W.keepIn K (.ref fM) = true) (bM : Binds K fdM ["draw", "some"] []) (gM : mg "_law_mixed" = some (.ref fM))
    (PL : FnOk P w K mg base CX0 3 fP fdP ["draw", "some"] (spPickL K)) (kP : PySem.W.keepIn K (.ref fP) = true) (bP : Binds K fdP ["draw", "some"] []) (gP : mg "_law_pick" = some (.ref fP)) :
    FnOk P w K mg base CX0 4 f fd ["draw", "some", "end"] (spTab K) := by
  refine F.ok sc_tree (fun vs H Q E h => ?_) (fun cdv A outer s H vs Q E hr h => ?_)
  · obtain ⟨d, g, c, a, zs, e, rfl, _⟩ := h
    rfl
  · obtain ⟨d, g, c, a, zs, e, rfl, D, hS, hnd, hnm, he, hez, hzl, k⟩ := h
    have nd := sc_tree.nd
    have hu := hu_of hr
    refine ⟨_, pss_cons (ps_par (i := 3) (j := 4) (by rfl) nd rfl rfl (by decide) rfl rfl (pa_cons pe_dnewK (pa_cons (pe_lst (pa_cons (pv 2) pa_nil)) pa_nil)) (by rfl))
      (pss_cons (ps_for PassesOwn.never rfl (pi_list (pe_call M hr rfl gM kM bM .nil pass0 (pa_cons (pv 0) (pa_cons (pv 1) pa_nil)))) (pg_name (i := 5) nd rfl (.inl rfl))
        (pss_cons (ps_dput hu (pv 3) (pv 5) (pe_call PL hr rfl gP kP bP .nil pass0 (pa_cons (pv 0) (pa_cons (pv 4) pa_nil))) rfl)
        (pss_one (ps_expr (pe_bm PySem.F.plainAttrs_list PySem.F.slot_list_append PySem.F.type_list_append mt_append (pv 4) (pa_cons (pv 5) pa_nil))))))
      (pss_one (ps_ret (pv 3)))), ?_⟩
    -- found, ahead = ({}, [end])
    refine fun fd0 hfd => ⟨.str e, rfl, by show 1 ≤ sizeLine; decide, fun ah hah => ⟨_, _, rfl, ?_⟩⟩
    have nfd := D.ned hfd
    have nah := (D.new hfd).ned hah
    have hah0 : H ah = none := by
      by_cases z : ah = fd0
      · rw [z, upd_same] at hah; cases hah
      · rw [upd_ne z] at hah; exact hah
    have nfa : fd0 ≠ ah := ne_of_none upd_same hah
    have D1 : DrawAt (upd (upd H fd0 (.dK [])) ah (.lst [.str e])) d g c := (D.new hfd).new hah
    have x1 : Evl.Ex (off d g H) (off d g (upd (upd H fd0 (.dK [])) ah (.lst [.str e]))) := (off_ex (Evl.Ex.new hfd)).trans (off_ex (Evl.Ex.new hah))
    have e1 : (upd (upd H fd0 (.dK [])) ah (.lst [.str e])) fd0 = some (.dK (tkv [])) := by rw [upd_ne nfa, upd_same]; rfl
    have e2 : (upd (upd H fd0 (.dK [])) ah (.lst [.str e])) ah = some (.lst ([e].map V.str)) := upd_same
    have free1 : ∀ p, (upd (upd H fd0 (.dK [])) ah (.lst [.str e])) p = none → p ≠ fd0 ∧ p ≠ ah := fun p hp => ⟨(ne_of_none e1 hp).symm, (ne_of_none e2 hp).symm⟩
    generalize upd (upd H fd0 (.dK [])) ah (.lst [.str e]) = H1 at D1 x1 e1 e2 free1
    -- for dot in _law_mixed(draw, some)
    refine ⟨.ref d, rfl, .ref a, rfl, d, g, c, a, zs.map V.str, rfl, D1, .inl (Evl.ex_l x1 hS), by rw [List.length_map]; omega, fun v hv => ?_, fun ml ys H2 hperm D2 x2 hml0 hml => ?_⟩
    · obtain ⟨z, hz, rfl⟩ := List.mem_map.mp hv
      exact nm_data (hnm z hz)
    obtain ⟨ws, rfl, hws⟩ : ∃ ws : List Str, ys = ws.map V.str ∧ ws.Perm zs := by
      have h1 : ∀ y ∈ ys, ∃ z : Str, y = V.str z := fun y hy => by
        obtain ⟨z, _, e⟩ := List.mem_map.mp (hperm.subset hy)
        exact ⟨z, e.symm⟩
      have h2 : ∀ l : List V, (∀ y ∈ l, ∃ z : Str, y = V.str z) → ∃ ws : List Str, l = ws.map V.str := fun l => by
        induction l with
        | nil => intro _; exact ⟨[], rfl⟩
        | cons y r ih =>
          intro h
          obtain ⟨z, rfl⟩ := h y List.mem_cons_self
          obtain ⟨ws, rfl⟩ := ih fun u hu => h u (List.mem_cons_of_mem _ hu)
          exact ⟨z :: ws, rfl⟩
      obtain ⟨ws, rfl⟩ := h2 ys h1
      refine ⟨ws, rfl, ?_⟩
      have := hperm.map fun v : V => match v with | .str z => z | _ => Str.empty
      rw [List.map_map, List.map_map] at this
      have i1 : ((fun v : V => match v with | .str z => z | _ => Str.empty) ∘ V.str) = id := rfl
      rw [i1, List.map_id, List.map_id] at this
      exact this
    have e3 : H2 fd0 = some (.dK (tkv [])) := ex_off d g H2 _ _ (x2 _ _ (off_of e1 nfd.1 nfd.2.1))
    have e4 : H2 ah = some (.lst ([e].map V.str)) := ex_off d g H2 _ _ (x2 _ _ (off_of e2 nah.1 nah.2.1))
    have nml := free1 ml hml0
    have hml' := off_some hml
    refine ⟨ml, rfl, ⟨_, Evl.sq_of hml'.2.2⟩, for_list (K := K) (a := ml) (xs := ws.map V.str)
      (fun i σ H' => ∃ (x5 : Option V) (tb : List (Str × V)), σ = [some (.ref d), some (.ref a), some (.str e), some (.ref fd0), some (.ref ah), x5] ∧ tb.map (·.1) = ws.take i ∧ (∀ q ∈ tb, PlaceOk zs e q.1 q.2) ∧
        H' fd0 = some (.dK (tkv tb)) ∧ H' ah = some (.lst ((e :: ws.take i).map V.str)) ∧ H' ml = some (.lst (ws.map V.str)) ∧ DrawAt H' d g c ∧ Evl.Ex (off d g H) (off d g H'))
      ⟨none, [], rfl, rfl, (fun q hq => by cases hq), e3, e4, hml'.2.2, D2, x1.trans x2⟩ (fun i σ H' _ ⟨_, _, _, _, _, _, _, h, _⟩ => Evl.sq_of h) ?_ ?_⟩
    · rintro i y σ H3 hi ⟨x5, tb, rfl, hk, hps, f1, f2, f3, D3, x3⟩
      obtain ⟨z, hz, rfl⟩ : ∃ z, ws[i]? = some z ∧ y = V.str z := by
        rw [List.getElem?_map] at hi
        cases e : ws[i]? with
        | none => rw [e] at hi; cases hi
        | some z => rw [e] at hi; exact ⟨z, rfl, (Option.some.inj hi).symm⟩
      have wnd : ws.Nodup := hws.nodup_iff.mpr hnd
      have hil : i < ws.length := (List.getElem?_eq_some_iff.mp hz).1
      have wl : ws.length ≤ 10 := by rw [hws.length_eq]; exact hzl
      have etake : ws.take (i + 1) = ws.take i ++ [z] := by rw [List.take_add_one, hz]; rfl
      have hzn : z ∉ ws.take i := fun hm => by
        have h1 : (ws.take (i + 1)).Nodup := wnd.sublist (List.take_sublist _ _)
        rw [etake] at h1
        exact (List.nodup_append.mp h1).2.2 z hm z (List.mem_singleton.mpr rfl) rfl
      have hzz : z ∈ zs := hws.subset (List.mem_of_getElem? hz)
      -- found[dot] = _law_pick(draw, ahead)
      refine ⟨.ref d, rfl, .ref ah, rfl, d, g, c, ah, (e :: ws.take i).map V.str, rfl, D3, Evl.sq_of (off_of f2 nah.1 nah.2.1), by simp, ?_, fun j v H4 hv D4 x4 => ?_⟩
      · rw [List.length_map, List.length_cons, List.length_take]
        omega
      have hpl : PlaceOk zs e z v := by
        obtain ⟨u, hu1, rfl⟩ := List.mem_map.mp (List.mem_of_getElem? hv)
        rcases List.mem_cons.mp hu1 with rfl | hu1
        · exact .inr (.inl rfl)
        · exact .inr (.inr ⟨u, hws.subset (List.mem_of_mem_take hu1), fun q => hzn (q ▸ hu1), rfl⟩)
      have g1 : H4 fd0 = some (.dK (tkv tb)) := ex_off d g H4 _ _ (x4 _ _ (off_of f1 nfd.1 nfd.2.1))
      have g2 : H4 ah = some (.lst ((e :: ws.take i).map V.str)) := ex_off d g H4 _ _ (x4 _ _ (off_of f2 nah.1 nah.2.1))
      have g3 : H4 ml = some (.lst (ws.map V.str)) := ex_off d g H4 _ _ (x4 _ _ (off_of f3 hml'.1 hml'.2.1))
      have tlen : tb.length ≤ 10 := by
        have := congrArg List.length hk
        rw [List.length_map, List.length_take] at this
        omega
      refine ⟨.ref fd0, rfl, .str z, rfl, fd0, _, rfl, DPut.k (k := Sum.inr z) g1 (by rw [tkv_len]; exact small1000 (by omega)), ?_⟩
      rw [tkv_new (by rw [hk]; exact hzn)]
      -- ahead.append(dot)
      have g2' : (upd H4 fd0 (.dK (tkv (tb ++ [(z, v)])))) ah = some (.lst ((e :: ws.take i).map V.str)) := by rw [upd_ne nfa.symm]; exact g2
      refine ⟨.ref ah, rfl, .inl ⟨rfl, _, Evl.sq_of g2'⟩, .str z, rfl, ah, _, .str z, rfl, rfl, g2', ?_, ?_⟩
      · rw [List.length_map, List.length_cons, List.length_take]
        exact small1000 (by omega)
      · refine ⟨_, tb ++ [(z, v)], rfl, ?_, ?_, ?_, ?_, ?_, (D4.mut nfd.1 nfd.2.1 nfd.2.2).mut nah.1 nah.2.1 nah.2.2, off_mut (off_mut (x3.trans x4) (off_free hfd)) (off_free hah0)⟩
        · rw [List.map_append, hk, etake]
          rfl
        · intro q hq
          rcases List.mem_append.mp hq with hq | hq
          · exact hps q hq
          · rw [List.mem_singleton.mp hq]
            exact hpl
        · rw [upd_ne nfa, upd_same]
        · rw [upd_same, etake]
          show some (HO.lst ((e :: ws.take i).map V.str ++ [V.str z])) = some (HO.lst ((e :: (ws.take i ++ [z])).map V.str))
          rw [← List.cons_append, List.map_append]
          rfl
        · rw [upd_ne nml.2, upd_ne nml.1]
          exact g3
    · rintro σ H3 ⟨x5, tb, rfl, hk, hps, f1, f2, f3, D3, x3⟩
      rw [List.length_map, List.take_length] at hk
      exact ⟨.ref fd0, rfl, k fd0 tb H3 ⟨by rw [hk]; exact hws, hps⟩ D3 x3 hfd (off_of f1 nfd.1 nfd.2.1)⟩
end
end Rw
end T_B4

section T_B5
set_option Elab.async false
set_option linter.all false
set_option maxRecDepth 100000
set_option maxHeartbeats 4000000
namespace Rw
open PySem L2 PyProof.Rows
section
variable {P : Program} {w : World} {K : PySem.W.Frag} {mg : Str → Option Value} {base : Heap}
abbrev nPath : List Str := ["draw", "some", "end", "row", "k", "dot"]
theorem sc_path : FnScope nPath ["draw", "some", "end"] (defScope s_path) := ⟨rfl, rfl, rfl, by decide +kernel, rfl, by decide +kernel, by decide +kernel⟩
theorem ok_path {f fM : Addr} {fd fdM : FuncData} (F : Fun K "_law_path" "_law_path" s_path f fd)
    (M : FnOk P w K mg base CX0 3 fM fdM ["draw", "some"] (spMixed K)) (kM : PySem.W.keepIn K (.ref fM) = true) (bM : Binds K fdM ["draw", "some"] []) (gM : mg "_law_mixed" = some (.ref fM))
    (mEnum : mg "enumerate" = none) (mDict : mg "dict" = none) :
    FnOk P w K mg base CX0 4 f fd ["draw", "some", "end"] (spTab K) := by
  refine F.ok sc_path (fun vs H Q E h => ?_) (fun cdv A outer s H vs Q E hr h => ?_)
  · obtain ⟨d, g, c, a, zs, e, rfl, _⟩ := h
    rfl
  · obtain ⟨d, g, c, a, zs, e, rfl, D, hS, hnd, hnm, he, hez, hzl, k⟩ := h
    have nd := sc_path.nd
    have hu := hu_of hr
    refine ⟨_, pss_cons (ps_set (i := 3) nd rfl (.inr rfl) (pe_op op_cat (pe_call M hr rfl gM kM bM .nil pass0 (pa_cons (pv 0) (pa_cons (pv 1) pa_nil))) (pe_lst (pa_cons (pv 2) pa_nil))))
      (pss_one (ps_ret (pe_callTy (call_dictP rfl) (by rfl) mDict (by decide +kernel) (pa_cons
        (pe_lc (own := [("k", 4), ("dot", 5)]) (g := gTup K 2 (gCons (gName 4) (gCons (gName 5) gNil))) (tt := tYes) (te := tTup (tCons (tVar 5) (tCons (tOp (rIxL K) (tVar 3) (tOp (rI0 fun i j => .int (i + j)) (tVar 4) (tC (.int 1)))) tNil))) rfl nd
          (pi_enum (by rfl) mEnum (pa_cons (pe_slice sl_list (pv 3) po_none (po_some (pe_un un_neg pe_int))) pa_nil)) (blkOk_by (own := [("k", 4), ("dot", 5)]) (N := nPath) (sc := defScope s_path) (by decide +kernel))
          (fun _ _ _ _ _ => pg_tup rfl (pgs_cons (pg_name (i := 4) nd rfl (Or.inl rfl)) (pgs_cons (pg_name (i := 5) nd rfl (Or.inl rfl)) pgs_nil))) (fun _ _ _ _ _ => pts_nil)
          (fun _ _ _ _ _ => pe_tup (pa_cons (pv 5) (pa_cons (pe_ix ix_list (pv 3) (pe_op op_add (pv 4) pe_int) (fun _ _ => rfl)) pa_nil)))) pa_nil)))), ?_⟩
    -- row = _law_mixed(draw, some) + [end]
    refine ⟨.ref d, rfl, .ref a, rfl, d, g, c, a, zs.map V.str, rfl, D, .inl hS, by rw [List.length_map]; omega, fun v hv => ?_, fun ml ys H2 hperm D2 x2 hml0 hml => ?_⟩
    · obtain ⟨z, hz, rfl⟩ := List.mem_map.mp hv
      exact nm_data (hnm z hz)
    obtain ⟨ws, rfl, hws⟩ := perm_strs hperm
    have wl : ws.length ≤ 10 := by rw [hws.length_eq]; exact hzl
    have hml' := off_some hml
    refine ⟨.str e, rfl, by show 1 ≤ sizeLine; decide, fun q hq => ?_⟩
    have nqm : ml ≠ q := ne_of_none hml'.2.2 hq
    refine ⟨ml, q, ws.map V.str, [.str e], rfl, rfl, by rw [upd_ne nqm]; exact hml'.2.2, upd_same, ?_, fun r hr0 => ?_⟩
    · rw [List.length_map]
      exact Nat.le_of_lt (small1000 (by show ws.length + 1 ≤ 1000; omega))
    have D3 : DrawAt (upd (upd H2 q (.lst [.str e])) r (.lst (ws.map V.str ++ [.str e]))) d g c := (D2.new hq).new hr0
    have x3 : Evl.Ex (off d g H) (off d g (upd (upd H2 q (.lst [.str e])) r (.lst (ws.map V.str ++ [.str e])))) := (x2.trans (off_ex (Evl.Ex.new hq))).trans (off_ex (Evl.Ex.new hr0))
    have e3 : (upd (upd H2 q (.lst [.str e])) r (.lst (ws.map V.str ++ [.str e]))) r = some (.lst ((ws ++ [e]).map V.str)) := by rw [upd_same, List.map_append]; rfl
    generalize upd (upd H2 q (.lst [.str e])) r (.lst (ws.map V.str ++ [.str e])) = H3 at D3 x3 e3
    -- dict([(dot, row[k + 1]) ..])
    refine ⟨.ref r, rfl, 1, rfl, _, rfl, r, _, rfl, Evl.sq_of e3, fun cu hcu => ?_⟩
    have ecut : cutV ((ws ++ [e]).map V.str) none (some (-1)) = ws.map V.str := by
      rw [cut_last, List.map_append]
      exact List.dropLast_concat
    rw [ecut]
    have D4 : DrawAt (upd H3 cu (.lst (ws.map V.str))) d g c := D3.new hcu
    have x4 : Evl.Ex (off d g H) (off d g (upd H3 cu (.lst (ws.map V.str)))) := x3.trans (off_ex (Evl.Ex.new hcu))
    have e4 : (upd H3 cu (.lst (ws.map V.str))) r = some (.lst ((ws ++ [e]).map V.str)) := Evl.Ex.new hcu _ _ e3
    have ec : (upd H3 cu (.lst (ws.map V.str))) cu = some (.lst (ws.map V.str)) := upd_same
    generalize upd H3 cu (.lst (ws.map V.str)) = H4 at D4 x4 e4 ec
    have wnd : ws.Nodup := hws.nodup_iff.mpr hnd
    refine ⟨cu, _, rfl, Evl.sq_of ec, fun Dl hDl => lc_it walk_enum (fun j H' => Evl.Ex H4 H' ∧ ∃ ps : List Addr, ps.length = j ∧ H' Dl = some (.lst (ps.map V.ref)) ∧ Paired (fun p kv => H' p = some (.tup [kV kv.1, kv.2])) ps (tkv ((pathTab ws e).take j)))
      ⟨Evl.Ex.new hDl, [], rfl, upd_same, .nil⟩ (fun j H' _ h => Evl.sq_of (h.1 _ _ ec)) ?_ ?_⟩
    · rintro j x H5 H5' hj ⟨x5, ps, hpl, hD5, hp5⟩ ⟨T, y1, y2, rfl, hT, rfl, hy1, hy2⟩
      cases hy1
      obtain ⟨z, hz, rfl⟩ := str_at hy2
      have hjl : j < ws.length := (List.getElem?_eq_some_iff.mp hz).1
      obtain ⟨y, hy, hget⟩ := pathTab_get (e := e) hz
      refine ⟨T, _, rfl, Evl.st_of upd_same, rfl, _, _, rfl, _, [], rfl, rfl, rfl, ?_⟩
      refine yes_if ?_
      have x6 : Evl.Ex H5 (upd H5 T (.tup [.int (j : Int), .str z])) := Evl.Ex.new hT
      refine ⟨.str z, rfl, .ref r, rfl, .int (j : Int), rfl, (j : Int), 1, rfl, rfl, r, _, (j : Int) + 1, .str y, rfl, rfl, Evl.sq_of (x6 _ _ (x5 _ _ e4)), ?_, by show 2 ≤ sizeLine; decide, fun t ht => ?_⟩
      · have h1 : ((ws ++ [e]).map V.str)[j + 1]? = some (.str y) := by rw [List.getElem?_map, hy]; rfl
        have h2 := atI_nat h1
        rw [show ((j + 1 : Nat) : Int) = (j : Int) + 1 by omega] at h2
        exact h2
      · have x7 : Evl.Ex H5 (upd (upd H5 T (.tup [.int (j : Int), .str z])) t (.tup [.str z, .str y])) := x6.trans (Evl.Ex.new ht)
        have htD : t ≠ Dl := (ne_of_none (x6 _ _ hD5) ht).symm
        refine ⟨_, x7 _ _ hD5, by rw [List.length_map]; exact small1000 (by omega), (x5.trans x7).mut hDl, ps ++ [t], by simp [hpl], by rw [upd_same, List.map_append]; rfl, ?_⟩
        have etake : (pathTab ws e).take (j + 1) = (pathTab ws e).take j ++ [(z, .str y)] := by rw [List.take_add_one, hget]; rfl
        rw [etake]
        unfold tkv
        rw [List.map_append]
        have keep : ∀ (p : Addr) (kv : Key × V), H5 p = some (.tup [kV kv.1, kv.2]) → (upd (upd (upd H5 T (.tup [.int (j : Int), .str z])) t (.tup [.str z, .str y])) Dl (.lst (ps.map V.ref ++ [V.ref t]))) p = some (.tup [kV kv.1, kv.2]) := fun p kv hp => by
          rw [upd_ne (ne_of hp hD5 (by intro z; cases z))]
          exact x7 _ _ hp
        have last : (upd (upd (upd H5 T (.tup [.int (j : Int), .str z])) t (.tup [.str z, .str y])) Dl (.lst (ps.map V.ref ++ [V.ref t]))) t = some (.tup [.str z, .str y]) := by rw [upd_ne htD, upd_same]
        exact Paired.snoc (Paired.mapP hp5 keep) last
    · rintro H5 ⟨x5, ps, hpl, hD5, hp5⟩
      rw [List.length_map] at hp5
      rw [List.take_of_length_le (by rw [← List.length_map (f := (·.1)) , pathTab_keys]; exact Nat.le_refl _)] at hp5
      refine ⟨Dl, ps, tkv (pathTab ws e), rfl, Evl.sq_of hD5, Paired.mapP hp5 (fun p kv hp => Evl.st_of hp), fun p hp => ?_⟩
      rw [merge_tkv (by rw [pathTab_keys]; exact wnd)]
      have D6 : DrawAt (upd H5 p (.dK (tkv (pathTab ws e)))) d g c := (D4.ext x5).new hp
      have np := (D4.ext x5).ned hp
      have x6 : Evl.Ex (off d g H) (off d g (upd H5 p (.dK (tkv (pathTab ws e))))) := (x4.trans (off_ex x5)).trans (off_ex (Evl.Ex.new hp))
      refine k p (pathTab ws e) _ (pathTab_ok hws hnd) D6 x6 ?_ (off_of upd_same np.1 np.2.1)
      cases q : H p with
      | none => rfl
      | some o =>
        have := ex_off d g H5 _ _ ((x4.trans (off_ex x5)) _ _ (off_of q np.1 np.2.1))
        rw [hp] at this
        cases this
end
end Rw
end T_B5

section T_B6
set_option Elab.async false
set_option linter.all false
set_option maxRecDepth 100000
set_option maxHeartbeats 4000000
namespace Rw
open PySem L2 PyProof.Rows
section
variable {P : Program} {w : World} {K : PySem.W.Frag} {mg : Str → Option Value} {base : Heap}
abbrev nWild : List Str := ["draw", "some", "end", "found", "dot", "spots", "spot"]
theorem sc_wild : FnScope nWild ["draw", "some", "end"] (defScope s_wild) := ⟨rfl, rfl, rfl, by decide +kernel, rfl, by decide +kernel, by decide +kernel⟩
theorem ok_wild {f fP : Addr} {fd fdP : FuncData} (F : Fun K "_law_wild" "_law_wild" s_wild f fd)
    (PL : FnOk P w K mg base CX0 3 fP fdP ["draw", "some"] (spPickL K)) (kP : PySem.W.keepIn K (.ref fP) = true) (bP : Binds K fdP ["draw", "some"] []) (gP : mg "_law_pick" = some (.ref fP)) :
    FnOk P w K mg base CX0 4 f fd ["draw", "some", "end"] (spTab K) := by
  refine F.ok sc_wild (fun vs H Q E h => ?_) (fun cdv A outer s H vs Q E hr h => ?_)
  · obtain ⟨d, g, c, a, zs, e, rfl, _⟩ := h
    rfl
  · obtain ⟨d, g, c, a, zs, e, rfl, D, hS, hnd, hnm, he, hez, hzl, k⟩ := h
    have nd := sc_wild.nd
    have hu := hu_of hr
    refine ⟨_, pss_cons (ps_set (i := 3) nd rfl (.inl rfl) pe_dnewK)
      (pss_cons (ps_for PassesOwn.never rfl (pi_list (pv 1)) (pg_name (i := 4) nd rfl (.inr rfl))
        (pss_cons (ps_setLc (i := 5) (own := [("spot", 6)]) (g := gName 6) (tt := tTest (tOp rNe (tVar 6) (tVar 4))) (te := tVar 6) (by rfl) nd rfl rfl (sw_true rfl rfl rfl (by decide +kernel)) (pi_list (pv 1)) (blkOk_by (own := [("spot", 6)]) (N := nWild) (sc := defScope s_wild) (by decide +kernel))
            (fun _ _ _ _ _ => pg_name (i := 6) nd rfl (Or.inl rfl)) (fun _ _ _ _ _ => pts_one (pt_cmpR op_ne (pv 6) (pv 4) (nomark _))) (fun _ _ _ _ _ => pv 6))
        (pss_one (ps_dput hu (pv 3) (pv 4) (pe_call PL hr rfl gP kP bP .nil pass0 (pa_cons (pv 0) (pa_cons (pe_op op_cat (pe_op op_cat (pv 5) (pv 5)) (pe_lst (pa_cons (pv 2) (pa_cons (pv 2) (pa_cons pe_non pa_nil))))) pa_nil))) rfl))))
      (pss_one (ps_ret (pv 3)))), ?_⟩
    -- found = {}
    intro fd0 hfd
    have nfd := D.ned hfd
    have D1 : DrawAt (upd H fd0 (.dK [])) d g c := D.new hfd
    have x1 : Evl.Ex (off d g H) (off d g (upd H fd0 (.dK []))) := off_ex (Evl.Ex.new hfd)
    have e1 : (upd H fd0 (.dK [])) fd0 = some (.dK (tkv [])) := upd_same
    generalize upd H fd0 (.dK []) = H1 at D1 x1 e1
    -- for dot in some
    refine ⟨.ref a, rfl, a, rfl, ⟨_, Evl.ex_l (x1.trans (ex_off d g H1)) hS⟩, for_list (K := K) (a := a) (xs := zs.map V.str)
      (fun i σ H' => ∃ (x4 x5 : Option V) (tb : List (Str × V)), σ = [some (.ref d), some (.ref a), some (.str e), some (.ref fd0), x4, x5, none] ∧ tb.map (·.1) = zs.take i ∧ (∀ q ∈ tb, PlaceOk zs e q.1 q.2) ∧
        H' fd0 = some (.dK (tkv tb)) ∧ DrawAt H' d g c ∧ Evl.Ex (off d g H) (off d g H'))
      ⟨none, none, [], rfl, rfl, (fun q hq => by cases hq), e1, D1, x1⟩ (fun i σ H' _ ⟨_, _, _, _, _, _, _, _, h⟩ => Evl.ex_l (h.trans (ex_off d g H')) hS) ?_ ?_⟩
    · rintro i y σ H3 hi ⟨x4, x5, tb, rfl, hk, hps, f1, D3, x3⟩
      obtain ⟨z, hz, rfl⟩ := str_at hi
      have hil : i < zs.length := (List.getElem?_eq_some_iff.mp hz).1
      have etake : zs.take (i + 1) = zs.take i ++ [z] := by rw [List.take_add_one, hz]; rfl
      have hzn : z ∉ zs.take i := fun hm => by
        have h1 : (zs.take (i + 1)).Nodup := hnd.sublist (List.take_sublist _ _)
        rw [etake] at h1
        exact (List.nodup_append.mp h1).2.2 z hm z (List.mem_singleton.mpr rfl) rfl
      -- spots = [..]
      refine ⟨.ref a, rfl, a, rfl, ⟨_, Evl.ex_l (x3.trans (ex_off d g H3)) hS⟩, fun sp hsp => lc_list (K := K) (a := a) (xs := zs.map V.str)
        (fun j H' => H' = upd H3 sp (.lst (((zs.take j).filter fun y => decide (y ≠ z)).map V.str))) rfl (fun j H' _ h => by rw [h]; exact Evl.ex_l ((x3.trans (ex_off d g H3)).trans (Evl.Ex.new hsp)) hS) ?_ ?_⟩
      · rintro j x H4 hj rfl
        obtain ⟨y, hy, rfl⟩ := str_at hj
        have hjl : j < zs.length := (List.getElem?_eq_some_iff.mp hy).1
        have et : zs.take (j + 1) = zs.take j ++ [y] := by rw [List.take_add_one, hy]; rfl
        refine ⟨rfl, .str y, rfl, .str z, rfl, rfl, _, rfl, ?_⟩
        by_cases q : y = z
        · subst q
          refine iteNS rfl ?_
          show upd H3 sp _ = _
          rw [et, List.filter_append, List.filter_cons_of_neg (by simp), List.filter_nil, List.append_nil]
        · have hq : decide (V.str y = V.str z) = false := decide_eq_false fun w => q (V.str.inj w)
          rw [hq]
          refine iteT ?_
          refine ⟨.str y, rfl, _, upd_same, ?_, ?_⟩
          · rw [List.length_map]
            refine small1000 (Nat.le_trans (List.length_filter_le _ _) ?_)
            rw [List.length_take]
            omega
          · show upd (upd H3 sp _) sp _ = _
            rw [upd_upd, et, List.filter_append, List.filter_cons_of_pos (by simp [q]), List.filter_nil, List.map_append]
            rfl
      · rintro H4 rfl
        rw [List.length_map, List.take_length]
        have hfl : (zs.filter fun y => decide (y ≠ z)).length ≤ 10 := Nat.le_trans (List.length_filter_le _ _) hzl
        have esp : (upd H3 sp (.lst ((zs.filter fun y => decide (y ≠ z)).map V.str))) sp = some (.lst ((zs.filter fun y => decide (y ≠ z)).map V.str)) := upd_same
        have x4' : Evl.Ex H3 (upd H3 sp (.lst ((zs.filter fun y => decide (y ≠ z)).map V.str))) := Evl.Ex.new hsp
        generalize upd H3 sp (.lst ((zs.filter fun y => decide (y ≠ z)).map V.str)) = H4 at esp x4'
        -- found[dot] = _law_pick(draw, spots + spots + [end, end, None])
        refine ⟨.ref d, rfl, .ref sp, rfl, .ref sp, rfl, sp, sp, _, _, rfl, rfl, esp, esp, by rw [List.length_map]; exact Nat.le_of_lt (small1000 (by omega)), fun p hp => ?_⟩
        refine ⟨.str e, rfl, .str e, rfl, by show 3 ≤ sizeLine; decide, fun q hq => ?_⟩
        have npq : p ≠ q := ne_of_none upd_same hq
        refine ⟨p, q, _, _, rfl, rfl, by rw [upd_ne npq]; exact upd_same, upd_same, ?_, fun r hr0 => ?_⟩
        · rw [List.length_append, List.length_map]
          exact Nat.le_of_lt (small1000 (by show _ + _ + 3 ≤ 1000; omega))
        have x5' := ((x4'.trans (Evl.Ex.new hp)).trans (Evl.Ex.new hq)).trans (Evl.Ex.new (o := .lst ((zs.filter fun y => decide (y ≠ z)).map V.str ++ (zs.filter fun y => decide (y ≠ z)).map V.str ++ [.str e, .str e, .non])) hr0)
        have D5 := D3.ext x5'
        have nr := (((D3.ext x4').new hp).new hq).ned hr0
        refine ⟨d, g, c, r, _, rfl, D5, Evl.sq_of (off_of upd_same nr.1 nr.2.1), ?_, ?_, fun j v H6 hv D6 x6 => ?_⟩
        · rw [List.length_append]
          exact Nat.lt_of_lt_of_le (by decide : 0 < 3) (Nat.le_add_left _ _)
        · rw [List.length_append, List.length_append, List.length_map]
          show _ + _ + 3 < _
          omega
        have hpl : PlaceOk zs e z v := by
          have hm := List.mem_of_getElem? hv
          have hf : ∀ u, u ∈ (zs.filter fun y => decide (y ≠ z)).map V.str → PlaceOk zs e z u := fun u hu => by
            obtain ⟨y, hy, rfl⟩ := List.mem_map.mp hu
            have := List.mem_filter.mp hy
            exact .inr (.inr ⟨y, this.1, of_decide_eq_true this.2, rfl⟩)
          rcases List.mem_append.mp hm with hm | hm
          · rcases List.mem_append.mp hm with hm | hm
            · exact hf v hm
            · exact hf v hm
          · rcases List.mem_cons.mp hm with rfl | hm
            · exact .inr (.inl rfl)
            · rcases List.mem_cons.mp hm with rfl | hm
              · exact .inr (.inl rfl)
              · rw [List.mem_singleton.mp hm]
                exact .inl rfl
        have x7 := (off_ex (d := d) (g := g) x5').trans x6
        have g1 : H6 fd0 = some (.dK (tkv tb)) := ex_off d g H6 _ _ (x7 _ _ (off_of f1 nfd.1 nfd.2.1))
        have tlen : tb.length ≤ 10 := by
          have := congrArg List.length hk
          rw [List.length_map, List.length_take] at this
          omega
        refine ⟨.ref fd0, rfl, .str z, rfl, fd0, _, rfl, DPut.k (k := Sum.inr z) g1 (by rw [tkv_len]; exact small1000 (by omega)), ?_⟩
        rw [tkv_new (by rw [hk]; exact hzn)]
        refine ⟨_, _, tb ++ [(z, v)], rfl, ?_, ?_, upd_same, D6.mut nfd.1 nfd.2.1 nfd.2.2, off_mut (x3.trans x7) (off_free hfd)⟩
        · rw [List.map_append, hk, etake]
          rfl
        · intro q hq
          rcases List.mem_append.mp hq with hq | hq
          · exact hps q hq
          · rw [List.mem_singleton.mp hq]
            exact hpl
    · rintro σ H3 ⟨x4, x5, tb, rfl, hk, hps, f1, D3, x3⟩
      rw [List.length_map, List.take_length] at hk
      exact ⟨.ref fd0, rfl, k fd0 tb H3 ⟨by rw [hk], hps⟩ D3 x3 hfd (off_of f1 nfd.1 nfd.2.1)⟩
end
end Rw
end T_B6

section T_B7
set_option Elab.async false
set_option linter.all false
set_option maxRecDepth 100000
set_option maxHeartbeats 4000000
namespace Rw
open PySem L2 PyProof.Rows
section
variable {P : Program} {w : World} {K : PySem.W.Frag} {mg : Str → Option Value} {base : Heap}
abbrev nNear : List Str := ["draw", "table", "end", "found", "some", "turn", "dot", "spot"]
theorem sc_near : FnScope nNear ["draw", "table", "end"] (defScope s_near) := ⟨rfl, rfl, rfl, by decide +kernel, rfl, by decide +kernel, by decide +kernel⟩
theorem ok_near {f fT fP : Addr} {fd fdT fdP : FuncData} (F : Fun K "_law_near" "_law_near" s_near f fd)
    (T : FnOk P w K mg base CX0 2 fT fdT ["draw", "size"] spTake) (kT : PySem.W.keepIn K (.ref fT) = true) (bT : Binds K fdT ["draw", "size"] []) (gT : mg "_law_take" = some (.ref fT))
    (PL : FnOk P w K mg base CX0 3 fP fdP ["draw", "some"] (spPickL K)) (kP : PySem.W.keepIn K (.ref fP) = true) (bP : Binds K fdP ["draw", "some"] []) (gP : mg "_law_pick" = some (.ref fP))
    (mDict : mg "dict" = none) (mSorted : mg "sorted" = none) (mRange : mg "range" = none) :
    FnOk P w K mg base CX0 4 f fd ["draw", "table", "end"] (spNear K) := by
  refine F.ok sc_near (fun vs H Q E h => ?_) (fun cdv A outer s H vs Q E hr h => ?_)
  · obtain ⟨d, g, c, t, zs, e, tb, rfl, _⟩ := h
    rfl
  · obtain ⟨d, g, c, t, zs, e, tb, rfl, D, ht, hT, hnd, h0, hzl, k⟩ := h
    have nd := sc_near.nd
    have hu := hu_of hr
    have hr2 : Room 2 _ := hr.mono (by decide)
    refine ⟨_, pss_cons (ps_par (i := 3) (j := 4) (by rfl) nd rfl rfl (by decide) rfl rfl (pa_cons (pe_callTy call_dictD (by rfl) mDict (by decide +kernel) (pa_cons (pv 1) pa_nil)) (pa_cons (pe_callB (call_sortedD rfl) (by rfl) mSorted (by decide +kernel) (pa_cons (pv 1) pa_nil)) pa_nil)) (by rfl))
      (pss_cons (ps_for PassesOwn.never rfl (pi_range1 (by rfl) mRange (pa_cons (pe_op op_add pe_int (pe_call T hr2 rfl gT kT bT .nil pass0 (pa_cons (pv 0) (pa_cons pe_int pa_nil)))) pa_nil)) (pg_name (i := 5) nd rfl (.inl rfl))
        (pss_cons (ps_set (i := 6) nd rfl (.inr rfl) (pe_call PL hr rfl gP kP bP .nil pass0 (pa_cons (pv 0) (pa_cons (pv 4) pa_nil))))
        (pss_one (ps_dput hu (pv 3) (pv 6) (pe_call PL hr rfl gP kP bP .nil pass0 (pa_cons (pv 0) (pa_cons (pe_op op_cat
            (pe_lc (own := [("spot", 7)]) (g := gName 7) (tt := tTest (tOp rNe (tVar 7) (tVar 6))) (te := tVar 7) rfl nd (pi_list (pv 4)) (blkOk_by (own := [("spot", 7)]) (N := nNear) (sc := defScope s_near) (by decide +kernel))
              (fun _ _ _ _ _ => pg_name (i := 7) nd rfl (Or.inl rfl)) (fun _ _ _ _ _ => pts_one (pt_cmpR op_ne (pv 7) (pv 6) (nomark _))) (fun _ _ _ _ _ => pv 7))
            (pe_lst (pa_cons (pv 2) pa_nil))) pa_nil))) rfl))))
      (pss_one (ps_ret (pv 3)))), ?_⟩
    have ht' := off_some ht
    -- found, some = (dict(table), sorted(table))
    refine ⟨.ref t, rfl, t, _, rfl, .inl ht'.2.2, fun fd0 hfd => ⟨.ref t, rfl, t, tkv tb, tb.map (·.1), rfl, .inl (Evl.Ex.new hfd _ _ ht'.2.2), ?_, ?_, fun ws so hws _ hso => ⟨_, _, rfl, ?_⟩⟩⟩
    · unfold tkv
      rw [List.map_map, List.map_map]
      rfl
    · rw [hT.ks.length_eq]
      omega
    have hwz : ws.Perm zs := hws.trans hT.ks
    have wl : ws.length = zs.length := hwz.length_eq
    have nfd := D.ned hfd
    have nso := (D.new hfd).ned hso
    have D1 : DrawAt (upd (upd H fd0 (.dK (tkv tb))) so (.lst (ws.map V.str))) d g c := (D.new hfd).new hso
    have x1 : Evl.Ex (off d g H) (off d g (upd (upd H fd0 (.dK (tkv tb))) so (.lst (ws.map V.str)))) := (off_ex (Evl.Ex.new hfd)).trans (off_ex (Evl.Ex.new hso))
    have e1 : (upd (upd H fd0 (.dK (tkv tb))) so (.lst (ws.map V.str))) fd0 = some (.dK (tkv tb)) := Evl.Ex.new hso _ _ upd_same
    have e2 : off d g (upd (upd H fd0 (.dK (tkv tb))) so (.lst (ws.map V.str))) so = some (.lst (ws.map V.str)) := off_of upd_same nso.1 nso.2.1
    have nfs : fd0 ≠ so := ne_of_none upd_same hso
    generalize upd (upd H fd0 (.dK (tkv tb))) so (.lst (ws.map V.str)) = H1 at D1 x1 e1 e2
    -- for turn in range(1 + ..)
    refine ⟨.ref d, rfl, d, g, c, 2, rfl, by decide, by decide, D1, fun n H2 n0 n1 D2 x2 => ⟨1, n, rfl, rfl, 1 + n, rfl, by omega, by omega, for_range (lo := 0) (n := (1 + n).toNat)
      (fun i σ H' => ∃ (x5 x6 : Option V) (tb' : List (Str × V)), σ = [some (.ref d), some (.ref t), some (.str e), some (.ref fd0), some (.ref so), x5, x6, none] ∧ TabOk zs e tb' ∧
        H' fd0 = some (.dK (tkv tb')) ∧ off d g H' so = some (.lst (ws.map V.str)) ∧ DrawAt H' d g c ∧ Evl.Ex (off d g H) (off d g H'))
      ⟨none, none, tb, rfl, hT, ex_off d g H2 _ _ (x2 _ _ (off_of e1 nfd.1 nfd.2.1)), x2 _ _ e2, D2, x1.trans x2⟩ ?_ ?_⟩⟩
    · rintro i σ H3 hi ⟨x5, x6, tb', rfl, hT', f1, f2, D3, x3⟩
      -- dot = _law_pick(draw, some)
      refine ⟨.ref d, rfl, .ref so, rfl, d, g, c, so, ws.map V.str, rfl, D3, Evl.sq_of f2, by rw [List.length_map]; omega, by rw [List.length_map]; omega, fun j v H4 hv D4 x4 => ?_⟩
      obtain ⟨z, hz, rfl⟩ := str_at hv
      have g1 : H4 fd0 = some (.dK (tkv tb')) := ex_off d g H4 _ _ (x4 _ _ (off_of f1 nfd.1 nfd.2.1))
      have g2 := x4 _ _ f2
      have g2' := off_some g2
      -- the places
      refine ⟨.ref d, rfl, .ref so, rfl, so, rfl, ⟨_, Evl.sq_of g2'.2.2⟩, fun sp hsp => lc_list (K := K) (a := so) (xs := ws.map V.str)
        (fun j H' => H' = upd H4 sp (.lst (((ws.take j).filter fun y => decide (y ≠ z)).map V.str))) rfl (fun j H' _ h => by rw [h]; exact Evl.ex_l (Evl.Ex.new hsp) (Evl.sq_of g2'.2.2)) ?_ ?_⟩
      · rintro j x H5 hj rfl
        obtain ⟨y, hy, rfl⟩ := str_at hj
        have hjl : j < ws.length := (List.getElem?_eq_some_iff.mp hy).1
        have et : ws.take (j + 1) = ws.take j ++ [y] := by rw [List.take_add_one, hy]; rfl
        refine ⟨rfl, .str y, rfl, .str z, rfl, rfl, _, rfl, ?_⟩
        by_cases q : y = z
        · subst q
          refine iteNS rfl ?_
          show upd H4 sp _ = _
          rw [et, List.filter_append, List.filter_cons_of_neg (by simp), List.filter_nil, List.append_nil]
        · have hq : decide (V.str y = V.str z) = false := decide_eq_false fun w => q (V.str.inj w)
          rw [hq]
          refine iteT ?_
          refine ⟨.str y, rfl, _, upd_same, ?_, ?_⟩
          · rw [List.length_map]
            refine small1000 (Nat.le_trans (List.length_filter_le _ _) ?_)
            rw [List.length_take]
            omega
          · show upd (upd H4 sp _) sp _ = _
            rw [upd_upd, et, List.filter_append, List.filter_cons_of_pos (by simp [q]), List.filter_nil, List.map_append]
            rfl
      · rintro H5 rfl
        rw [List.length_map, List.take_length]
        have hfl : (ws.filter fun y => decide (y ≠ z)).length ≤ 10 := Nat.le_trans (List.length_filter_le _ _) (by omega)
        have esp : (upd H4 sp (.lst ((ws.filter fun y => decide (y ≠ z)).map V.str))) sp = some (.lst ((ws.filter fun y => decide (y ≠ z)).map V.str)) := upd_same
        have x5' : Evl.Ex H4 (upd H4 sp (.lst ((ws.filter fun y => decide (y ≠ z)).map V.str))) := Evl.Ex.new hsp
        generalize upd H4 sp (.lst ((ws.filter fun y => decide (y ≠ z)).map V.str)) = H5 at esp x5'
        refine ⟨.str e, rfl, by show 1 ≤ sizeLine; decide, fun q hq => ?_⟩
        have npq : sp ≠ q := ne_of_none esp hq
        refine ⟨sp, q, _, _, rfl, rfl, by rw [upd_ne npq]; exact esp, upd_same, ?_, fun r hr0 => ?_⟩
        · rw [List.length_map]
          exact Nat.le_of_lt (small1000 (by show _ + 1 ≤ 1000; omega))
        have x6' := (x5'.trans (Evl.Ex.new (o := .lst [.str e]) hq)).trans (Evl.Ex.new (o := .lst ((ws.filter fun y => decide (y ≠ z)).map V.str ++ [.str e])) hr0)
        have D6 := D4.ext x6'
        have nr := ((D4.ext x5').new hq).ned hr0
        refine ⟨d, g, c, r, _, rfl, D6, Evl.sq_of (off_of upd_same nr.1 nr.2.1), ?_, ?_, fun j v H7 hv D7 x7 => ?_⟩
        · rw [List.length_append]
          exact Nat.lt_of_lt_of_le (by decide : 0 < 1) (Nat.le_add_left _ _)
        · rw [List.length_append, List.length_map]
          show _ + 1 < _
          omega
        have hpl : PlaceOk zs e z v := by
          rcases List.mem_append.mp (List.mem_of_getElem? hv) with hm | hm
          · obtain ⟨y, hy, rfl⟩ := List.mem_map.mp hm
            have := List.mem_filter.mp hy
            exact .inr (.inr ⟨y, hwz.subset this.1, of_decide_eq_true this.2, rfl⟩)
          · rw [List.mem_singleton.mp hm]
            exact .inr (.inl rfl)
        have x8 := (off_ex (d := d) (g := g) x6').trans x7
        have k1 : H7 fd0 = some (.dK (tkv tb')) := ex_off d g H7 _ _ (x8 _ _ (off_of g1 nfd.1 nfd.2.1))
        have k2 := off_some (x8 _ _ g2)
        have tl : tb'.length = zs.length := by rw [← hT'.ks.length_eq, List.length_map]
        refine ⟨.ref fd0, rfl, .str z, rfl, fd0, _, rfl, DPut.k (k := Sum.inr z) k1 (by rw [tkv_len]; exact small1000 (by omega)), ?_⟩
        rw [tkv_old (hT'.ks.mem_iff.mpr (hwz.subset (List.mem_of_getElem? hz)))]
        exact ⟨_, _, _, rfl, hT'.put hpl, upd_same, off_of (by rw [upd_ne nfs.symm]; exact k2.2.2) k2.1 k2.2.1, D7.mut nfd.1 nfd.2.1 nfd.2.2, off_mut ((x3.trans x4).trans x8) (off_free hfd)⟩
    · rintro σ H3 ⟨x5, x6, tb', rfl, hT', f1, f2, D3, x3⟩
      exact ⟨.ref fd0, rfl, k fd0 tb' H3 hT' D3 x3 hfd (off_of f1 nfd.1 nfd.2.1)⟩
end
end Rw
end T_B7

section T_B8
set_option Elab.async false
set_option linter.all false
set_option maxRecDepth 100000
set_option maxHeartbeats 4000000
namespace Rw
open PySem L2 PyProof.Rows
section
variable {P : Program} {w : World} {K : PySem.W.Frag} {mg : Str → Option Value} {base : Heap}
abbrev nPair : List Str := ["draw", "some", "end", "sort", "old"]
theorem sc_pair : FnScope nPair ["draw", "some", "end"] (defScope s_pair) := ⟨rfl, rfl, rfl, by decide +kernel, rfl, by decide +kernel, by decide +kernel⟩
theorem ok_pair {f fT f1 f2 f3 f4 : Addr} {fd fdT fd1 fd2 fd3 fd4 : FuncData} (F : Fun K "_law_pair" "_law_pair" s_pair f fd)
    (T : FnOk P w K mg base CX0 2 fT fdT ["draw", "size"] spTake) (kT : PySem.W.keepIn K (.ref fT) = true) (bT : Binds K fdT ["draw", "size"] []) (gT : mg "_law_take" = some (.ref fT))
    (T1 : FnOk P w K mg base CX0 4 f1 fd1 ["draw", "some", "end"] (spTab K)) (k1 : PySem.W.keepIn K (.ref f1) = true) (b1 : Binds K fd1 ["draw", "some", "end"] []) (g1 : mg "_law_tree" = some (.ref f1))
    (T2 : FnOk P w K mg base CX0 4 f2 fd2 ["draw", "some", "end"] (spTab K)) (k2 : PySem.W.keepIn K (.ref f2) = true) (b2 : Binds K fd2 ["draw", "some", "end"] []) (g2 : mg "_law_path" = some (.ref f2))
    (T3 : FnOk P w K mg base CX0 4 f3 fd3 ["draw", "some", "end"] (spTab K)) (k3 : PySem.W.keepIn K (.ref f3) = true) (b3 : Binds K fd3 ["draw", "some", "end"] []) (g3 : mg "_law_wild" = some (.ref f3))
    (T4 : FnOk P w K mg base CX0 4 f4 fd4 ["draw", "table", "end"] (spNear K)) (k4 : PySem.W.keepIn K (.ref f4) = true) (b4 : Binds K fd4 ["draw", "table", "end"] []) (g4 : mg "_law_near" = some (.ref f4)) :
    FnOk P w K mg base CX0 5 f fd ["draw", "some", "end"] (spPair K) := by
  refine F.ok sc_pair (fun vs H Q E h => ?_) (fun cdv A outer s H vs Q E hr h => ?_)
  · obtain ⟨d, g, c, a, zs, e, rfl, _⟩ := h
    rfl
  · obtain ⟨d, g, c, a, zs, e, rfl, D, hS, hnd, hnm, he, hez, h0, hzl, k⟩ := h
    have nd := sc_pair.nd
    have hu := hu_of hr
    have hr2 : Room 2 _ := hr.mono (by decide)
    have a3 : ∀ {X : Cx}, True := trivial
    refine ⟨_, pss_cons (ps_set (i := 3) nd rfl (.inl rfl) (pe_call T hr2 rfl gT kT bT .nil pass0 (pa_cons (pv 0) (pa_cons pe_int pa_nil))))
      (pss_cons (ps_if (pt_cmpR op_lt (pv 3) pe_int (nomark _)) (pss_one (ps_ret (pe_tup (pa_cons (pe_call T1 hr rfl g1 k1 b1 .nil pass0 (pa_cons (pv 0) (pa_cons (pv 1) (pa_cons (pv 2) pa_nil)))) (pa_cons (pe_call T1 hr rfl g1 k1 b1 .nil pass0 (pa_cons (pv 0) (pa_cons (pv 1) (pa_cons (pv 2) pa_nil)))) pa_nil))))) pss_nil)
      (pss_cons (ps_if (pt_cmpR op_eq (pv 3) pe_int (nomark _)) (pss_one (ps_ret (pe_tup (pa_cons (pe_call T2 hr rfl g2 k2 b2 .nil pass0 (pa_cons (pv 0) (pa_cons (pv 1) (pa_cons (pv 2) pa_nil)))) (pa_cons (pe_call T2 hr rfl g2 k2 b2 .nil pass0 (pa_cons (pv 0) (pa_cons (pv 1) (pa_cons (pv 2) pa_nil)))) pa_nil))))) pss_nil)
      (pss_cons (ps_set (i := 4) nd rfl (.inl rfl) (pe_ifExp (pt_cmpR op_eq (pv 3) pe_int (nomark _)) (pe_call T1 hr rfl g1 k1 b1 .nil pass0 (pa_cons (pv 0) (pa_cons (pv 1) (pa_cons (pv 2) pa_nil)))) (pe_call T3 hr rfl g3 k3 b3 .nil pass0 (pa_cons (pv 0) (pa_cons (pv 1) (pa_cons (pv 2) pa_nil))))))
      (pss_one (ps_ret (pe_tup (pa_cons (pv 4) (pa_cons (pe_ifExp (pt_cmpR op_eq (pv 3) pe_int (nomark _)) (pe_call T4 hr rfl g4 k4 b4 .nil pass0 (pa_cons (pv 0) (pa_cons (pv 4) (pa_cons (pv 2) pa_nil)))) (pe_call T3 hr rfl g3 k3 b3 .nil pass0 (pa_cons (pv 0) (pa_cons (pv 1) (pa_cons (pv 2) pa_nil))))) pa_nil)))))))), ?_⟩
    -- a pair of two new tables
    have fin : ∀ {H1 H2 H3 : Hp} {p1 p2 : Addr} {t1 t2 : List (Str × V)}, Evl.Ex (off d g H) (off d g H2) → Evl.Ex (off d g H2) (off d g H3) → off d g H2 p1 = some (.dK (tkv t1)) → off d g H3 p2 = some (.dK (tkv t2)) → TabOk zs e t1 → TabOk zs e t2 → DrawAt H3 d g c → H p1 = none → H p2 = none →
        ∀ p, H3 p = none → Q (.ref p) (upd H3 p (.tup [.ref p1, .ref p2])) := fun {H1 H2 H3 p1 p2 t1 t2} x1 x2 q1 q2 o1 o2 D3 f1 f2 p hp => by
      have np := D3.ned hp
      have x3 := off_ex (d := d) (g := g) (Evl.Ex.new (o := .tup [.ref p1, .ref p2]) hp)
      exact k p p1 p2 t1 t2 _ (D3.new hp) ((x1.trans x2).trans x3) ⟨off_of upd_same np.1 np.2.1, x3 _ _ (x2 _ _ q1), x3 _ _ q2, o1, o2⟩ (ex_free (x1.trans x2) np.1 np.2.1 hp) f1 f2
    refine ⟨.ref d, rfl, d, g, c, 6, rfl, by decide, by decide, D, fun n H1 n0 n1 D1 x1 => ?_⟩
    refine ⟨_, rfl, n, 3, rfl, rfl, _, rfl, ite2 (fun _ => ?_) (fun _ => ?_)⟩
    · refine ⟨.ref d, rfl, .ref a, rfl, .str e, rfl, d, g, c, a, zs, e, rfl, D1, Evl.ex_l x1 hS, hnd, hnm, he, hez, hzl, fun p1 t1 H2 o1 D2 x2 w1 q1 => ?_⟩
      refine ⟨.ref d, rfl, .ref a, rfl, .str e, rfl, d, g, c, a, zs, e, rfl, D2, Evl.ex_l (x1.trans x2) hS, hnd, hnm, he, hez, hzl, fun p2 t2 H3 o2 D3 x3 w2 q2 => ⟨by show 2 ≤ sizeLine; decide, fin (H1 := H1) (x1.trans x2) x3 q1 q2 o1 o2 D3 (ex_free x1 (off_some q1).1 (off_some q1).2.1 w1) (ex_free (x1.trans x2) (off_some q2).1 (off_some q2).2.1 w2)⟩⟩
    · refine ⟨_, rfl, rfl, _, rfl, ite2 (fun _ => ?_) (fun _ => ?_)⟩
      · refine ⟨.ref d, rfl, .ref a, rfl, .str e, rfl, d, g, c, a, zs, e, rfl, D1, Evl.ex_l x1 hS, hnd, hnm, he, hez, hzl, fun p1 t1 H2 o1 D2 x2 w1 q1 => ?_⟩
        refine ⟨.ref d, rfl, .ref a, rfl, .str e, rfl, d, g, c, a, zs, e, rfl, D2, Evl.ex_l (x1.trans x2) hS, hnd, hnm, he, hez, hzl, fun p2 t2 H3 o2 D3 x3 w2 q2 => ⟨by show 2 ≤ sizeLine; decide, fin (H1 := H1) (x1.trans x2) x3 q1 q2 o1 o2 D3 (ex_free x1 (off_some q1).1 (off_some q1).2.1 w1) (ex_free (x1.trans x2) (off_some q2).1 (off_some q2).2.1 w2)⟩⟩
      · refine ⟨_, rfl, rfl, _, rfl, ite2 (fun h4 => ?_) (fun h4 => ?_)⟩
        · refine ⟨.ref d, rfl, .ref a, rfl, .str e, rfl, d, g, c, a, zs, e, rfl, D1, Evl.ex_l x1 hS, hnd, hnm, he, hez, hzl, fun p1 t1 H2 o1 D2 x2 w1 q1 => ?_⟩
          refine ⟨_, rfl, _, rfl, rfl, _, rfl, ite2 (fun _ => ?_) (fun h5 => absurd h4 h5)⟩
          refine ⟨.ref d, rfl, .ref p1, rfl, .str e, rfl, d, g, c, p1, zs, e, t1, rfl, D2, q1, o1, hnd, h0, hzl, fun p2 t2 H3 o2 D3 x3 w2 q2 => ⟨by show 2 ≤ sizeLine; decide, fin (H1 := H1) (x1.trans x2) x3 q1 q2 o1 o2 D3 (ex_free x1 (off_some q1).1 (off_some q1).2.1 w1) (ex_free (x1.trans x2) (off_some q2).1 (off_some q2).2.1 w2)⟩⟩
        · refine ⟨.ref d, rfl, .ref a, rfl, .str e, rfl, d, g, c, a, zs, e, rfl, D1, Evl.ex_l x1 hS, hnd, hnm, he, hez, hzl, fun p1 t1 H2 o1 D2 x2 w1 q1 => ?_⟩
          refine ⟨_, rfl, _, rfl, rfl, _, rfl, ite2 (fun h5 => absurd h5 h4) (fun _ => ?_)⟩
          refine ⟨.ref d, rfl, .ref a, rfl, .str e, rfl, d, g, c, a, zs, e, rfl, D2, Evl.ex_l (x1.trans x2) hS, hnd, hnm, he, hez, hzl, fun p2 t2 H3 o2 D3 x3 w2 q2 => ⟨by show 2 ≤ sizeLine; decide, fin (H1 := H1) (x1.trans x2) x3 q1 q2 o1 o2 D3 (ex_free x1 (off_some q1).1 (off_some q1).2.1 w1) (ex_free (x1.trans x2) (off_some q2).1 (off_some q2).2.1 w2)⟩⟩
end
end Rw
end T_B8

section T_Z0
set_option Elab.async false
set_option linter.all false
set_option maxRecDepth 100000
set_option maxHeartbeats 8000000
namespace Rw
open PySem L2 PyProof.Rows
theorem all_mk {P : Program} {w : World} {K : PySem.W.Frag} {h : Heap} {mg : Str → Option Value} {fa : Addr} (X : K.In h) (G : h.Ns mainGlobals mg) (hfa : mg "law" = some (.ref fa))
    {cc Pt : Addr}
    {C fI TI q1 q2 : Addr} {odI anI odT : Option Addr} {slI slT : Array (Option Value)} {ocI kVI dcI pmI cdI ctI ocT : Value} {nT : Nat}
    {f_s_begin : Addr} {od_s_begin an_s_begin : Option Addr} {sl_s_begin : Array (Option Value)} {oc_s_begin kV_s_begin dc_s_begin pm_s_begin cd_s_begin ct_s_begin : Value}
    {f_s_blend : Addr} {od_s_blend an_s_blend : Option Addr} {sl_s_blend : Array (Option Value)} {oc_s_blend kV_s_blend dc_s_blend pm_s_blend cd_s_blend ct_s_blend : Value}
    {f_s_take : Addr} {od_s_take an_s_take : Option Addr} {sl_s_take : Array (Option Value)} {oc_s_take kV_s_take dc_s_take pm_s_take cd_s_take ct_s_take : Value}
    {f_s_pick : Addr} {od_s_pick an_s_pick : Option Addr} {sl_s_pick : Array (Option Value)} {oc_s_pick kV_s_pick dc_s_pick pm_s_pick cd_s_pick ct_s_pick : Value}
    {f_s_mixed : Addr} {od_s_mixed an_s_mixed : Option Addr} {sl_s_mixed : Array (Option Value)} {oc_s_mixed kV_s_mixed dc_s_mixed pm_s_mixed cd_s_mixed ct_s_mixed : Value}
    {f_s_words : Addr} {od_s_words an_s_words : Option Addr} {sl_s_words : Array (Option Value)} {oc_s_words kV_s_words dc_s_words pm_s_words cd_s_words ct_s_words : Value}
    {f_s_tree : Addr} {od_s_tree an_s_tree : Option Addr} {sl_s_tree : Array (Option Value)} {oc_s_tree kV_s_tree dc_s_tree pm_s_tree cd_s_tree ct_s_tree : Value}
    {f_s_path : Addr} {od_s_path an_s_path : Option Addr} {sl_s_path : Array (Option Value)} {oc_s_path kV_s_path dc_s_path pm_s_path cd_s_path ct_s_path : Value}
    {f_s_wild : Addr} {od_s_wild an_s_wild : Option Addr} {sl_s_wild : Array (Option Value)} {oc_s_wild kV_s_wild dc_s_wild pm_s_wild cd_s_wild ct_s_wild : Value}
    {f_s_near : Addr} {od_s_near an_s_near : Option Addr} {sl_s_near : Array (Option Value)} {oc_s_near kV_s_near dc_s_near pm_s_near cd_s_near ct_s_near : Value}
    {f_s_pair : Addr} {od_s_pair an_s_pair : Option Addr} {sl_s_pair : Array (Option Value)} {oc_s_pair kV_s_pair dc_s_pair pm_s_pair cd_s_pair ct_s_pair : Value}
    {f_s_model : Addr} {od_s_model an_s_model : Option Addr} {sl_s_model : Array (Option Value)} {oc_s_model kV_s_model dc_s_model pm_s_model cd_s_model ct_s_model : Value}
    {f_s_net : Addr} {od_s_net an_s_net : Option Addr} {sl_s_net : Array (Option Value)} {oc_s_net kV_s_net dc_s_net pm_s_net cd_s_net ct_s_net : Value}
    {f_s_moving_dots : Addr} {od_s_moving_dots an_s_moving_dots : Option Addr} {sl_s_moving_dots : Array (Option Value)} {oc_s_moving_dots kV_s_moving_dots dc_s_moving_dots pm_s_moving_dots cd_s_moving_dots ct_s_moving_dots : Value}
    {f_s_plan : Addr} {od_s_plan an_s_plan : Option Addr} {sl_s_plan : Array (Option Value)} {oc_s_plan kV_s_plan dc_s_plan pm_s_plan cd_s_plan ct_s_plan : Value}
    {f_s_done_in : Addr} {od_s_done_in an_s_done_in : Option Addr} {sl_s_done_in : Array (Option Value)} {oc_s_done_in kV_s_done_in dc_s_done_in pm_s_done_in cd_s_done_in ct_s_done_in : Value}
    {f_s_hop : Addr} {od_s_hop an_s_hop : Option Addr} {sl_s_hop : Array (Option Value)} {oc_s_hop kV_s_hop dc_s_hop pm_s_hop cd_s_hop ct_s_hop : Value}
    {f_s_moved : Addr} {od_s_moved an_s_moved : Option Addr} {sl_s_moved : Array (Option Value)} {oc_s_moved kV_s_moved dc_s_moved pm_s_moved cd_s_moved ct_s_moved : Value}
    {f_p_is_list : Addr} {od_p_is_list an_p_is_list : Option Addr} {sl_p_is_list : Array (Option Value)} {oc_p_is_list kV_p_is_list dc_p_is_list pm_p_is_list cd_p_is_list ct_p_is_list : Value}
    {f_p_is_name : Addr} {od_p_is_name an_p_is_name : Option Addr} {sl_p_is_name : Array (Option Value)} {oc_p_is_name kV_p_is_name dc_p_is_name pm_p_is_name cd_p_is_name ct_p_is_name : Value}
    {f_p_is_place : Addr} {od_p_is_place an_p_is_place : Option Addr} {sl_p_is_place : Array (Option Value)} {oc_p_is_place kV_p_is_place dc_p_is_place pm_p_is_place cd_p_is_place ct_p_is_place : Value}
    {f_p_is_table : Addr} {od_p_is_table an_p_is_table : Option Addr} {sl_p_is_table : Array (Option Value)} {oc_p_is_table kV_p_is_table dc_p_is_table pm_p_is_table cd_p_is_table ct_p_is_table : Value}
    {f_p_are_different : Addr} {od_p_are_different an_p_are_different : Option Addr} {sl_p_are_different : Array (Option Value)} {oc_p_are_different kV_p_are_different dc_p_are_different pm_p_are_different cd_p_are_different ct_p_are_different : Value}
    {f_p_are_nodes : Addr} {od_p_are_nodes an_p_are_nodes : Option Addr} {sl_p_are_nodes : Array (Option Value)} {oc_p_are_nodes kV_p_are_nodes dc_p_are_nodes pm_p_are_nodes cd_p_are_nodes ct_p_are_nodes : Value}
    {f_p_is_pair_of_dicts : Addr} {od_p_is_pair_of_dicts an_p_is_pair_of_dicts : Option Addr} {sl_p_is_pair_of_dicts : Array (Option Value)} {oc_p_is_pair_of_dicts kV_p_is_pair_of_dicts dc_p_is_pair_of_dicts pm_p_is_pair_of_dicts cd_p_is_pair_of_dicts ct_p_is_pair_of_dicts : Value}
    {f_p_are_tables : Addr} {od_p_are_tables an_p_are_tables : Option Addr} {sl_p_are_tables : Array (Option Value)} {oc_p_are_tables kV_p_are_tables dc_p_are_tables pm_p_are_tables cd_p_are_tables ct_p_are_tables : Value}
    {f_p_check_net : Addr} {od_p_check_net an_p_check_net : Option Addr} {sl_p_check_net : Array (Option Value)} {oc_p_check_net kV_p_check_net dc_p_check_net pm_p_check_net cd_p_check_net ct_p_check_net : Value}
    {f_p_check_goal : Addr} {od_p_check_goal an_p_check_goal : Option Addr} {sl_p_check_goal : Array (Option Value)} {oc_p_check_goal kV_p_check_goal dc_p_check_goal pm_p_check_goal cd_p_check_goal ct_p_check_goal : Value}
    {f_p_check_lot : Addr} {od_p_check_lot an_p_check_lot : Option Addr} {sl_p_check_lot : Array (Option Value)} {oc_p_check_lot kV_p_check_lot dc_p_check_lot pm_p_check_lot cd_p_check_lot ct_p_check_lot : Value}
    {f_p_check_round : Addr} {od_p_check_round an_p_check_round : Option Addr} {sl_p_check_round : Array (Option Value)} {oc_p_check_round kV_p_check_round dc_p_check_round pm_p_check_round cd_p_check_round ct_p_check_round : Value}
    {f_p_is_lot_of : Addr} {od_p_is_lot_of an_p_is_lot_of : Option Addr} {sl_p_is_lot_of : Array (Option Value)} {oc_p_is_lot_of kV_p_is_lot_of dc_p_is_lot_of pm_p_is_lot_of cd_p_is_lot_of ct_p_is_lot_of : Value}
    {f_g_goals : Addr} {od_g_goals an_g_goals : Option Addr} {sl_g_goals : Array (Option Value)} {oc_g_goals kV_g_goals dc_g_goals pm_g_goals cd_g_goals ct_g_goals : Value}
    {p_g_goals : Addr} {r_g_goals : List Value}
    {f_g_nodes : Addr} {od_g_nodes an_g_nodes : Option Addr} {sl_g_nodes : Array (Option Value)} {oc_g_nodes kV_g_nodes dc_g_nodes pm_g_nodes cd_g_nodes ct_g_nodes : Value}
    {p_g_nodes : Addr} {r_g_nodes : List Value}
    {f_g_changing : Addr} {od_g_changing an_g_changing : Option Addr} {sl_g_changing : Array (Option Value)} {oc_g_changing kV_g_changing dc_g_changing pm_g_changing cd_g_changing ct_g_changing : Value}
    {p_g_changing : Addr} {r_g_changing : List Value}
    {f_p_check_node : Addr} {od_p_check_node an_p_check_node : Option Addr} {sl_p_check_node : Array (Option Value)} {oc_p_check_node kV_p_check_node dc_p_check_node pm_p_check_node cd_p_check_node ct_p_check_node : Value}
    {f_p_is_number : Addr} {od_p_is_number an_p_is_number : Option Addr} {sl_p_is_number : Array (Option Value)} {oc_p_is_number kV_p_is_number dc_p_is_number pm_p_is_number cd_p_is_number ct_p_is_number : Value}
    {f_p_is_count : Addr} {od_p_is_count an_p_is_count : Option Addr} {sl_p_is_count : Array (Option Value)} {oc_p_is_count kV_p_is_count dc_p_is_count pm_p_is_count cd_p_is_count ct_p_is_count : Value}
    {f_p_ways : Addr} {od_p_ways an_p_ways : Option Addr} {sl_p_ways : Array (Option Value)} {oc_p_ways kV_p_ways dc_p_ways pm_p_ways cd_p_ways ct_p_ways : Value}
    {f_p_joined : Addr} {od_p_joined an_p_joined : Option Addr} {sl_p_joined : Array (Option Value)} {oc_p_joined kV_p_joined dc_p_joined pm_p_joined cd_p_joined ct_p_joined : Value}
    {f_p_parts_of : Addr} {od_p_parts_of an_p_parts_of : Option Addr} {sl_p_parts_of : Array (Option Value)} {oc_p_parts_of kV_p_parts_of dc_p_parts_of pm_p_parts_of ct_p_parts_of : Value}
    {f_p_is_part : Addr} {od_p_is_part an_p_is_part : Option Addr} {sl_p_is_part : Array (Option Value)} {oc_p_is_part kV_p_is_part dc_p_is_part pm_p_is_part cd_p_is_part ct_p_is_part : Value}
    {f_p_stages_of : Addr} {od_p_stages_of an_p_stages_of : Option Addr} {sl_p_stages_of : Array (Option Value)} {oc_p_stages_of kV_p_stages_of dc_p_stages_of pm_p_stages_of cd_p_stages_of ct_p_stages_of : Value}
    {f_p_first_wrong_round : Addr} {od_p_first_wrong_round an_p_first_wrong_round : Option Addr} {sl_p_first_wrong_round : Array (Option Value)} {oc_p_first_wrong_round kV_p_first_wrong_round dc_p_first_wrong_round pm_p_first_wrong_round cd_p_first_wrong_round ct_p_first_wrong_round : Value}
    {f_p_check_plan : Addr} {od_p_check_plan an_p_check_plan : Option Addr} {sl_p_check_plan : Array (Option Value)} {oc_p_check_plan kV_p_check_plan dc_p_check_plan pm_p_check_plan cd_p_check_plan ct_p_check_plan : Value}
    {f_p_is_story : Addr} {od_p_is_story an_p_is_story : Option Addr} {sl_p_is_story : Array (Option Value)} {oc_p_is_story kV_p_is_story dc_p_is_story pm_p_is_story cd_p_is_story ct_p_is_story : Value}
    {f_p_story : Addr} {od_p_story an_p_story : Option Addr} {sl_p_story : Array (Option Value)} {oc_p_story kV_p_story dc_p_story pm_p_story cd_p_story ct_p_story : Value}
    {f_p_stages : Addr} {od_p_stages an_p_stages : Option Addr} {sl_p_stages : Array (Option Value)} {oc_p_stages kV_p_stages dc_p_stages pm_p_stages cd_p_stages ct_p_stages : Value}
    {f_p_known : Addr} {od_p_known an_p_known : Option Addr} {sl_p_known : Array (Option Value)} {oc_p_known kV_p_known dc_p_known pm_p_known cd_p_known ct_p_known : Value}
    {f_p_clash : Addr} {od_p_clash an_p_clash : Option Addr} {sl_p_clash : Array (Option Value)} {oc_p_clash kV_p_clash dc_p_clash pm_p_clash cd_p_clash ct_p_clash : Value}
    {f_p_states_seen : Addr} {od_p_states_seen an_p_states_seen : Option Addr} {sl_p_states_seen : Array (Option Value)} {oc_p_states_seen kV_p_states_seen dc_p_states_seen pm_p_states_seen cd_p_states_seen ct_p_states_seen : Value}
    {f_p_states_in_stories : Addr} {od_p_states_in_stories an_p_states_in_stories : Option Addr} {sl_p_states_in_stories : Array (Option Value)} {oc_p_states_in_stories kV_p_states_in_stories dc_p_states_in_stories pm_p_states_in_stories cd_p_states_in_stories ct_p_states_in_stories : Value}
    {f_p_is_state : Addr} {od_p_is_state an_p_is_state : Option Addr} {sl_p_is_state : Array (Option Value)} {oc_p_is_state kV_p_is_state dc_p_is_state pm_p_is_state cd_p_is_state ct_p_is_state : Value}
    {f_p_can_follow : Addr} {od_p_can_follow an_p_can_follow : Option Addr} {sl_p_can_follow : Array (Option Value)} {oc_p_can_follow kV_p_can_follow dc_p_can_follow pm_p_can_follow cd_p_can_follow ct_p_can_follow : Value}
    {f_p_now_new : Addr} {od_p_now_new an_p_now_new : Option Addr} {sl_p_now_new : Array (Option Value)} {oc_p_now_new kV_p_now_new dc_p_now_new pm_p_now_new cd_p_now_new ct_p_now_new : Value}
    {f_p_is_seen_in : Addr} {od_p_is_seen_in an_p_is_seen_in : Option Addr} {sl_p_is_seen_in : Array (Option Value)} {oc_p_is_seen_in kV_p_is_seen_in dc_p_is_seen_in pm_p_is_seen_in cd_p_is_seen_in ct_p_is_seen_in : Value}
    {f_p_is_sight : Addr} {od_p_is_sight an_p_is_sight : Option Addr} {sl_p_is_sight : Array (Option Value)} {oc_p_is_sight kV_p_is_sight dc_p_is_sight pm_p_is_sight cd_p_is_sight ct_p_is_sight : Value}
    {f_p_check_sights : Addr} {od_p_check_sights an_p_check_sights : Option Addr} {sl_p_check_sights : Array (Option Value)} {oc_p_check_sights kV_p_check_sights dc_p_check_sights pm_p_check_sights cd_p_check_sights ct_p_check_sights : Value}
    {f_p_check_asked : Addr} {od_p_check_asked an_p_check_asked : Option Addr} {sl_p_check_asked : Array (Option Value)} {oc_p_check_asked kV_p_check_asked dc_p_check_asked pm_p_check_asked cd_p_check_asked ct_p_check_asked : Value}
    {f_m_way : Addr} {od_m_way an_m_way : Option Addr} {sl_m_way : Array (Option Value)} {oc_m_way kV_m_way dc_m_way pm_m_way cd_m_way ct_m_way : Value}
    {f_g_tables : Addr} {od_g_tables an_g_tables : Option Addr} {sl_g_tables : Array (Option Value)} {oc_g_tables kV_g_tables dc_g_tables pm_g_tables cd_g_tables ct_g_tables : Value}
    {p_g_tables : Addr} {r_g_tables : List Value}
    {f_law : Addr} {od_law an_law : Option Addr} {sl_law : Array (Option Value)} {oc_law kV_law dc_law pm_law cd_law ct_law : Value}
    {t_MOST_POSTS : Tok}
    {t_MOST_NODES : Tok}
    {t_MOST_GOALS : Tok}
    {t_MOST_LETTERS : Tok}
    {t_MOST_SIGHTS : Tok}
    (aC : PySem.W.nsIn K mainGlobals "Net" = some (some (.ref C)))
    (a_s_begin : PySem.W.nsIn K mainGlobals "_law_begin" = some (some (.ref f_s_begin)))
    (l_s_begin : K.lookup f_s_begin = some ⟨oc_s_begin, od_s_begin, .func (PySem.W.fnOf "_law_begin" "_law_begin" (defArgs s_begin) (defBody s_begin) (defScope s_begin) .none kV_s_begin dc_s_begin pm_s_begin an_s_begin cd_s_begin ct_s_begin), sl_s_begin⟩)
    (c_s_begin : PySem.W.codeIn K cd_s_begin "_law_begin" = true)
    (k_s_begin : PySem.W.keepIn K (.ref f_s_begin) = true)
    (a_s_blend : PySem.W.nsIn K mainGlobals "_law_blend" = some (some (.ref f_s_blend)))
    (l_s_blend : K.lookup f_s_blend = some ⟨oc_s_blend, od_s_blend, .func (PySem.W.fnOf "_law_blend" "_law_blend" (defArgs s_blend) (defBody s_blend) (defScope s_blend) .none kV_s_blend dc_s_blend pm_s_blend an_s_blend cd_s_blend ct_s_blend), sl_s_blend⟩)
    (c_s_blend : PySem.W.codeIn K cd_s_blend "_law_blend" = true)
    (k_s_blend : PySem.W.keepIn K (.ref f_s_blend) = true)
    (a_s_take : PySem.W.nsIn K mainGlobals "_law_take" = some (some (.ref f_s_take)))
    (l_s_take : K.lookup f_s_take = some ⟨oc_s_take, od_s_take, .func (PySem.W.fnOf "_law_take" "_law_take" (defArgs s_take) (defBody s_take) (defScope s_take) .none kV_s_take dc_s_take pm_s_take an_s_take cd_s_take ct_s_take), sl_s_take⟩)
    (c_s_take : PySem.W.codeIn K cd_s_take "_law_take" = true)
    (k_s_take : PySem.W.keepIn K (.ref f_s_take) = true)
    (a_s_pick : PySem.W.nsIn K mainGlobals "_law_pick" = some (some (.ref f_s_pick)))
    (l_s_pick : K.lookup f_s_pick = some ⟨oc_s_pick, od_s_pick, .func (PySem.W.fnOf "_law_pick" "_law_pick" (defArgs s_pick) (defBody s_pick) (defScope s_pick) .none kV_s_pick dc_s_pick pm_s_pick an_s_pick cd_s_pick ct_s_pick), sl_s_pick⟩)
    (c_s_pick : PySem.W.codeIn K cd_s_pick "_law_pick" = true)
    (k_s_pick : PySem.W.keepIn K (.ref f_s_pick) = true)
    (a_s_mixed : PySem.W.nsIn K mainGlobals "_law_mixed" = some (some (.ref f_s_mixed)))
    (l_s_mixed : K.lookup f_s_mixed = some ⟨oc_s_mixed, od_s_mixed, .func (PySem.W.fnOf "_law_mixed" "_law_mixed" (defArgs s_mixed) (defBody s_mixed) (defScope s_mixed) .none kV_s_mixed dc_s_mixed pm_s_mixed an_s_mixed cd_s_mixed ct_s_mixed), sl_s_mixed⟩)
    (c_s_mixed : PySem.W.codeIn K cd_s_mixed "_law_mixed" = true)
    (k_s_mixed : PySem.W.keepIn K (.ref f_s_mixed) = true)
    (a_s_words : PySem.W.nsIn K mainGlobals "_law_words" = some (some (.ref f_s_words)))
    (l_s_words : K.lookup f_s_words = some ⟨oc_s_words, od_s_words, .func (PySem.W.fnOf "_law_words" "_law_words" (defArgs s_words) (defBody s_words) (defScope s_words) .none kV_s_words dc_s_words pm_s_words an_s_words cd_s_words ct_s_words), sl_s_words⟩)
    (c_s_words : PySem.W.codeIn K cd_s_words "_law_words" = true)
    (k_s_words : PySem.W.keepIn K (.ref f_s_words) = true)
    (a_s_tree : PySem.W.nsIn K mainGlobals "_law_tree" = some (some (.ref f_s_tree)))
    (l_s_tree : K.lookup f_s_tree = some ⟨oc_s_tree, od_s_tree, .func (PySem.W.fnOf "_law_tree" "_law_tree" (defArgs s_tree) (defBody s_tree) (defScope s_tree) .none kV_s_tree dc_s_tree pm_s_tree an_s_tree cd_s_tree ct_s_tree), sl_s_tree⟩)
    (c_s_tree : PySem.W.codeIn K cd_s_tree "_law_tree" = true)
    (k_s_tree : PySem.W.keepIn K (.ref f_s_tree) = true)
    (a_s_path : PySem.W.nsIn K mainGlobals "_law_path" = some (some (.ref f_s_path)))
    (l_s_path : K.lookup f_s_path = some ⟨oc_s_path, od_s_path, .func (PySem.W.fnOf "_law_path" "_law_path" (defArgs s_path) (defBody s_path) (defScope s_path) .none kV_s_path dc_s_path pm_s_path an_s_path cd_s_path ct_s_path), sl_s_path⟩)
    (c_s_path : PySem.W.codeIn K cd_s_path "_law_path" = true)
    (k_s_path : PySem.W.keepIn K (.ref f_s_path) = true)
    (a_s_wild : PySem.W.nsIn K mainGlobals "_law_wild" = some (some (.ref f_s_wild)))
    (l_s_wild : K.lookup f_s_wild = some ⟨oc_s_wild, od_s_wild, .func (PySem.W.fnOf "_law_wild" "_law_wild" (defArgs s_wild) (defBody s_wild) (defScope s_wild) .none kV_s_wild dc_s_wild pm_s_wild an_s_wild cd_s_wild ct_s_wild), sl_s_wild⟩)
    (c_s_wild : PySem.W.codeIn K cd_s_wild "_law_wild" = true)
    (k_s_wild : PySem.W.keepIn K (.ref f_s_wild) = true)
    (a_s_near : PySem.W.nsIn K mainGlobals "_law_near" = some (some (.ref f_s_near)))
    (l_s_near : K.lookup f_s_near = some ⟨oc_s_near, od_s_near, .func (PySem.W.fnOf "_law_near" "_law_near" (defArgs s_near) (defBody s_near) (defScope s_near) .none kV_s_near dc_s_near pm_s_near an_s_near cd_s_near ct_s_near), sl_s_near⟩)
    (c_s_near : PySem.W.codeIn K cd_s_near "_law_near" = true)
    (k_s_near : PySem.W.keepIn K (.ref f_s_near) = true)
    (a_s_pair : PySem.W.nsIn K mainGlobals "_law_pair" = some (some (.ref f_s_pair)))
    (l_s_pair : K.lookup f_s_pair = some ⟨oc_s_pair, od_s_pair, .func (PySem.W.fnOf "_law_pair" "_law_pair" (defArgs s_pair) (defBody s_pair) (defScope s_pair) .none kV_s_pair dc_s_pair pm_s_pair an_s_pair cd_s_pair ct_s_pair), sl_s_pair⟩)
    (c_s_pair : PySem.W.codeIn K cd_s_pair "_law_pair" = true)
    (k_s_pair : PySem.W.keepIn K (.ref f_s_pair) = true)
    (a_s_model : PySem.W.nsIn K mainGlobals "_law_model" = some (some (.ref f_s_model)))
    (l_s_model : K.lookup f_s_model = some ⟨oc_s_model, od_s_model, .func (PySem.W.fnOf "_law_model" "_law_model" (defArgs s_model) (defBody s_model) (defScope s_model) .none kV_s_model dc_s_model pm_s_model an_s_model cd_s_model ct_s_model), sl_s_model⟩)
    (c_s_model : PySem.W.codeIn K cd_s_model "_law_model" = true)
    (k_s_model : PySem.W.keepIn K (.ref f_s_model) = true)
    (a_s_net : PySem.W.nsIn K mainGlobals "_law_net" = some (some (.ref f_s_net)))
    (l_s_net : K.lookup f_s_net = some ⟨oc_s_net, od_s_net, .func (PySem.W.fnOf "_law_net" "_law_net" (defArgs s_net) (defBody s_net) (defScope s_net) .none kV_s_net dc_s_net pm_s_net an_s_net cd_s_net ct_s_net), sl_s_net⟩)
    (c_s_net : PySem.W.codeIn K cd_s_net "_law_net" = true)
    (k_s_net : PySem.W.keepIn K (.ref f_s_net) = true)
    (a_s_moving_dots : PySem.W.nsIn K mainGlobals "_law_moving_dots" = some (some (.ref f_s_moving_dots)))
    (l_s_moving_dots : K.lookup f_s_moving_dots = some ⟨oc_s_moving_dots, od_s_moving_dots, .func (PySem.W.fnOf "_law_moving_dots" "_law_moving_dots" (defArgs s_moving_dots) (defBody s_moving_dots) (defScope s_moving_dots) .none kV_s_moving_dots dc_s_moving_dots pm_s_moving_dots an_s_moving_dots cd_s_moving_dots ct_s_moving_dots), sl_s_moving_dots⟩)
    (c_s_moving_dots : PySem.W.codeIn K cd_s_moving_dots "_law_moving_dots" = true)
    (k_s_moving_dots : PySem.W.keepIn K (.ref f_s_moving_dots) = true)
    (a_s_plan : PySem.W.nsIn K mainGlobals "_law_plan" = some (some (.ref f_s_plan)))
    (l_s_plan : K.lookup f_s_plan = some ⟨oc_s_plan, od_s_plan, .func (PySem.W.fnOf "_law_plan" "_law_plan" (defArgs s_plan) (defBody s_plan) (defScope s_plan) .none kV_s_plan dc_s_plan pm_s_plan an_s_plan cd_s_plan ct_s_plan), sl_s_plan⟩)
    (c_s_plan : PySem.W.codeIn K cd_s_plan "_law_plan" = true)
    (k_s_plan : PySem.W.keepIn K (.ref f_s_plan) = true)
    (a_s_done_in : PySem.W.nsIn K mainGlobals "_law_done_in" = some (some (.ref f_s_done_in)))
    (l_s_done_in : K.lookup f_s_done_in = some ⟨oc_s_done_in, od_s_done_in, .func (PySem.W.fnOf "_law_done_in" "_law_done_in" (defArgs s_done_in) (defBody s_done_in) (defScope s_done_in) .none kV_s_done_in dc_s_done_in pm_s_done_in an_s_done_in cd_s_done_in ct_s_done_in), sl_s_done_in⟩)
    (c_s_done_in : PySem.W.codeIn K cd_s_done_in "_law_done_in" = true)
    (k_s_done_in : PySem.W.keepIn K (.ref f_s_done_in) = true)
    (a_s_hop : PySem.W.nsIn K mainGlobals "_law_hop" = some (some (.ref f_s_hop)))
    (l_s_hop : K.lookup f_s_hop = some ⟨oc_s_hop, od_s_hop, .func (PySem.W.fnOf "_law_hop" "_law_hop" (defArgs s_hop) (defBody s_hop) (defScope s_hop) .none kV_s_hop dc_s_hop pm_s_hop an_s_hop cd_s_hop ct_s_hop), sl_s_hop⟩)
    (c_s_hop : PySem.W.codeIn K cd_s_hop "_law_hop" = true)
    (k_s_hop : PySem.W.keepIn K (.ref f_s_hop) = true)
    (a_s_moved : PySem.W.nsIn K mainGlobals "_law_moved" = some (some (.ref f_s_moved)))
    (l_s_moved : K.lookup f_s_moved = some ⟨oc_s_moved, od_s_moved, .func (PySem.W.fnOf "_law_moved" "_law_moved" (defArgs s_moved) (defBody s_moved) (defScope s_moved) .none kV_s_moved dc_s_moved pm_s_moved an_s_moved cd_s_moved ct_s_moved), sl_s_moved⟩)
    (c_s_moved : PySem.W.codeIn K cd_s_moved "_law_moved" = true)
    (k_s_moved : PySem.W.keepIn K (.ref f_s_moved) = true)
    (a_p_is_list : PySem.W.nsIn K mainGlobals "is_list" = some (some (.ref f_p_is_list)))
    (l_p_is_list : K.lookup f_p_is_list = some ⟨oc_p_is_list, od_p_is_list, .func (PySem.W.fnOf "is_list" "is_list" (defArgs p_is_list) (defBody p_is_list) (defScope p_is_list) .none kV_p_is_list dc_p_is_list pm_p_is_list an_p_is_list cd_p_is_list ct_p_is_list), sl_p_is_list⟩)
    (c_p_is_list : PySem.W.codeIn K cd_p_is_list "is_list" = true)
    (k_p_is_list : PySem.W.keepIn K (.ref f_p_is_list) = true)
    (a_p_is_name : PySem.W.nsIn K mainGlobals "is_name" = some (some (.ref f_p_is_name)))
    (l_p_is_name : K.lookup f_p_is_name = some ⟨oc_p_is_name, od_p_is_name, .func (PySem.W.fnOf "is_name" "is_name" (defArgs p_is_name) (defBody p_is_name) (defScope p_is_name) .none kV_p_is_name dc_p_is_name pm_p_is_name an_p_is_name cd_p_is_name ct_p_is_name), sl_p_is_name⟩)
    (c_p_is_name : PySem.W.codeIn K cd_p_is_name "is_name" = true)
    (k_p_is_name : PySem.W.keepIn K (.ref f_p_is_name) = true)
    (a_p_is_place : PySem.W.nsIn K mainGlobals "is_place" = some (some (.ref f_p_is_place)))
    (l_p_is_place : K.lookup f_p_is_place = some ⟨oc_p_is_place, od_p_is_place, .func (PySem.W.fnOf "is_place" "is_place" (defArgs p_is_place) (defBody p_is_place) (defScope p_is_place) .none kV_p_is_place dc_p_is_place pm_p_is_place an_p_is_place cd_p_is_place ct_p_is_place), sl_p_is_place⟩)
    (c_p_is_place : PySem.W.codeIn K cd_p_is_place "is_place" = true)
    (k_p_is_place : PySem.W.keepIn K (.ref f_p_is_place) = true)
    (a_p_is_table : PySem.W.nsIn K mainGlobals "is_table" = some (some (.ref f_p_is_table)))
    (l_p_is_table : K.lookup f_p_is_table = some ⟨oc_p_is_table, od_p_is_table, .func (PySem.W.fnOf "is_table" "is_table" (defArgs p_is_table) (defBody p_is_table) (defScope p_is_table) .none kV_p_is_table dc_p_is_table pm_p_is_table an_p_is_table cd_p_is_table ct_p_is_table), sl_p_is_table⟩)
    (c_p_is_table : PySem.W.codeIn K cd_p_is_table "is_table" = true)
    (k_p_is_table : PySem.W.keepIn K (.ref f_p_is_table) = true)
    (a_p_are_different : PySem.W.nsIn K mainGlobals "are_different" = some (some (.ref f_p_are_different)))
    (l_p_are_different : K.lookup f_p_are_different = some ⟨oc_p_are_different, od_p_are_different, .func (PySem.W.fnOf "are_different" "are_different" (defArgs p_are_different) (defBody p_are_different) (defScope p_are_different) .none kV_p_are_different dc_p_are_different pm_p_are_different an_p_are_different cd_p_are_different ct_p_are_different), sl_p_are_different⟩)
    (c_p_are_different : PySem.W.codeIn K cd_p_are_different "are_different" = true)
    (k_p_are_different : PySem.W.keepIn K (.ref f_p_are_different) = true)
    (a_p_are_nodes : PySem.W.nsIn K mainGlobals "are_nodes" = some (some (.ref f_p_are_nodes)))
    (l_p_are_nodes : K.lookup f_p_are_nodes = some ⟨oc_p_are_nodes, od_p_are_nodes, .func (PySem.W.fnOf "are_nodes" "are_nodes" (defArgs p_are_nodes) (defBody p_are_nodes) (defScope p_are_nodes) .none kV_p_are_nodes dc_p_are_nodes pm_p_are_nodes an_p_are_nodes cd_p_are_nodes ct_p_are_nodes), sl_p_are_nodes⟩)
    (c_p_are_nodes : PySem.W.codeIn K cd_p_are_nodes "are_nodes" = true)
    (k_p_are_nodes : PySem.W.keepIn K (.ref f_p_are_nodes) = true)
    (a_p_is_pair_of_dicts : PySem.W.nsIn K mainGlobals "is_pair_of_dicts" = some (some (.ref f_p_is_pair_of_dicts)))
    (l_p_is_pair_of_dicts : K.lookup f_p_is_pair_of_dicts = some ⟨oc_p_is_pair_of_dicts, od_p_is_pair_of_dicts, .func (PySem.W.fnOf "is_pair_of_dicts" "is_pair_of_dicts" (defArgs p_is_pair_of_dicts) (defBody p_is_pair_of_dicts) (defScope p_is_pair_of_dicts) .none kV_p_is_pair_of_dicts dc_p_is_pair_of_dicts pm_p_is_pair_of_dicts an_p_is_pair_of_dicts cd_p_is_pair_of_dicts ct_p_is_pair_of_dicts), sl_p_is_pair_of_dicts⟩)
    (c_p_is_pair_of_dicts : PySem.W.codeIn K cd_p_is_pair_of_dicts "is_pair_of_dicts" = true)
    (k_p_is_pair_of_dicts : PySem.W.keepIn K (.ref f_p_is_pair_of_dicts) = true)
    (a_p_are_tables : PySem.W.nsIn K mainGlobals "are_tables" = some (some (.ref f_p_are_tables)))
    (l_p_are_tables : K.lookup f_p_are_tables = some ⟨oc_p_are_tables, od_p_are_tables, .func (PySem.W.fnOf "are_tables" "are_tables" (defArgs p_are_tables) (defBody p_are_tables) (defScope p_are_tables) .none kV_p_are_tables dc_p_are_tables pm_p_are_tables an_p_are_tables cd_p_are_tables ct_p_are_tables), sl_p_are_tables⟩)
    (c_p_are_tables : PySem.W.codeIn K cd_p_are_tables "are_tables" = true)
    (k_p_are_tables : PySem.W.keepIn K (.ref f_p_are_tables) = true)
    (a_p_check_net : PySem.W.nsIn K mainGlobals "check_net" = some (some (.ref f_p_check_net)))
    (l_p_check_net : K.lookup f_p_check_net = some ⟨oc_p_check_net, od_p_check_net, .func (PySem.W.fnOf "check_net" "check_net" (defArgs p_check_net) (defBody p_check_net) (defScope p_check_net) .none kV_p_check_net dc_p_check_net pm_p_check_net an_p_check_net cd_p_check_net ct_p_check_net), sl_p_check_net⟩)
    (c_p_check_net : PySem.W.codeIn K cd_p_check_net "check_net" = true)
    (k_p_check_net : PySem.W.keepIn K (.ref f_p_check_net) = true)
    (a_p_check_goal : PySem.W.nsIn K mainGlobals "check_goal" = some (some (.ref f_p_check_goal)))
    (l_p_check_goal : K.lookup f_p_check_goal = some ⟨oc_p_check_goal, od_p_check_goal, .func (PySem.W.fnOf "check_goal" "check_goal" (defArgs p_check_goal) (defBody p_check_goal) (defScope p_check_goal) .none kV_p_check_goal dc_p_check_goal pm_p_check_goal an_p_check_goal cd_p_check_goal ct_p_check_goal), sl_p_check_goal⟩)
    (c_p_check_goal : PySem.W.codeIn K cd_p_check_goal "check_goal" = true)
    (k_p_check_goal : PySem.W.keepIn K (.ref f_p_check_goal) = true)
    (a_p_check_lot : PySem.W.nsIn K mainGlobals "check_lot" = some (some (.ref f_p_check_lot)))
    (l_p_check_lot : K.lookup f_p_check_lot = some ⟨oc_p_check_lot, od_p_check_lot, .func (PySem.W.fnOf "check_lot" "check_lot" (defArgs p_check_lot) (defBody p_check_lot) (defScope p_check_lot) .none kV_p_check_lot dc_p_check_lot pm_p_check_lot an_p_check_lot cd_p_check_lot ct_p_check_lot), sl_p_check_lot⟩)
    (c_p_check_lot : PySem.W.codeIn K cd_p_check_lot "check_lot" = true)
    (k_p_check_lot : PySem.W.keepIn K (.ref f_p_check_lot) = true)
    (a_p_check_round : PySem.W.nsIn K mainGlobals "check_round" = some (some (.ref f_p_check_round)))
    (l_p_check_round : K.lookup f_p_check_round = some ⟨oc_p_check_round, od_p_check_round, .func (PySem.W.fnOf "check_round" "check_round" (defArgs p_check_round) (defBody p_check_round) (defScope p_check_round) .none kV_p_check_round dc_p_check_round pm_p_check_round an_p_check_round cd_p_check_round ct_p_check_round), sl_p_check_round⟩)
    (c_p_check_round : PySem.W.codeIn K cd_p_check_round "check_round" = true)
    (k_p_check_round : PySem.W.keepIn K (.ref f_p_check_round) = true)
    (a_p_is_lot_of : PySem.W.nsIn K mainGlobals "is_lot_of" = some (some (.ref f_p_is_lot_of)))
    (l_p_is_lot_of : K.lookup f_p_is_lot_of = some ⟨oc_p_is_lot_of, od_p_is_lot_of, .func (PySem.W.fnOf "is_lot_of" "is_lot_of" (defArgs p_is_lot_of) (defBody p_is_lot_of) (defScope p_is_lot_of) .none kV_p_is_lot_of dc_p_is_lot_of pm_p_is_lot_of an_p_is_lot_of cd_p_is_lot_of ct_p_is_lot_of), sl_p_is_lot_of⟩)
    (c_p_is_lot_of : PySem.W.codeIn K cd_p_is_lot_of "is_lot_of" = true)
    (k_p_is_lot_of : PySem.W.keepIn K (.ref f_p_is_lot_of) = true)
    (a_g_goals : PySem.W.findIn K (.ref C) "goals" = some (some (.ref p_g_goals)))
    (ge_g_goals : PySem.W.specialIn K (.ref p_g_goals) "__get__" = some (some (.builtin "property.__get__")))
    (ta_g_goals : PySem.W.takesIn K (.ref p_g_goals) = some true)
    (re_g_goals : PySem.W.recIn K p_g_goals "property" = some (.ref f_g_goals :: r_g_goals))
    (l_g_goals : K.lookup f_g_goals = some ⟨oc_g_goals, od_g_goals, .func (PySem.W.fnOf "goals" "Net.goals" (defArgs c_Net_goals) (defBody c_Net_goals) (defScope c_Net_goals) .none kV_g_goals dc_g_goals pm_g_goals an_g_goals cd_g_goals ct_g_goals), sl_g_goals⟩)
    (c_g_goals : PySem.W.codeIn K cd_g_goals "Net.goals" = true)
    (k_g_goals : PySem.W.keepIn K (.ref f_g_goals) = true)
    (a_g_nodes : PySem.W.findIn K (.ref C) "nodes" = some (some (.ref p_g_nodes)))
    (ge_g_nodes : PySem.W.specialIn K (.ref p_g_nodes) "__get__" = some (some (.builtin "property.__get__")))
    (ta_g_nodes : PySem.W.takesIn K (.ref p_g_nodes) = some true)
    (re_g_nodes : PySem.W.recIn K p_g_nodes "property" = some (.ref f_g_nodes :: r_g_nodes))
    (l_g_nodes : K.lookup f_g_nodes = some ⟨oc_g_nodes, od_g_nodes, .func (PySem.W.fnOf "nodes" "Net.nodes" (defArgs c_Net_nodes) (defBody c_Net_nodes) (defScope c_Net_nodes) .none kV_g_nodes dc_g_nodes pm_g_nodes an_g_nodes cd_g_nodes ct_g_nodes), sl_g_nodes⟩)
    (c_g_nodes : PySem.W.codeIn K cd_g_nodes "Net.nodes" = true)
    (k_g_nodes : PySem.W.keepIn K (.ref f_g_nodes) = true)
    (a_g_changing : PySem.W.findIn K (.ref C) "changing" = some (some (.ref p_g_changing)))
    (ge_g_changing : PySem.W.specialIn K (.ref p_g_changing) "__get__" = some (some (.builtin "property.__get__")))
    (ta_g_changing : PySem.W.takesIn K (.ref p_g_changing) = some true)
    (re_g_changing : PySem.W.recIn K p_g_changing "property" = some (.ref f_g_changing :: r_g_changing))
    (l_g_changing : K.lookup f_g_changing = some ⟨oc_g_changing, od_g_changing, .func (PySem.W.fnOf "changing" "Net.changing" (defArgs c_Net_changing) (defBody c_Net_changing) (defScope c_Net_changing) .none kV_g_changing dc_g_changing pm_g_changing an_g_changing cd_g_changing ct_g_changing), sl_g_changing⟩)
    (c_g_changing : PySem.W.codeIn K cd_g_changing "Net.changing" = true)
    (k_g_changing : PySem.W.keepIn K (.ref f_g_changing) = true)
    (a_p_check_node : PySem.W.nsIn K mainGlobals "check_node" = some (some (.ref f_p_check_node)))
    (l_p_check_node : K.lookup f_p_check_node = some ⟨oc_p_check_node, od_p_check_node, .func (PySem.W.fnOf "check_node" "check_node" (defArgs p_check_node) (defBody p_check_node) (defScope p_check_node) .none kV_p_check_node dc_p_check_node pm_p_check_node an_p_check_node cd_p_check_node ct_p_check_node), sl_p_check_node⟩)
    (c_p_check_node : PySem.W.codeIn K cd_p_check_node "check_node" = true)
    (k_p_check_node : PySem.W.keepIn K (.ref f_p_check_node) = true)
    (a_p_is_number : PySem.W.nsIn K mainGlobals "is_number" = some (some (.ref f_p_is_number)))
    (l_p_is_number : K.lookup f_p_is_number = some ⟨oc_p_is_number, od_p_is_number, .func (PySem.W.fnOf "is_number" "is_number" (defArgs p_is_number) (defBody p_is_number) (defScope p_is_number) .none kV_p_is_number dc_p_is_number pm_p_is_number an_p_is_number cd_p_is_number ct_p_is_number), sl_p_is_number⟩)
    (c_p_is_number : PySem.W.codeIn K cd_p_is_number "is_number" = true)
    (k_p_is_number : PySem.W.keepIn K (.ref f_p_is_number) = true)
    (a_p_is_count : PySem.W.nsIn K mainGlobals "is_count" = some (some (.ref f_p_is_count)))
    (l_p_is_count : K.lookup f_p_is_count = some ⟨oc_p_is_count, od_p_is_count, .func (PySem.W.fnOf "is_count" "is_count" (defArgs p_is_count) (defBody p_is_count) (defScope p_is_count) .none kV_p_is_count dc_p_is_count pm_p_is_count an_p_is_count cd_p_is_count ct_p_is_count), sl_p_is_count⟩)
    (c_p_is_count : PySem.W.codeIn K cd_p_is_count "is_count" = true)
    (k_p_is_count : PySem.W.keepIn K (.ref f_p_is_count) = true)
    (a_p_ways : PySem.W.nsIn K mainGlobals "ways" = some (some (.ref f_p_ways)))
    (l_p_ways : K.lookup f_p_ways = some ⟨oc_p_ways, od_p_ways, .func (PySem.W.fnOf "ways" "ways" (defArgs p_ways) (defBody p_ways) (defScope p_ways) .none kV_p_ways dc_p_ways pm_p_ways an_p_ways cd_p_ways ct_p_ways), sl_p_ways⟩)
    (c_p_ways : PySem.W.codeIn K cd_p_ways "ways" = true)
    (k_p_ways : PySem.W.keepIn K (.ref f_p_ways) = true)
    (a_p_joined : PySem.W.nsIn K mainGlobals "joined" = some (some (.ref f_p_joined)))
    (l_p_joined : K.lookup f_p_joined = some ⟨oc_p_joined, od_p_joined, .func (PySem.W.fnOf "joined" "joined" (defArgs p_joined) (defBody p_joined) (defScope p_joined) .none kV_p_joined dc_p_joined pm_p_joined an_p_joined cd_p_joined ct_p_joined), sl_p_joined⟩)
    (c_p_joined : PySem.W.codeIn K cd_p_joined "joined" = true)
    (k_p_joined : PySem.W.keepIn K (.ref f_p_joined) = true)
    (a_p_parts_of : PySem.W.nsIn K mainGlobals "parts_of" = some (some (.ref f_p_parts_of)))
    (l_p_parts_of : K.lookup f_p_parts_of = some ⟨oc_p_parts_of, od_p_parts_of, .func (PySem.W.fnOf "parts_of" "parts_of" (defArgs p_parts_of) (defBody p_parts_of) (defScope p_parts_of) .none kV_p_parts_of dc_p_parts_of pm_p_parts_of an_p_parts_of (.ref cc) ct_p_parts_of), sl_p_parts_of⟩)
    (c_p_parts_of : PySem.W.codeIn K (.ref cc) "parts_of" = true)
    (k_p_parts_of : PySem.W.keepIn K (.ref f_p_parts_of) = true)
    (a_p_is_part : PySem.W.nsIn K mainGlobals "is_part" = some (some (.ref f_p_is_part)))
    (l_p_is_part : K.lookup f_p_is_part = some ⟨oc_p_is_part, od_p_is_part, .func (PySem.W.fnOf "is_part" "is_part" (defArgs p_is_part) (defBody p_is_part) (defScope p_is_part) .none kV_p_is_part dc_p_is_part pm_p_is_part an_p_is_part cd_p_is_part ct_p_is_part), sl_p_is_part⟩)
    (c_p_is_part : PySem.W.codeIn K cd_p_is_part "is_part" = true)
    (k_p_is_part : PySem.W.keepIn K (.ref f_p_is_part) = true)
    (a_p_stages_of : PySem.W.nsIn K mainGlobals "stages_of" = some (some (.ref f_p_stages_of)))
    (l_p_stages_of : K.lookup f_p_stages_of = some ⟨oc_p_stages_of, od_p_stages_of, .func (PySem.W.fnOf "stages_of" "stages_of" (defArgs p_stages_of) (defBody p_stages_of) (defScope p_stages_of) .none kV_p_stages_of dc_p_stages_of pm_p_stages_of an_p_stages_of cd_p_stages_of ct_p_stages_of), sl_p_stages_of⟩)
    (c_p_stages_of : PySem.W.codeIn K cd_p_stages_of "stages_of" = true)
    (k_p_stages_of : PySem.W.keepIn K (.ref f_p_stages_of) = true)
    (a_p_first_wrong_round : PySem.W.nsIn K mainGlobals "first_wrong_round" = some (some (.ref f_p_first_wrong_round)))
    (l_p_first_wrong_round : K.lookup f_p_first_wrong_round = some ⟨oc_p_first_wrong_round, od_p_first_wrong_round, .func (PySem.W.fnOf "first_wrong_round" "first_wrong_round" (defArgs p_first_wrong_round) (defBody p_first_wrong_round) (defScope p_first_wrong_round) .none kV_p_first_wrong_round dc_p_first_wrong_round pm_p_first_wrong_round an_p_first_wrong_round cd_p_first_wrong_round ct_p_first_wrong_round), sl_p_first_wrong_round⟩)
    (c_p_first_wrong_round : PySem.W.codeIn K cd_p_first_wrong_round "first_wrong_round" = true)
    (k_p_first_wrong_round : PySem.W.keepIn K (.ref f_p_first_wrong_round) = true)
    (a_p_check_plan : PySem.W.nsIn K mainGlobals "check_plan" = some (some (.ref f_p_check_plan)))
    (l_p_check_plan : K.lookup f_p_check_plan = some ⟨oc_p_check_plan, od_p_check_plan, .func (PySem.W.fnOf "check_plan" "check_plan" (defArgs p_check_plan) (defBody p_check_plan) (defScope p_check_plan) .none kV_p_check_plan dc_p_check_plan pm_p_check_plan an_p_check_plan cd_p_check_plan ct_p_check_plan), sl_p_check_plan⟩)
    (c_p_check_plan : PySem.W.codeIn K cd_p_check_plan "check_plan" = true)
    (k_p_check_plan : PySem.W.keepIn K (.ref f_p_check_plan) = true)
    (a_p_is_story : PySem.W.nsIn K mainGlobals "is_story" = some (some (.ref f_p_is_story)))
    (l_p_is_story : K.lookup f_p_is_story = some ⟨oc_p_is_story, od_p_is_story, .func (PySem.W.fnOf "is_story" "is_story" (defArgs p_is_story) (defBody p_is_story) (defScope p_is_story) .none kV_p_is_story dc_p_is_story pm_p_is_story an_p_is_story cd_p_is_story ct_p_is_story), sl_p_is_story⟩)
    (c_p_is_story : PySem.W.codeIn K cd_p_is_story "is_story" = true)
    (k_p_is_story : PySem.W.keepIn K (.ref f_p_is_story) = true)
    (a_p_story : PySem.W.nsIn K mainGlobals "story" = some (some (.ref f_p_story)))
    (l_p_story : K.lookup f_p_story = some ⟨oc_p_story, od_p_story, .func (PySem.W.fnOf "story" "story" (defArgs p_story) (defBody p_story) (defScope p_story) .none kV_p_story dc_p_story pm_p_story an_p_story cd_p_story ct_p_story), sl_p_story⟩)
    (c_p_story : PySem.W.codeIn K cd_p_story "story" = true)
    (k_p_story : PySem.W.keepIn K (.ref f_p_story) = true)
    (a_p_stages : PySem.W.nsIn K mainGlobals "stages" = some (some (.ref f_p_stages)))
    (l_p_stages : K.lookup f_p_stages = some ⟨oc_p_stages, od_p_stages, .func (PySem.W.fnOf "stages" "stages" (defArgs p_stages) (defBody p_stages) (defScope p_stages) .none kV_p_stages dc_p_stages pm_p_stages an_p_stages cd_p_stages ct_p_stages), sl_p_stages⟩)
    (c_p_stages : PySem.W.codeIn K cd_p_stages "stages" = true)
    (k_p_stages : PySem.W.keepIn K (.ref f_p_stages) = true)
    (a_p_known : PySem.W.nsIn K mainGlobals "known" = some (some (.ref f_p_known)))
    (l_p_known : K.lookup f_p_known = some ⟨oc_p_known, od_p_known, .func (PySem.W.fnOf "known" "known" (defArgs p_known) (defBody p_known) (defScope p_known) .none kV_p_known dc_p_known pm_p_known an_p_known cd_p_known ct_p_known), sl_p_known⟩)
    (c_p_known : PySem.W.codeIn K cd_p_known "known" = true)
    (k_p_known : PySem.W.keepIn K (.ref f_p_known) = true)
    (a_p_clash : PySem.W.nsIn K mainGlobals "clash" = some (some (.ref f_p_clash)))
    (l_p_clash : K.lookup f_p_clash = some ⟨oc_p_clash, od_p_clash, .func (PySem.W.fnOf "clash" "clash" (defArgs p_clash) (defBody p_clash) (defScope p_clash) .none kV_p_clash dc_p_clash pm_p_clash an_p_clash cd_p_clash ct_p_clash), sl_p_clash⟩)
    (c_p_clash : PySem.W.codeIn K cd_p_clash "clash" = true)
    (k_p_clash : PySem.W.keepIn K (.ref f_p_clash) = true)
    (a_p_states_seen : PySem.W.nsIn K mainGlobals "states_seen" = some (some (.ref f_p_states_seen)))
    (l_p_states_seen : K.lookup f_p_states_seen = some ⟨oc_p_states_seen, od_p_states_seen, .func (PySem.W.fnOf "states_seen" "states_seen" (defArgs p_states_seen) (defBody p_states_seen) (defScope p_states_seen) .none kV_p_states_seen dc_p_states_seen pm_p_states_seen an_p_states_seen cd_p_states_seen ct_p_states_seen), sl_p_states_seen⟩)
    (c_p_states_seen : PySem.W.codeIn K cd_p_states_seen "states_seen" = true)
    (k_p_states_seen : PySem.W.keepIn K (.ref f_p_states_seen) = true)
    (a_p_states_in_stories : PySem.W.nsIn K mainGlobals "states_in_stories" = some (some (.ref f_p_states_in_stories)))
    (l_p_states_in_stories : K.lookup f_p_states_in_stories = some ⟨oc_p_states_in_stories, od_p_states_in_stories, .func (PySem.W.fnOf "states_in_stories" "states_in_stories" (defArgs p_states_in_stories) (defBody p_states_in_stories) (defScope p_states_in_stories) .none kV_p_states_in_stories dc_p_states_in_stories pm_p_states_in_stories an_p_states_in_stories cd_p_states_in_stories ct_p_states_in_stories), sl_p_states_in_stories⟩)
    (c_p_states_in_stories : PySem.W.codeIn K cd_p_states_in_stories "states_in_stories" = true)
    (k_p_states_in_stories : PySem.W.keepIn K (.ref f_p_states_in_stories) = true)
    (a_p_is_state : PySem.W.nsIn K mainGlobals "is_state" = some (some (.ref f_p_is_state)))
    (l_p_is_state : K.lookup f_p_is_state = some ⟨oc_p_is_state, od_p_is_state, .func (PySem.W.fnOf "is_state" "is_state" (defArgs p_is_state) (defBody p_is_state) (defScope p_is_state) .none kV_p_is_state dc_p_is_state pm_p_is_state an_p_is_state cd_p_is_state ct_p_is_state), sl_p_is_state⟩)
    (c_p_is_state : PySem.W.codeIn K cd_p_is_state "is_state" = true)
    (k_p_is_state : PySem.W.keepIn K (.ref f_p_is_state) = true)
    (a_p_can_follow : PySem.W.nsIn K mainGlobals "can_follow" = some (some (.ref f_p_can_follow)))
    (l_p_can_follow : K.lookup f_p_can_follow = some ⟨oc_p_can_follow, od_p_can_follow, .func (PySem.W.fnOf "can_follow" "can_follow" (defArgs p_can_follow) (defBody p_can_follow) (defScope p_can_follow) .none kV_p_can_follow dc_p_can_follow pm_p_can_follow an_p_can_follow cd_p_can_follow ct_p_can_follow), sl_p_can_follow⟩)
    (c_p_can_follow : PySem.W.codeIn K cd_p_can_follow "can_follow" = true)
    (k_p_can_follow : PySem.W.keepIn K (.ref f_p_can_follow) = true)
    (a_p_now_new : PySem.W.nsIn K mainGlobals "now_new" = some (some (.ref f_p_now_new)))
    (l_p_now_new : K.lookup f_p_now_new = some ⟨oc_p_now_new, od_p_now_new, .func (PySem.W.fnOf "now_new" "now_new" (defArgs p_now_new) (defBody p_now_new) (defScope p_now_new) .none kV_p_now_new dc_p_now_new pm_p_now_new an_p_now_new cd_p_now_new ct_p_now_new), sl_p_now_new⟩)
    (c_p_now_new : PySem.W.codeIn K cd_p_now_new "now_new" = true)
    (k_p_now_new : PySem.W.keepIn K (.ref f_p_now_new) = true)
    (a_p_is_seen_in : PySem.W.nsIn K mainGlobals "is_seen_in" = some (some (.ref f_p_is_seen_in)))
    (l_p_is_seen_in : K.lookup f_p_is_seen_in = some ⟨oc_p_is_seen_in, od_p_is_seen_in, .func (PySem.W.fnOf "is_seen_in" "is_seen_in" (defArgs p_is_seen_in) (defBody p_is_seen_in) (defScope p_is_seen_in) .none kV_p_is_seen_in dc_p_is_seen_in pm_p_is_seen_in an_p_is_seen_in cd_p_is_seen_in ct_p_is_seen_in), sl_p_is_seen_in⟩)
    (c_p_is_seen_in : PySem.W.codeIn K cd_p_is_seen_in "is_seen_in" = true)
    (k_p_is_seen_in : PySem.W.keepIn K (.ref f_p_is_seen_in) = true)
    (a_p_is_sight : PySem.W.nsIn K mainGlobals "is_sight" = some (some (.ref f_p_is_sight)))
    (l_p_is_sight : K.lookup f_p_is_sight = some ⟨oc_p_is_sight, od_p_is_sight, .func (PySem.W.fnOf "is_sight" "is_sight" (defArgs p_is_sight) (defBody p_is_sight) (defScope p_is_sight) .none kV_p_is_sight dc_p_is_sight pm_p_is_sight an_p_is_sight cd_p_is_sight ct_p_is_sight), sl_p_is_sight⟩)
    (c_p_is_sight : PySem.W.codeIn K cd_p_is_sight "is_sight" = true)
    (k_p_is_sight : PySem.W.keepIn K (.ref f_p_is_sight) = true)
    (a_p_check_sights : PySem.W.nsIn K mainGlobals "check_sights" = some (some (.ref f_p_check_sights)))
    (l_p_check_sights : K.lookup f_p_check_sights = some ⟨oc_p_check_sights, od_p_check_sights, .func (PySem.W.fnOf "check_sights" "check_sights" (defArgs p_check_sights) (defBody p_check_sights) (defScope p_check_sights) .none kV_p_check_sights dc_p_check_sights pm_p_check_sights an_p_check_sights cd_p_check_sights ct_p_check_sights), sl_p_check_sights⟩)
    (c_p_check_sights : PySem.W.codeIn K cd_p_check_sights "check_sights" = true)
    (k_p_check_sights : PySem.W.keepIn K (.ref f_p_check_sights) = true)
    (a_p_check_asked : PySem.W.nsIn K mainGlobals "check_asked" = some (some (.ref f_p_check_asked)))
    (l_p_check_asked : K.lookup f_p_check_asked = some ⟨oc_p_check_asked, od_p_check_asked, .func (PySem.W.fnOf "check_asked" "check_asked" (defArgs p_check_asked) (defBody p_check_asked) (defScope p_check_asked) .none kV_p_check_asked dc_p_check_asked pm_p_check_asked an_p_check_asked cd_p_check_asked ct_p_check_asked), sl_p_check_asked⟩)
    (c_p_check_asked : PySem.W.codeIn K cd_p_check_asked "check_asked" = true)
    (k_p_check_asked : PySem.W.keepIn K (.ref f_p_check_asked) = true)
    (a_m_way : PySem.W.findIn K (.ref C) "way" = some (some (.ref f_m_way)))
    (i_m_way : PySem.W.isFn K (.ref f_m_way) = true)
    (l_m_way : K.lookup f_m_way = some ⟨oc_m_way, od_m_way, .func (PySem.W.fnOf "way" "Net.way" (defArgs c_Net_way) (defBody c_Net_way) (defScope c_Net_way) .none kV_m_way dc_m_way pm_m_way an_m_way cd_m_way ct_m_way), sl_m_way⟩)
    (c_m_way : PySem.W.codeIn K cd_m_way "Net.way" = true)
    (k_m_way : PySem.W.keepIn K (.ref f_m_way) = true)
    (a_g_tables : PySem.W.findIn K (.ref C) "tables" = some (some (.ref p_g_tables)))
    (ge_g_tables : PySem.W.specialIn K (.ref p_g_tables) "__get__" = some (some (.builtin "property.__get__")))
    (ta_g_tables : PySem.W.takesIn K (.ref p_g_tables) = some true)
    (re_g_tables : PySem.W.recIn K p_g_tables "property" = some (.ref f_g_tables :: r_g_tables))
    (l_g_tables : K.lookup f_g_tables = some ⟨oc_g_tables, od_g_tables, .func (PySem.W.fnOf "tables" "Net.tables" (defArgs c_Net_tables) (defBody c_Net_tables) (defScope c_Net_tables) .none kV_g_tables dc_g_tables pm_g_tables an_g_tables cd_g_tables ct_g_tables), sl_g_tables⟩)
    (c_g_tables : PySem.W.codeIn K cd_g_tables "Net.tables" = true)
    (k_g_tables : PySem.W.keepIn K (.ref f_g_tables) = true)
    (a_law : PySem.W.nsIn K mainGlobals "law" = some (some (.ref f_law)))
    (l_law : K.lookup f_law = some ⟨oc_law, od_law, .func (PySem.W.fnOf "law" "law" (defArgs s_law) (defBody s_law) (defScope s_law) .none kV_law dc_law pm_law an_law cd_law ct_law), sl_law⟩)
    (c_law : PySem.W.codeIn K cd_law "law" = true)
    (k_law : PySem.W.keepIn K (.ref f_law) = true)
    (aI : PySem.W.findIn K (.ref C) "__init__" = some (some (.ref fI)))
    (iI : PySem.W.isFn K (.ref fI) = true)
    (lI : K.lookup fI = some ⟨ocI, odI, .func (PySem.W.fnOf "__init__" "Net.__init__" (defArgs c_Net_init) (defBody c_Net_init) (defScope c_Net_init) (.ref TI) kVI dcI pmI anI cdI ctI), slI⟩)
    (cI : PySem.W.codeIn K cdI "Net.__init__" = true)
    (kI : PySem.W.keepIn K (.ref fI) = true)
    (lT : K.lookup TI = some ⟨ocT, odT, .seq [Value.ref q1, Value.ref q2].toArray nT, slT⟩)
    (pg : PySem.W.plainGet K C Str.empty = true)
    (hd : PySem.W.hasDictIn K C = true)
    (po : PySem.W.plainOver K C = true)
    (sa : PySem.W.findIn K (.ref C) "__setattr__" = some (some (.builtin "object.__setattr__")))
    (mk : PySem.W.makesIn K C = true)
    (kc : PySem.W.keepIn K (.ref C) = true)
    (nT_ : PySem.W.findIn K (.ref C) "_tables" = some none)
    (nN_ : PySem.W.findIn K (.ref C) "_nodes" = some none)
    (nS_ : PySem.W.findIn K (.ref C) "_sources" = some none)
    (nP_ : PySem.W.findIn K (.ref C) "_posts" = some none)
    (ha : PySem.W.findIn K (.ref C) "__class__" = some (some (.builtin "object.__class__")))
    (hn : PySem.W.specialIn K (.builtin "object.__class__") "__get__" = some (some (.builtin "getset_descriptor.__get__")))
    (hk : PySem.W.takesIn K (.builtin "object.__class__") = some true)
    (hm : PySem.W.mroIn K C (.type "object") = some true)
    (v_MOST_POSTS : PySem.W.nsIn K mainGlobals "MOST_POSTS" = some (some (.int 2 t_MOST_POSTS)))
    (v_MOST_NODES : PySem.W.nsIn K mainGlobals "MOST_NODES" = some (some (.int 6 t_MOST_NODES)))
    (v_MOST_GOALS : PySem.W.nsIn K mainGlobals "MOST_GOALS" = some (some (.int 2 t_MOST_GOALS)))
    (v_MOST_LETTERS : PySem.W.nsIn K mainGlobals "MOST_LETTERS" = some (some (.int 6 t_MOST_LETTERS)))
    (v_MOST_SIGHTS : PySem.W.nsIn K mainGlobals "MOST_SIGHTS" = some (some (.int 12 t_MOST_SIGHTS)))
    (z_int : PySem.W.nsIn K mainGlobals "int" = some none)
    (z_len : PySem.W.nsIn K mainGlobals "len" = some none)
    (z_abs : PySem.W.nsIn K mainGlobals "abs" = some none)
    (z_list : PySem.W.nsIn K mainGlobals "list" = some none)
    (z_dict : PySem.W.nsIn K mainGlobals "dict" = some none)
    (z_sorted : PySem.W.nsIn K mainGlobals "sorted" = some none)
    (z_range : PySem.W.nsIn K mainGlobals "range" = some none)
    (z_isinstance : PySem.W.nsIn K mainGlobals "isinstance" = some none)
    (z_str : PySem.W.nsIn K mainGlobals "str" = some none)
    (z_tuple : PySem.W.nsIn K mainGlobals "tuple" = some none)
    (z_all : PySem.W.nsIn K mainGlobals "all" = some none)
    (z_any : PySem.W.nsIn K mainGlobals "any" = some none)
    (z_set : PySem.W.nsIn K mainGlobals "set" = some none)
    (z_enumerate : PySem.W.nsIn K mainGlobals "enumerate" = some none)
    (z_min : PySem.W.nsIn K mainGlobals "min" = some none)
    (z_repr : PySem.W.nsIn K mainGlobals "repr" = some none)
    (z_reversed : PySem.W.nsIn K mainGlobals "reversed" = some none)
    (z_max : PySem.W.nsIn K mainGlobals "max" = some none)
    (z_zip : PySem.W.nsIn K mainGlobals "zip" = some none)
    (z_bool : PySem.W.nsIn K mainGlobals "bool" = some none)
    : ∃ fd : FuncData, (∀ (s : Shared) (v : Value), BindsTo s fd ⟨[v], []⟩ [("script", v)]) ∧ ∀ base : Heap, K.In base → base.Ns mainGlobals mg → LamX.TabB base mg cc Pt → FnOk P w K mg base CX0 8 fa fd ["script"] (spLaw K [(Pt, ("parts_of.<locals>.<lambda>" : Str))]) := by
  have e := hfa.symm.trans (PySem.W.mg_of X G a_law)
  cases e
  have T : NetTxt K C := ⟨⟨pg, hd, po, sa⟩, nT_, nN_, nS_, nP_⟩
  have Is : NetIsi K C := ⟨ha, hn, hk, hm, if_pos (beq_self_eq_true _)⟩
  have mNet := PySem.W.mg_of X G aC
  have F_s_begin := fun_mk (st := s_begin) l_s_begin c_s_begin k_s_begin
  have b_s_begin := F_s_begin.binds (ps := ["script"]) fun _ _ _ _ _ _ us hl => match us, hl with | [_], _ => rfl
  have g_s_begin := PySem.W.mg_of X G a_s_begin
  have F_s_blend := fun_mk (st := s_blend) l_s_blend c_s_blend k_s_blend
  have b_s_blend := F_s_blend.binds (ps := ["draw"]) fun _ _ _ _ _ _ us hl => match us, hl with | [_], _ => rfl
  have g_s_blend := PySem.W.mg_of X G a_s_blend
  have F_s_take := fun_mk (st := s_take) l_s_take c_s_take k_s_take
  have b_s_take := F_s_take.binds (ps := ["draw", "size"]) fun _ _ _ _ _ _ us hl => match us, hl with | [_, _], _ => rfl
  have g_s_take := PySem.W.mg_of X G a_s_take
  have F_s_pick := fun_mk (st := s_pick) l_s_pick c_s_pick k_s_pick
  have b_s_pick := F_s_pick.binds (ps := ["draw", "some"]) fun _ _ _ _ _ _ us hl => match us, hl with | [_, _], _ => rfl
  have g_s_pick := PySem.W.mg_of X G a_s_pick
  have F_s_mixed := fun_mk (st := s_mixed) l_s_mixed c_s_mixed k_s_mixed
  have b_s_mixed := F_s_mixed.binds (ps := ["draw", "some"]) fun _ _ _ _ _ _ us hl => match us, hl with | [_, _], _ => rfl
  have g_s_mixed := PySem.W.mg_of X G a_s_mixed
  have F_s_words := fun_mk (st := s_words) l_s_words c_s_words k_s_words
  have b_s_words := F_s_words.binds (ps := ["draw", "count"]) fun _ _ _ _ _ _ us hl => match us, hl with | [_, _], _ => rfl
  have g_s_words := PySem.W.mg_of X G a_s_words
  have F_s_tree := fun_mk (st := s_tree) l_s_tree c_s_tree k_s_tree
  have b_s_tree := F_s_tree.binds (ps := ["draw", "some", "end"]) fun _ _ _ _ _ _ us hl => match us, hl with | [_, _, _], _ => rfl
  have g_s_tree := PySem.W.mg_of X G a_s_tree
  have F_s_path := fun_mk (st := s_path) l_s_path c_s_path k_s_path
  have b_s_path := F_s_path.binds (ps := ["draw", "some", "end"]) fun _ _ _ _ _ _ us hl => match us, hl with | [_, _, _], _ => rfl
  have g_s_path := PySem.W.mg_of X G a_s_path
  have F_s_wild := fun_mk (st := s_wild) l_s_wild c_s_wild k_s_wild
  have b_s_wild := F_s_wild.binds (ps := ["draw", "some", "end"]) fun _ _ _ _ _ _ us hl => match us, hl with | [_, _, _], _ => rfl
  have g_s_wild := PySem.W.mg_of X G a_s_wild
  have F_s_near := fun_mk (st := s_near) l_s_near c_s_near k_s_near
  have b_s_near := F_s_near.binds (ps := ["draw", "table", "end"]) fun _ _ _ _ _ _ us hl => match us, hl with | [_, _, _], _ => rfl
  have g_s_near := PySem.W.mg_of X G a_s_near
  have F_s_pair := fun_mk (st := s_pair) l_s_pair c_s_pair k_s_pair
  have b_s_pair := F_s_pair.binds (ps := ["draw", "some", "end"]) fun _ _ _ _ _ _ us hl => match us, hl with | [_, _, _], _ => rfl
  have g_s_pair := PySem.W.mg_of X G a_s_pair
  have F_s_model := fun_mk (st := s_model) l_s_model c_s_model k_s_model
  have b_s_model := F_s_model.binds (ps := ["draw", "ends", "most"]) fun _ _ _ _ _ _ us hl => match us, hl with | [_, _, _], _ => rfl
  have g_s_model := PySem.W.mg_of X G a_s_model
  have F_s_net := fun_mk (st := s_net) l_s_net c_s_net k_s_net
  have b_s_net := F_s_net.binds (ps := ["model"]) fun _ _ _ _ _ _ us hl => match us, hl with | [_], _ => rfl
  have g_s_net := PySem.W.mg_of X G a_s_net
  have F_s_moving_dots := fun_mk (st := s_moving_dots) l_s_moving_dots c_s_moving_dots k_s_moving_dots
  have b_s_moving_dots := F_s_moving_dots.binds (ps := ["model"]) fun _ _ _ _ _ _ us hl => match us, hl with | [_], _ => rfl
  have g_s_moving_dots := PySem.W.mg_of X G a_s_moving_dots
  have F_s_plan := fun_mk (st := s_plan) l_s_plan c_s_plan k_s_plan
  have b_s_plan := F_s_plan.binds (ps := ["draw", "model"]) fun _ _ _ _ _ _ us hl => match us, hl with | [_, _], _ => rfl
  have g_s_plan := PySem.W.mg_of X G a_s_plan
  have F_s_done_in := fun_mk (st := s_done_in) l_s_done_in c_s_done_in k_s_done_in
  have b_s_done_in := F_s_done_in.binds (ps := ["trail", "stage"]) fun _ _ _ _ _ _ us hl => match us, hl with | [_, _], _ => rfl
  have g_s_done_in := PySem.W.mg_of X G a_s_done_in
  have F_s_hop := fun_mk (st := s_hop) l_s_hop c_s_hop k_s_hop
  have b_s_hop := F_s_hop.binds (ps := ["model", "trail", "end", "dot", "stage", "on"]) fun _ _ _ _ _ _ us hl => match us, hl with | [_, _, _, _, _, _], _ => rfl
  have g_s_hop := PySem.W.mg_of X G a_s_hop
  have F_s_moved := fun_mk (st := s_moved) l_s_moved c_s_moved k_s_moved
  have b_s_moved := F_s_moved.binds (ps := ["draw", "model", "plan"]) fun _ _ _ _ _ _ us hl => match us, hl with | [_, _, _], _ => rfl
  have g_s_moved := PySem.W.mg_of X G a_s_moved
  have F_p_is_list := fun_mk (st := p_is_list) l_p_is_list c_p_is_list k_p_is_list
  have b_p_is_list := F_p_is_list.binds (ps := ["value"]) fun _ _ _ _ _ _ us hl => match us, hl with | [_], _ => rfl
  have g_p_is_list := PySem.W.mg_of X G a_p_is_list
  have F_p_is_name := fun_mk (st := p_is_name) l_p_is_name c_p_is_name k_p_is_name
  have b_p_is_name := F_p_is_name.binds (ps := ["value"]) fun _ _ _ _ _ _ us hl => match us, hl with | [_], _ => rfl
  have g_p_is_name := PySem.W.mg_of X G a_p_is_name
  have F_p_is_place := fun_mk (st := p_is_place) l_p_is_place c_p_is_place k_p_is_place
  have b_p_is_place := F_p_is_place.binds (ps := ["value", "node", "nodes", "goal"]) fun _ _ _ _ _ _ us hl => match us, hl with | [_, _, _, _], _ => rfl
  have g_p_is_place := PySem.W.mg_of X G a_p_is_place
  have F_p_is_table := fun_mk (st := p_is_table) l_p_is_table c_p_is_table k_p_is_table
  have b_p_is_table := F_p_is_table.binds (ps := ["table", "nodes", "goal"]) fun _ _ _ _ _ _ us hl => match us, hl with | [_, _, _], _ => rfl
  have g_p_is_table := PySem.W.mg_of X G a_p_is_table
  have F_p_are_different := fun_mk (st := p_are_different) l_p_are_different c_p_are_different k_p_are_different
  have b_p_are_different := F_p_are_different.binds (ps := ["value", "nodes"]) fun _ _ _ _ _ _ us hl => match us, hl with | [_, _], _ => rfl
  have g_p_are_different := PySem.W.mg_of X G a_p_are_different
  have F_p_are_nodes := fun_mk (st := p_are_nodes) l_p_are_nodes c_p_are_nodes k_p_are_nodes
  have b_p_are_nodes := F_p_are_nodes.binds (ps := ["names", "goals"]) fun _ _ _ _ _ _ us hl => match us, hl with | [_, _], _ => rfl
  have g_p_are_nodes := PySem.W.mg_of X G a_p_are_nodes
  have F_p_is_pair_of_dicts := fun_mk (st := p_is_pair_of_dicts) l_p_is_pair_of_dicts c_p_is_pair_of_dicts k_p_is_pair_of_dicts
  have b_p_is_pair_of_dicts := F_p_is_pair_of_dicts.binds (ps := ["value"]) fun _ _ _ _ _ _ us hl => match us, hl with | [_], _ => rfl
  have g_p_is_pair_of_dicts := PySem.W.mg_of X G a_p_is_pair_of_dicts
  have F_p_are_tables := fun_mk (st := p_are_tables) l_p_are_tables c_p_are_tables k_p_are_tables
  have b_p_are_tables := F_p_are_tables.binds (ps := ["value"]) fun _ _ _ _ _ _ us hl => match us, hl with | [_], _ => rfl
  have g_p_are_tables := PySem.W.mg_of X G a_p_are_tables
  have F_p_check_net := fun_mk (st := p_check_net) l_p_check_net c_p_check_net k_p_check_net
  have b_p_check_net := F_p_check_net.binds (ps := ["net"]) fun _ _ _ _ _ _ us hl => match us, hl with | [_], _ => rfl
  have g_p_check_net := PySem.W.mg_of X G a_p_check_net
  have F_p_check_goal := fun_mk (st := p_check_goal) l_p_check_goal c_p_check_goal k_p_check_goal
  have b_p_check_goal := F_p_check_goal.binds (ps := ["net", "goal"]) fun _ _ _ _ _ _ us hl => match us, hl with | [_, _], _ => rfl
  have g_p_check_goal := PySem.W.mg_of X G a_p_check_goal
  have F_p_check_lot := fun_mk (st := p_check_lot) l_p_check_lot c_p_check_lot k_p_check_lot
  have b_p_check_lot := F_p_check_lot.binds (ps := ["net", "lot", "part"]) fun _ _ _ _ _ _ us hl => match us, hl with | [_, _, _], _ => rfl
  have g_p_check_lot := PySem.W.mg_of X G a_p_check_lot
  have F_p_check_round := fun_mk (st := p_check_round) l_p_check_round c_p_check_round k_p_check_round
  have b_p_check_round := F_p_check_round.binds (ps := ["net", "done", "lot", "part"]) fun _ _ _ _ _ _ us hl => match us, hl with | [_, _, _, _], _ => rfl
  have g_p_check_round := PySem.W.mg_of X G a_p_check_round
  have F_p_is_lot_of := fun_mk (st := p_is_lot_of) l_p_is_lot_of c_p_is_lot_of k_p_is_lot_of
  have b_p_is_lot_of := F_p_is_lot_of.binds (ps := ["value", "nodes"]) fun _ _ _ _ _ _ us hl => match us, hl with | [_, _], _ => rfl
  have g_p_is_lot_of := PySem.W.mg_of X G a_p_is_lot_of
  have F_g_goals := fun_mk (st := c_Net_goals) l_g_goals c_g_goals k_g_goals
  have b_g_goals := F_g_goals.binds (ps := ["self"]) fun _ _ _ _ _ _ us hl => match us, hl with | [_], _ => rfl
  have F_g_nodes := fun_mk (st := c_Net_nodes) l_g_nodes c_g_nodes k_g_nodes
  have b_g_nodes := F_g_nodes.binds (ps := ["self"]) fun _ _ _ _ _ _ us hl => match us, hl with | [_], _ => rfl
  have F_g_changing := fun_mk (st := c_Net_changing) l_g_changing c_g_changing k_g_changing
  have b_g_changing := F_g_changing.binds (ps := ["self"]) fun _ _ _ _ _ _ us hl => match us, hl with | [_], _ => rfl
  have F_p_check_node := fun_mk (st := p_check_node) l_p_check_node c_p_check_node k_p_check_node
  have b_p_check_node := F_p_check_node.binds (ps := ["net", "node"]) fun _ _ _ _ _ _ us hl => match us, hl with | [_, _], _ => rfl
  have g_p_check_node := PySem.W.mg_of X G a_p_check_node
  have F_p_is_number := fun_mk (st := p_is_number) l_p_is_number c_p_is_number k_p_is_number
  have b_p_is_number := F_p_is_number.binds (ps := ["value"]) fun _ _ _ _ _ _ us hl => match us, hl with | [_], _ => rfl
  have g_p_is_number := PySem.W.mg_of X G a_p_is_number
  have F_p_is_count := fun_mk (st := p_is_count) l_p_is_count c_p_is_count k_p_is_count
  have b_p_is_count := F_p_is_count.binds (ps := ["value"]) fun _ _ _ _ _ _ us hl => match us, hl with | [_], _ => rfl
  have g_p_is_count := PySem.W.mg_of X G a_p_is_count
  have F_p_ways := fun_mk (st := p_ways) l_p_ways c_p_ways k_p_ways
  have b_p_ways := F_p_ways.binds (ps := ["net", "done", "lot", "goal"]) fun _ _ _ _ _ _ us hl => match us, hl with | [_, _, _, _], _ => rfl
  have g_p_ways := PySem.W.mg_of X G a_p_ways
  have F_p_joined := fun_mk (st := p_joined) l_p_joined c_p_joined k_p_joined
  have b_p_joined := F_p_joined.binds (ps := ["lot", "other"]) fun _ _ _ _ _ _ us hl => match us, hl with | [_, _], _ => rfl
  have g_p_joined := PySem.W.mg_of X G a_p_joined
  have F_p_parts_of : FunC K "parts_of" "parts_of" p_parts_of f_p_parts_of (PySem.W.fnOf "parts_of" "parts_of" (defArgs p_parts_of) (defBody p_parts_of) (defScope p_parts_of) .none kV_p_parts_of dc_p_parts_of pm_p_parts_of an_p_parts_of (.ref cc) ct_p_parts_of) cc := ⟨⟨_, _, _, _, _, _, _, _, rfl, l_p_parts_of, c_p_parts_of⟩, k_p_parts_of⟩
  have b_p_parts_of := F_p_parts_of.fn.binds (ps := ["lot"]) fun _ _ _ _ _ _ us hl => match us, hl with | [_], _ => rfl
  have g_p_parts_of := PySem.W.mg_of X G a_p_parts_of
  have F_p_is_part := fun_mk (st := p_is_part) l_p_is_part c_p_is_part k_p_is_part
  have b_p_is_part := F_p_is_part.binds (ps := ["part", "lot"]) fun _ _ _ _ _ _ us hl => match us, hl with | [_, _], _ => rfl
  have g_p_is_part := PySem.W.mg_of X G a_p_is_part
  have F_p_stages_of := fun_mk (st := p_stages_of) l_p_stages_of c_p_stages_of k_p_stages_of
  have b_p_stages_of := F_p_stages_of.binds (ps := ["plan"]) fun _ _ _ _ _ _ us hl => match us, hl with | [_], _ => rfl
  have g_p_stages_of := PySem.W.mg_of X G a_p_stages_of
  have F_p_first_wrong_round := fun_mk (st := p_first_wrong_round) l_p_first_wrong_round c_p_first_wrong_round k_p_first_wrong_round
  have b_p_first_wrong_round := F_p_first_wrong_round.binds (ps := ["net", "rounds"]) fun _ _ _ _ _ _ us hl => match us, hl with | [_, _], _ => rfl
  have g_p_first_wrong_round := PySem.W.mg_of X G a_p_first_wrong_round
  have F_p_check_plan := fun_mk (st := p_check_plan) l_p_check_plan c_p_check_plan k_p_check_plan
  have b_p_check_plan := F_p_check_plan.binds (ps := ["net", "plan"]) fun _ _ _ _ _ _ us hl => match us, hl with | [_, _], _ => rfl
  have g_p_check_plan := PySem.W.mg_of X G a_p_check_plan
  have F_p_is_story := fun_mk (st := p_is_story) l_p_is_story c_p_is_story k_p_is_story
  have b_p_is_story := F_p_is_story.binds (ps := ["net", "plan", "sights", "thing"]) fun _ _ _ _ _ _ us hl => match us, hl with | [_, _, _, _], _ => rfl
  have g_p_is_story := PySem.W.mg_of X G a_p_is_story
  have F_p_story := fun_mk (st := p_story) l_p_story c_p_story k_p_story
  have b_p_story := F_p_story.binds (ps := ["net", "plan", "sights"]) fun _ _ _ _ _ _ us hl => match us, hl with | [_, _, _], _ => rfl
  have g_p_story := PySem.W.mg_of X G a_p_story
  have F_p_stages := fun_mk (st := p_stages) l_p_stages c_p_stages k_p_stages
  have b_p_stages := F_p_stages.binds (ps := ["net", "plan", "sights"]) fun _ _ _ _ _ _ us hl => match us, hl with | [_, _, _], _ => rfl
  have g_p_stages := PySem.W.mg_of X G a_p_stages
  have F_p_known := fun_mk (st := p_known) l_p_known c_p_known k_p_known
  have b_p_known := F_p_known.binds (ps := ["net", "plan", "sights"]) fun _ _ _ _ _ _ us hl => match us, hl with | [_, _, _], _ => rfl
  have g_p_known := PySem.W.mg_of X G a_p_known
  have F_p_clash := fun_mk (st := p_clash) l_p_clash c_p_clash k_p_clash
  have b_p_clash := F_p_clash.binds (ps := ["net", "plan", "sights"]) fun _ _ _ _ _ _ us hl => match us, hl with | [_, _, _], _ => rfl
  have g_p_clash := PySem.W.mg_of X G a_p_clash
  have F_p_states_seen := fun_mk (st := p_states_seen) l_p_states_seen c_p_states_seen k_p_states_seen
  have b_p_states_seen := F_p_states_seen.binds (ps := ["net", "plan", "sights"]) fun _ _ _ _ _ _ us hl => match us, hl with | [_, _, _], _ => rfl
  have g_p_states_seen := PySem.W.mg_of X G a_p_states_seen
  have F_p_states_in_stories := fun_mk (st := p_states_in_stories) l_p_states_in_stories c_p_states_in_stories k_p_states_in_stories
  have b_p_states_in_stories := F_p_states_in_stories.binds (ps := ["seen"]) fun _ _ _ _ _ _ us hl => match us, hl with | [_], _ => rfl
  have g_p_states_in_stories := PySem.W.mg_of X G a_p_states_in_stories
  have F_p_is_state := fun_mk (st := p_is_state) l_p_is_state c_p_is_state k_p_is_state
  have b_p_is_state := F_p_is_state.binds (ps := ["rounds", "value"]) fun _ _ _ _ _ _ us hl => match us, hl with | [_, _], _ => rfl
  have g_p_is_state := PySem.W.mg_of X G a_p_is_state
  have F_p_can_follow := fun_mk (st := p_can_follow) l_p_can_follow c_p_can_follow k_p_can_follow
  have b_p_can_follow := F_p_can_follow.binds (ps := ["state", "later"]) fun _ _ _ _ _ _ us hl => match us, hl with | [_, _], _ => rfl
  have g_p_can_follow := PySem.W.mg_of X G a_p_can_follow
  have F_p_now_new := fun_mk (st := p_now_new) l_p_now_new c_p_now_new k_p_now_new
  have b_p_now_new := F_p_now_new.binds (ps := ["rounds", "state"]) fun _ _ _ _ _ _ us hl => match us, hl with | [_, _], _ => rfl
  have g_p_now_new := PySem.W.mg_of X G a_p_now_new
  have F_p_is_seen_in := fun_mk (st := p_is_seen_in) l_p_is_seen_in c_p_is_seen_in k_p_is_seen_in
  have b_p_is_seen_in := F_p_is_seen_in.binds (ps := ["net", "rounds", "sight", "state"]) fun _ _ _ _ _ _ us hl => match us, hl with | [_, _, _, _], _ => rfl
  have g_p_is_seen_in := PySem.W.mg_of X G a_p_is_seen_in
  have F_p_is_sight := fun_mk (st := p_is_sight) l_p_is_sight c_p_is_sight k_p_is_sight
  have b_p_is_sight := F_p_is_sight.binds (ps := ["net", "value"]) fun _ _ _ _ _ _ us hl => match us, hl with | [_, _], _ => rfl
  have g_p_is_sight := PySem.W.mg_of X G a_p_is_sight
  have F_p_check_sights := fun_mk (st := p_check_sights) l_p_check_sights c_p_check_sights k_p_check_sights
  have b_p_check_sights := F_p_check_sights.binds (ps := ["net", "sights"]) fun _ _ _ _ _ _ us hl => match us, hl with | [_, _], _ => rfl
  have g_p_check_sights := PySem.W.mg_of X G a_p_check_sights
  have F_p_check_asked := fun_mk (st := p_check_asked) l_p_check_asked c_p_check_asked k_p_check_asked
  have b_p_check_asked := F_p_check_asked.binds (ps := ["net", "plan", "sights"]) fun _ _ _ _ _ _ us hl => match us, hl with | [_, _, _], _ => rfl
  have g_p_check_asked := PySem.W.mg_of X G a_p_check_asked
  have F_m_way := fun_mk (st := c_Net_way) l_m_way c_m_way k_m_way
  have b_m_way := F_m_way.binds (ps := ["self", "goal", "node", "is_new"]) fun _ _ _ _ _ _ us hl => match us, hl with | [_, _, _, _], _ => rfl
  have F_g_tables := fun_mk (st := c_Net_tables) l_g_tables c_g_tables k_g_tables
  have b_g_tables := F_g_tables.binds (ps := ["self"]) fun _ _ _ _ _ _ us hl => match us, hl with | [_], _ => rfl
  have F_law := fun_mk (st := s_law) l_law c_law k_law
  have w_MOST_POSTS := PySem.W.mg_of X G v_MOST_POSTS
  have w_MOST_NODES := PySem.W.mg_of X G v_MOST_NODES
  have w_MOST_GOALS := PySem.W.mg_of X G v_MOST_GOALS
  have w_MOST_LETTERS := PySem.W.mg_of X G v_MOST_LETTERS
  have w_MOST_SIGHTS := PySem.W.mg_of X G v_MOST_SIGHTS
  have hmT : (Pt, ("parts_of.<locals>.<lambda>" : Str)) ∈ ([(Pt, ("parts_of.<locals>.<lambda>" : Str))] : List (Addr × Str)) := List.mem_singleton.mpr rfl
  have huT : ∀ p ∈ ([(Pt, ("parts_of.<locals>.<lambda>" : Str))] : List (Addr × Str)), p.1 = Pt → p.2 = ("parts_of.<locals>.<lambda>" : Str) := fun p hp _ => by rw [List.mem_singleton.mp hp]
  have m_int := PySem.W.mg_none_of X G z_int
  have m_len := PySem.W.mg_none_of X G z_len
  have m_abs := PySem.W.mg_none_of X G z_abs
  have m_list := PySem.W.mg_none_of X G z_list
  have m_dict := PySem.W.mg_none_of X G z_dict
  have m_sorted := PySem.W.mg_none_of X G z_sorted
  have m_range := PySem.W.mg_none_of X G z_range
  have m_isinstance := PySem.W.mg_none_of X G z_isinstance
  have m_str := PySem.W.mg_none_of X G z_str
  have m_tuple := PySem.W.mg_none_of X G z_tuple
  have m_all := PySem.W.mg_none_of X G z_all
  have m_any := PySem.W.mg_none_of X G z_any
  have m_set := PySem.W.mg_none_of X G z_set
  have m_enumerate := PySem.W.mg_none_of X G z_enumerate
  have m_min := PySem.W.mg_none_of X G z_min
  have m_repr := PySem.W.mg_none_of X G z_repr
  have m_reversed := PySem.W.mg_none_of X G z_reversed
  have m_max := PySem.W.mg_none_of X G z_max
  have m_zip := PySem.W.mg_none_of X G z_zip
  have m_bool := PySem.W.mg_none_of X G z_bool
  have FI : FunD K "__init__" "Net.__init__" (defArgs c_Net_init) (defBody c_Net_init) (defScope c_Net_init) [.ref q1, .ref q2] [] fI (PySem.W.fnOf "__init__" "Net.__init__" (defArgs c_Net_init) (defBody c_Net_init) (defScope c_Net_init) (.ref TI) kVI dcI pmI anI cdI ctI) := ⟨⟨ocI, odI, .ref TI, kVI, dcI, pmI, anI, cdI, ctI, slI, rfl, lI, cI, .inr ⟨by simp, TI, _, [.ref q1, .ref q2], nT, rfl, lT, rfl, .cons rfl (.cons rfl .nil)⟩, .inl rfl⟩, kI⟩
  have bI : Binds K (PySem.W.fnOf "__init__" "Net.__init__" (defArgs c_Net_init) (defBody c_Net_init) (defScope c_Net_init) (.ref TI) kVI dcI pmI anI cdI ctI) ["self", "tables", "sources", "posts"] [] := by
    obtain ⟨ds, r, b⟩ := FI.binds1 (ps := ["self", "tables", "sources", "posts"]) 4 2 (by simp) rfl (fun TT kV doc pm an cdv ct us its l1 l2 => match us, l1, its, l2 with | [a, b, c, d], _, [i1, i2], _ => ⟨_, rfl, rfl⟩)
    cases r
    exact b
  refine ⟨_, fun s v => .of_eq (show bindArgs (PySem.W.fnOf "law" "law" (defArgs s_law) (defBody s_law) (defScope s_law) .none kV_law dc_law pm_law an_law cd_law ct_law) ⟨[v], []⟩ = _ from rfl), fun base _ _ TB => ?_⟩
  have O_s_take := ok_take (P := P) (w := w) (mg := mg) (base := base) F_s_take F_s_blend b_s_blend g_s_blend m_int
  have O_s_pick := ok_pickL (P := P) (w := w) (mg := mg) (base := base) F_s_pick O_s_take k_s_take b_s_take g_s_take m_len
  have O_S_pick := ok_pickS (P := P) (w := w) (mg := mg) (base := base) F_s_pick O_s_take k_s_take b_s_take g_s_take m_len
  have O_s_mixed := ok_mixed (P := P) (w := w) (mg := mg) (base := base) F_s_mixed O_s_take k_s_take b_s_take g_s_take m_len m_list
  have O_s_begin := ok_begin (P := P) (w := w) (mg := mg) (base := base) F_s_begin m_abs
  have O_s_words := ok_words (P := P) (w := w) (mg := mg) (base := base) F_s_words O_s_take k_s_take b_s_take g_s_take O_s_pick O_S_pick k_s_pick b_s_pick g_s_pick m_range
  have O_s_tree := ok_tree (P := P) (w := w) (mg := mg) (base := base) F_s_tree O_s_mixed k_s_mixed b_s_mixed g_s_mixed O_s_pick k_s_pick b_s_pick g_s_pick
  have O_s_path := ok_path (P := P) (w := w) (mg := mg) (base := base) F_s_path O_s_mixed k_s_mixed b_s_mixed g_s_mixed m_enumerate m_dict
  have O_s_wild := ok_wild (P := P) (w := w) (mg := mg) (base := base) F_s_wild O_s_pick k_s_pick b_s_pick g_s_pick
  have O_s_near := ok_near (P := P) (w := w) (mg := mg) (base := base) F_s_near O_s_take k_s_take b_s_take g_s_take O_s_pick k_s_pick b_s_pick g_s_pick m_dict m_sorted m_range
  have O_s_pair := ok_pair (P := P) (w := w) (mg := mg) (base := base) F_s_pair O_s_take k_s_take b_s_take g_s_take O_s_tree k_s_tree b_s_tree g_s_tree O_s_path k_s_path b_s_path g_s_path O_s_wild k_s_wild b_s_wild g_s_wild O_s_near k_s_near b_s_near g_s_near
  have O_s_model := ok_model (P := P) (w := w) (mg := mg) (base := base) F_s_model O_s_take k_s_take b_s_take g_s_take O_s_pick k_s_pick b_s_pick g_s_pick O_s_mixed k_s_mixed b_s_mixed g_s_mixed O_s_words k_s_words b_s_words g_s_words O_s_pair k_s_pair b_s_pair g_s_pair m_sorted m_min
  have O_p_is_list := ok_is_list (P := P) (w := w) (mg := mg) (base := base) F_p_is_list m_isinstance m_list m_tuple
  have O_p_is_name := ok_is_name (P := P) (w := w) (mg := mg) (base := base) F_p_is_name m_isinstance m_str m_len m_all w_MOST_LETTERS
  have O_p_is_place := ok_is_place (P := P) (w := w) (mg := mg) (base := base) F_p_is_place
  have O_p_is_table := ok_is_table (P := P) (w := w) (mg := mg) (base := base) F_p_is_table O_p_is_place k_p_is_place b_p_is_place g_p_is_place m_len m_all
  have O_p_are_different := ok_diff (P := P) (w := w) (mg := mg) (base := base) F_p_are_different O_p_is_list k_p_is_list b_p_is_list g_p_is_list m_len m_all m_set
  have O_p_are_nodes := ok_nodes (P := P) (w := w) (mg := mg) (base := base) F_p_are_nodes O_p_is_name k_p_is_name b_p_is_name g_p_is_name m_len m_all w_MOST_NODES
  have O_p_is_pair_of_dicts := ok_pairD (P := P) (w := w) (mg := mg) (base := base) F_p_is_pair_of_dicts m_isinstance m_tuple m_dict m_len m_all
  have O_p_are_tables := ok_tables (P := P) (w := w) (mg := mg) (base := base) F_p_are_tables O_p_is_name k_p_is_name b_p_is_name g_p_is_name O_p_is_pair_of_dicts k_p_is_pair_of_dicts b_p_is_pair_of_dicts g_p_is_pair_of_dicts O_p_are_nodes k_p_are_nodes b_p_are_nodes g_p_are_nodes O_p_is_table k_p_is_table b_p_is_table g_p_is_table m_isinstance m_dict m_list m_len m_all w_MOST_GOALS
  have O_I := ok_init (P := P) (w := w) (mg := mg) (base := base) FI T O_p_are_tables k_p_are_tables b_p_are_tables g_p_are_tables O_p_are_different k_p_are_different b_p_are_different g_p_are_different m_list m_tuple m_sorted m_len w_MOST_POSTS
  have O_g_goals := ok_goals (P := P) (w := w) (mg := mg) (base := base) F_g_goals T m_tuple
  have O_g_nodes := ok_dots (P := P) (w := w) (mg := mg) (base := base) F_g_nodes T
  have O_g_changing := ok_changing (P := P) (w := w) (mg := mg) (base := base) F_g_changing T m_tuple m_list m_any
  have O_g_tables := ok_tabs (P := P) (w := w) (mg := mg) (base := base) F_g_tables T m_dict
  have R_goals : Prp P w K mg base C 1 "goals" (spGoals C) := ⟨_, _, _, ⟨a_g_goals, ge_g_goals, ta_g_goals, _, re_g_goals⟩, O_g_goals, b_g_goals⟩
  have R_nodes : Prp P w K mg base C 1 "nodes" (spDots C) := ⟨_, _, _, ⟨a_g_nodes, ge_g_nodes, ta_g_nodes, _, re_g_nodes⟩, O_g_nodes, b_g_nodes⟩
  have R_changing : Prp P w K mg base C 2 "changing" (spChanging C) := ⟨_, _, _, ⟨a_g_changing, ge_g_changing, ta_g_changing, _, re_g_changing⟩, O_g_changing, b_g_changing⟩
  have R_tables : Prp P w K mg base C 1 "tables" (spTabs C) := ⟨_, _, _, ⟨a_g_tables, ge_g_tables, ta_g_tables, _, re_g_tables⟩, O_g_tables, b_g_tables⟩
  have O_p_check_goal := ok_check_goal (P := P) (w := w) (mg := mg) (base := base) F_p_check_goal T R_goals
  have O_p_check_node := ok_check_node (P := P) (w := w) (mg := mg) (base := base) F_p_check_node T R_nodes
  have O_p_check_net := ok_check_net (P := P) (w := w) (mg := mg) (base := base) F_p_check_net T Is m_isinstance mNet
  have O_p_is_lot_of := ok_lot_of (P := P) (w := w) (mg := mg) (base := base) F_p_is_lot_of m_isinstance m_tuple m_all m_sorted m_set
  have O_p_check_lot := ok_check_lot (P := P) (w := w) (mg := mg) (base := base) F_p_check_lot T R_changing ⟨_, _, O_p_is_lot_of, k_p_is_lot_of, b_p_is_lot_of, g_p_is_lot_of⟩
  have O_p_check_round := ok_check_round (P := P) (w := w) (mg := mg) (base := base) F_p_check_round ⟨_, _, O_p_check_net, k_p_check_net, b_p_check_net, g_p_check_net⟩ ⟨_, _, O_p_check_lot, k_p_check_lot, b_p_check_lot, g_p_check_lot⟩ m_any
  have O_p_ways := ok_mix (P := P) (w := w) (mg := mg) (base := base) F_p_ways T ⟨_, _, O_p_check_round, k_p_check_round, b_p_check_round, g_p_check_round⟩ ⟨_, _, O_p_check_goal, k_p_check_goal, b_p_check_goal, g_p_check_goal⟩ R_tables R_nodes
  have O_p_joined := ok_joined (P := P) (w := w) (mg := mg) (base := base) F_p_joined m_tuple m_sorted
  have O_p_parts_of := ok_parts_of (P := P) (w := w) (mg := mg) (base := base) F_p_parts_of TB hmT huT m_sorted m_len
  have O_p_is_part := ok_is_part (P := P) (w := w) (mg := mg) (base := base) F_p_is_part m_all
  have O_m_way := ok_way (P := P) (w := w) (mg := mg) (base := base) F_m_way T ⟨_, _, O_p_check_goal, k_p_check_goal, b_p_check_goal, g_p_check_goal⟩ ⟨_, _, O_p_check_node, k_p_check_node, b_p_check_node, g_p_check_node⟩
  have O_s_net := ok_net (P := P) (w := w) (mg := mg) (base := base) F_s_net ⟨mk, aI, iI, kc⟩ O_I bI mNet
  have O_s_moving_dots := ok_moves (P := P) (w := w) (mg := mg) (base := base) F_s_moving_dots
  have O_s_plan := ok_lplan (P := P) (w := w) (mg := mg) (base := base) F_s_plan ⟨_, _, O_s_take, k_s_take, b_s_take, g_s_take⟩ ⟨_, _, O_s_mixed, k_s_mixed, b_s_mixed, g_s_mixed⟩ ⟨_, _, O_s_moving_dots, k_s_moving_dots, b_s_moving_dots, g_s_moving_dots⟩ m_len m_tuple m_sorted
  have O_s_done_in := ok_done_in (P := P) (w := w) (mg := mg) (base := base) F_s_done_in m_list
  have O_s_hop := ok_hop (P := P) (w := w) (mg := mg) (base := base) F_s_hop ⟨_, _, O_s_done_in, k_s_done_in, b_s_done_in, g_s_done_in⟩ m_int
  have O_p_stages_of := ok_stages (P := P) (w := w) (mg := mg) (base := base) F_p_stages_of ⟨_, _, O_p_joined, k_p_joined, b_p_joined, g_p_joined⟩
  have O_p_first_wrong_round := ok_first_wrong (P := P) (w := w) (mg := mg) (base := base) F_p_first_wrong_round T R_changing ⟨_, _, O_p_is_lot_of, k_p_is_lot_of, b_p_is_lot_of, g_p_is_lot_of⟩ m_enumerate m_len m_tuple
  have O_p_check_plan := ok_check_plan (P := P) (w := w) (mg := mg) (base := base) F_p_check_plan ⟨_, _, O_p_is_list, k_p_is_list, b_p_is_list, g_p_is_list⟩ ⟨_, _, O_p_first_wrong_round, k_p_first_wrong_round, b_p_first_wrong_round, g_p_first_wrong_round⟩
  have O_p_is_sight := ok_is_sight (P := P) (w := w) (mg := mg) (base := base) F_p_is_sight T R_goals R_nodes ⟨_, _, O_p_is_place, k_p_is_place, b_p_is_place, g_p_is_place⟩ m_isinstance m_tuple m_len
  have O_p_can_follow := ok_fol (P := P) (w := w) (mg := mg) (base := base) F_p_can_follow ⟨_, _, O_p_is_part, k_p_is_part, b_p_is_part, g_p_is_part⟩
  have O_p_now_new := ok_now_new (P := P) (w := w) (mg := mg) (base := base) F_p_now_new ⟨_, _, O_p_joined, k_p_joined, b_p_joined, g_p_joined⟩
  have O_p_is_seen_in := ok_seen_in (P := P) (w := w) (mg := mg) (base := base) F_p_is_seen_in T ⟨a_m_way, i_m_way, k_m_way⟩ O_m_way b_m_way ⟨_, _, O_p_now_new, k_p_now_new, b_p_now_new, g_p_now_new⟩
  have O_p_states_in_stories := ok_in_stories (P := P) (w := w) (mg := mg) (base := base) F_p_states_in_stories ⟨_, _, O_p_can_follow, k_p_can_follow, b_p_can_follow, g_p_can_follow⟩ m_any m_reversed
  have O_p_states_seen := ok_seen (P := P) (w := w) (mg := mg) (base := base) F_p_states_seen ⟨_, _, O_p_stages_of, k_p_stages_of, b_p_stages_of, g_p_stages_of⟩ ⟨_, _, O_p_parts_of, k_p_parts_of, b_p_parts_of, g_p_parts_of⟩ ⟨_, _, O_p_is_seen_in, k_p_is_seen_in, b_p_is_seen_in, g_p_is_seen_in⟩ m_range m_len
  have O_p_check_sights := ok_check_sights (P := P) (w := w) (mg := mg) (base := base) F_p_check_sights ⟨_, _, O_p_is_list, k_p_is_list, b_p_is_list, g_p_is_list⟩ ⟨_, _, O_p_is_sight, k_p_is_sight, b_p_is_sight, g_p_is_sight⟩ m_enumerate m_len w_MOST_SIGHTS
  have O_p_check_asked := ok_check_asked (P := P) (w := w) (mg := mg) (base := base) F_p_check_asked ⟨_, _, O_p_check_net, k_p_check_net, b_p_check_net, g_p_check_net⟩ ⟨_, _, O_p_check_plan, k_p_check_plan, b_p_check_plan, g_p_check_plan⟩ ⟨_, _, O_p_check_sights, k_p_check_sights, b_p_check_sights, g_p_check_sights⟩
  have O_p_known := ok_known (P := P) (w := w) (mg := mg) (base := base) F_p_known ⟨_, _, O_p_check_asked, k_p_check_asked, b_p_check_asked, g_p_check_asked⟩ ⟨_, _, O_p_states_seen, k_p_states_seen, b_p_states_seen, g_p_states_seen⟩ ⟨_, _, O_p_states_in_stories, k_p_states_in_stories, b_p_states_in_stories, g_p_states_in_stories⟩ ⟨_, _, O_p_now_new, k_p_now_new, b_p_now_new, g_p_now_new⟩ ⟨_, _, O_p_stages_of, k_p_stages_of, b_p_stages_of, g_p_stages_of⟩ m_all m_any m_len m_tuple
  have O_p_is_number := ok_is_number (P := P) (w := w) (mg := mg) (base := base) F_p_is_number m_isinstance m_int m_bool
  have O_p_is_count := ok_is_count (P := P) (w := w) (mg := mg) (base := base) F_p_is_count ⟨_, _, O_p_is_number, k_p_is_number, b_p_is_number, g_p_is_number⟩
  have O_p_is_state := ok_is_state (P := P) (w := w) (mg := mg) (base := base) F_p_is_state ⟨_, _, O_p_is_count, k_p_is_count, b_p_is_count, g_p_is_count⟩ ⟨_, _, O_p_is_lot_of, k_p_is_lot_of, b_p_is_lot_of, g_p_is_lot_of⟩ m_isinstance m_tuple m_len
  have O_p_stages := ok_stagesT (P := P) (w := w) (mg := mg) (base := base) F_p_stages ⟨_, _, O_p_check_asked, k_p_check_asked, b_p_check_asked, g_p_check_asked⟩ ⟨_, _, O_p_states_seen, k_p_states_seen, b_p_states_seen, g_p_states_seen⟩ ⟨_, _, O_p_states_in_stories, k_p_states_in_stories, b_p_states_in_stories, g_p_states_in_stories⟩ m_all m_tuple m_sorted m_set
  have O_p_is_story := ok_is_story (P := P) (w := w) (mg := mg) (base := base) F_p_is_story ⟨_, _, O_p_check_asked, k_p_check_asked, b_p_check_asked, g_p_check_asked⟩ ⟨_, _, O_p_is_list, k_p_is_list, b_p_is_list, g_p_is_list⟩ ⟨_, _, O_p_stages_of, k_p_stages_of, b_p_stages_of, g_p_stages_of⟩ ⟨_, _, O_p_is_state, k_p_is_state, b_p_is_state, g_p_is_state⟩ ⟨_, _, O_p_is_seen_in, k_p_is_seen_in, b_p_is_seen_in, g_p_is_seen_in⟩ ⟨_, _, O_p_can_follow, k_p_can_follow, b_p_can_follow, g_p_can_follow⟩ m_all m_len m_zip
  have O_s_moved := ok_moved (P := P) (w := w) (mg := mg) (base := base) F_s_moved ⟨_, _, O_s_take, k_s_take, b_s_take, g_s_take⟩ ⟨_, _, O_s_pick, k_s_pick, b_s_pick, g_s_pick⟩ ⟨_, _, O_s_hop, k_s_hop, b_s_hop, g_s_hop⟩ m_len m_tuple m_sorted m_list m_range
  have O_p_clash := ok_clash (P := P) (w := w) (mg := mg) (base := base) F_p_clash ⟨_, _, O_p_check_asked, k_p_check_asked, b_p_check_asked, g_p_check_asked⟩ ⟨_, _, O_p_states_seen, k_p_states_seen, b_p_states_seen, g_p_states_seen⟩ ⟨_, _, O_p_states_in_stories, k_p_states_in_stories, b_p_states_in_stories, g_p_states_in_stories⟩ m_range m_len m_all
  have O_p_story := ok_story (P := P) (w := w) (mg := mg) (base := base) F_p_story ⟨_, _, O_p_check_asked, k_p_check_asked, b_p_check_asked, g_p_check_asked⟩ ⟨_, _, O_p_states_seen, k_p_states_seen, b_p_states_seen, g_p_states_seen⟩ ⟨_, _, O_p_states_in_stories, k_p_states_in_stories, b_p_states_in_stories, g_p_states_in_stories⟩ ⟨_, _, O_p_can_follow, k_p_can_follow, b_p_can_follow, g_p_can_follow⟩ m_all
  exact ok_law F_law  ⟨_, _, O_s_begin, k_s_begin, b_s_begin, g_s_begin⟩ ⟨_, _, O_s_model, k_s_model, b_s_model, g_s_model⟩ ⟨_, _, O_s_net, k_s_net, b_s_net, g_s_net⟩ ⟨_, _, O_s_plan, k_s_plan, b_s_plan, g_s_plan⟩ ⟨_, _, O_s_moved, k_s_moved, b_s_moved, g_s_moved⟩ ⟨_, _, O_s_done_in, k_s_done_in, b_s_done_in, g_s_done_in⟩ ⟨_, _, O_p_stages, k_p_stages, b_p_stages, g_p_stages⟩ ⟨_, _, O_p_is_story, k_p_is_story, b_p_is_story, g_p_is_story⟩ ⟨_, _, O_p_clash, k_p_clash, b_p_clash, g_p_clash⟩ ⟨_, _, O_p_ways, k_p_ways, b_p_ways, g_p_ways⟩ ⟨_, _, O_p_known, k_p_known, b_p_known, g_p_known⟩ ⟨_, _, O_p_story, k_p_story, b_p_story, g_p_story⟩ m_range m_min m_len m_enumerate m_tuple m_sorted m_list
end Rw
end T_Z0

section T_YT
set_option Elab.async false
set_option linter.all false
set_option maxRecDepth 100000
set_option maxHeartbeats 2000000
namespace Rw
open PySem PySem.Spec PySem.Calls L2 PyProof.Rows LamX
theorem tabs_one {H : Hp} {P : Addr} {q : Str} (h : H P = some (.tbl #[])) : Tabs [(P, q)] H := fun p hp => by
  rw [List.mem_singleton.mp hp]
  exact TabS.nil h
/-- the end of a row whose program makes lambdas in one def, x0 -/
theorem walk_ofTT {l : PySem.W.OpenLaw} {n k : Nat} {q : Program} {loose : List Str} {XP : (Str → Option Value) → Heap → Prop} {YP : World → Heap → Prop} {d d0 : DefRec} {K : Params → PySem.W.Frag} {sp : PySem.W.Frag → Sp} {x x0 : Str} {c0 P0 : Addr}
    (most : l.most = some n) (small : n ≤ sizeLine) (nodef : d.params.defaults = []) (room : Room k callerA) (knows : ∀ (w : World) (h : Heap), YP w h → (K w.params).In h)
    (hr : (recsOf q).find? (fun e => e.name == x0) = some d0) (ht : ∀ w : World, PySem.W.tabIn (K w.params) x0 = some (c0, P0)) (nP : ∀ w : World, (K w.params).lookup P0 = none)
    (F : ∀ (w : World) (mg : Str → Option Value) (fa : Addr) (h : Heap), (K w.params).In h → h.Ns mainGlobals mg → mg d.name = some (.ref fa) →
      ∃ fd : FuncData, (∀ (s : Shared) (u : Value), BindsTo s fd ⟨[u], []⟩ [(x, u)]) ∧ ∀ base : Heap, (K w.params).In base → base.Ns mainGlobals mg → TabB base mg c0 P0 → FnOk l.prog w (K w.params) mg base CX0 k fa fd [x] (sp (K w.params)))
    (prom : ∀ (w : World) (H : Hp) (a : Addr) (ns : List Int), ns.length ≤ n → H P0 = some (.tbl #[]) → SqL (K w.params) H a (ns.map V.int) → sp (K w.params) [.ref a] H (fun v _ => v = .bl true) fun _ _ _ => False) :
    PySem.W.WalkO q loose XP YP l.row.toRowW d [] (fun f vs => PySem.call f vs) := by
  refine Att.attach_callB most nodef fun w s₀ s₁ mg mb fa o pm cd doc a vs ns G Y ho hd hcd hmg hobj hints hlen hbits hg => ?_
  have KX := knows w _ Y
  obtain ⟨C, hP⟩ := PySem.W.tab_of G.T KX hr (ht w)
  obtain ⟨fd, bind, all⟩ := F w mg fa _ KX G.T.g hmg
  exact law_callTs (CX := CX0) (sp := sp (K w.params)) (cs := [(c0, P0)]) KX G.T.g G.T.b G.T.builtins G.T.nolimit hg (fun p hp => by rw [List.mem_singleton.mp hp]; exact hP) (fun p hp => by rw [List.mem_singleton.mp hp]; exact nP w) (fun p hp => by rw [List.mem_singleton.mp hp]; exact C) G.T.bmain hobj hints (Nat.le_trans hlen small) room
    (fun base i j t => all base i j (t _ (List.mem_singleton.mpr rfl))) bind (fun H hH hS => prom w H a ns hlen (hH _ (List.mem_singleton.mpr rfl)) hS) fun H e s' h => h
end Rw
end T_YT

section T_Z1
set_option Elab.async false
set_option maxRecDepth 100000
open PySem PySem.W PyProof.Rows
set_option maxRecDepth 100000 in
set_option maxHeartbeats 0 in
theorem PySem.Challenge.cw_roundways_k62_whole_sights_of_moving_pac_holds : PySem.Challenge.rw_roundways_k62_whole_sights_of_moving_pac.Holds := by
  w_on; o_law; k_head; (case hw => w_witness2)
  k_fill
  refine' Rw.walk_ofTT (l := PySem.Challenge.rw_roundways_k62_whole_sights_of_moving_pac) (n := 63) (k := 8) (x := "script") (x0 := "parts_of") (c0 := ?c0) (P0 := ?P0) (d0 := ?d0) (sp := fun K => Rw.spLaw K [(?P0, ("parts_of.<locals>.<lambda>" : Str))]) rfl (by decide) rfl ⟨rfl, by decide, by decide⟩ (fun w h Y => PySem.W.km_in_of Y) ?hr ?ht ?nP ?F (fun w H a ns few hH hS => ⟨a, ns, rfl, hS, few, Rw.tabs_one hH, fun _ => rfl⟩)
  case hr => rfl
  case ht => intro w; rfl
  case nP => intro w; rfl
  case F =>
    intro w mg fa h KX G hmg
    refine' Rw.all_mk KX G hmg ?aC ?a_s_begin ?l_s_begin ?c_s_begin ?k_s_begin ?a_s_blend ?l_s_blend ?c_s_blend ?k_s_blend ?a_s_take ?l_s_take ?c_s_take ?k_s_take ?a_s_pick ?l_s_pick ?c_s_pick ?k_s_pick ?a_s_mixed ?l_s_mixed ?c_s_mixed ?k_s_mixed ?a_s_words ?l_s_words ?c_s_words ?k_s_words ?a_s_tree ?l_s_tree ?c_s_tree ?k_s_tree ?a_s_path ?l_s_path ?c_s_path ?k_s_path ?a_s_wild ?l_s_wild ?c_s_wild ?k_s_wild ?a_s_near ?l_s_near ?c_s_near ?k_s_near ?a_s_pair ?l_s_pair ?c_s_pair ?k_s_pair ?a_s_model ?l_s_model ?c_s_model ?k_s_model ?a_s_net ?l_s_net ?c_s_net ?k_s_net ?a_s_moving_dots ?l_s_moving_dots ?c_s_moving_dots ?k_s_moving_dots ?a_s_plan ?l_s_plan ?c_s_plan ?k_s_plan ?a_s_done_in ?l_s_done_in ?c_s_done_in ?k_s_done_in ?a_s_hop ?l_s_hop ?c_s_hop ?k_s_hop ?a_s_moved ?l_s_moved ?c_s_moved ?k_s_moved ?a_p_is_list ?l_p_is_list ?c_p_is_list ?k_p_is_list ?a_p_is_name ?l_p_is_name ?c_p_is_name ?k_p_is_name ?a_p_is_place ?l_p_is_place ?c_p_is_place ?k_p_is_place ?a_p_is_table ?l_p_is_table ?c_p_is_table ?k_p_is_table ?a_p_are_different ?l_p_are_different ?c_p_are_different ?k_p_are_different ?a_p_are_nodes ?l_p_are_nodes ?c_p_are_nodes ?k_p_are_nodes ?a_p_is_pair_of_dicts ?l_p_is_pair_of_dicts ?c_p_is_pair_of_dicts ?k_p_is_pair_of_dicts ?a_p_are_tables ?l_p_are_tables ?c_p_are_tables ?k_p_are_tables ?a_p_check_net ?l_p_check_net ?c_p_check_net ?k_p_check_net ?a_p_check_goal ?l_p_check_goal ?c_p_check_goal ?k_p_check_goal ?a_p_check_lot ?l_p_check_lot ?c_p_check_lot ?k_p_check_lot ?a_p_check_round ?l_p_check_round ?c_p_check_round ?k_p_check_round ?a_p_is_lot_of ?l_p_is_lot_of ?c_p_is_lot_of ?k_p_is_lot_of ?a_g_goals ?ge_g_goals ?ta_g_goals ?re_g_goals ?l_g_goals ?c_g_goals ?k_g_goals ?a_g_nodes ?ge_g_nodes ?ta_g_nodes ?re_g_nodes ?l_g_nodes ?c_g_nodes ?k_g_nodes ?a_g_changing ?ge_g_changing ?ta_g_changing ?re_g_changing ?l_g_changing ?c_g_changing ?k_g_changing ?a_p_check_node ?l_p_check_node ?c_p_check_node ?k_p_check_node ?a_p_is_number ?l_p_is_number ?c_p_is_number ?k_p_is_number ?a_p_is_count ?l_p_is_count ?c_p_is_count ?k_p_is_count ?a_p_ways ?l_p_ways ?c_p_ways ?k_p_ways ?a_p_joined ?l_p_joined ?c_p_joined ?k_p_joined ?a_p_parts_of ?l_p_parts_of ?c_p_parts_of ?k_p_parts_of ?a_p_is_part ?l_p_is_part ?c_p_is_part ?k_p_is_part ?a_p_stages_of ?l_p_stages_of ?c_p_stages_of ?k_p_stages_of ?a_p_first_wrong_round ?l_p_first_wrong_round ?c_p_first_wrong_round ?k_p_first_wrong_round ?a_p_check_plan ?l_p_check_plan ?c_p_check_plan ?k_p_check_plan ?a_p_is_story ?l_p_is_story ?c_p_is_story ?k_p_is_story ?a_p_story ?l_p_story ?c_p_story ?k_p_story ?a_p_stages ?l_p_stages ?c_p_stages ?k_p_stages ?a_p_known ?l_p_known ?c_p_known ?k_p_known ?a_p_clash ?l_p_clash ?c_p_clash ?k_p_clash ?a_p_states_seen ?l_p_states_seen ?c_p_states_seen ?k_p_states_seen ?a_p_states_in_stories ?l_p_states_in_stories ?c_p_states_in_stories ?k_p_states_in_stories ?a_p_is_state ?l_p_is_state ?c_p_is_state ?k_p_is_state ?a_p_can_follow ?l_p_can_follow ?c_p_can_follow ?k_p_can_follow ?a_p_now_new ?l_p_now_new ?c_p_now_new ?k_p_now_new ?a_p_is_seen_in ?l_p_is_seen_in ?c_p_is_seen_in ?k_p_is_seen_in ?a_p_is_sight ?l_p_is_sight ?c_p_is_sight ?k_p_is_sight ?a_p_check_sights ?l_p_check_sights ?c_p_check_sights ?k_p_check_sights ?a_p_check_asked ?l_p_check_asked ?c_p_check_asked ?k_p_check_asked ?a_m_way ?i_m_way ?l_m_way ?c_m_way ?k_m_way ?a_g_tables ?ge_g_tables ?ta_g_tables ?re_g_tables ?l_g_tables ?c_g_tables ?k_g_tables ?a_law ?l_law ?c_law ?k_law ?aI ?iI ?lI ?cI ?kI ?lT ?pg ?hd ?po ?sa ?mk ?kc ?nT_ ?nN_ ?nS_ ?nP_ ?ha ?hn ?hk ?hm ?v_MOST_POSTS ?v_MOST_NODES ?v_MOST_GOALS ?v_MOST_LETTERS ?v_MOST_SIGHTS ?z_int ?z_len ?z_abs ?z_list ?z_dict ?z_sorted ?z_range ?z_isinstance ?z_str ?z_tuple ?z_all ?z_any ?z_set ?z_enumerate ?z_min ?z_repr ?z_reversed ?z_max ?z_zip ?z_bool
    (case aC => k_is); (case a_s_begin => k_is); (case l_s_begin => k_is); (case c_s_begin => k_is); (case k_s_begin => k_is); (case a_s_blend => k_is)
    (case l_s_blend => k_is); (case c_s_blend => k_is); (case k_s_blend => k_is); (case a_s_take => k_is); (case l_s_take => k_is); (case c_s_take => k_is)
    (case k_s_take => k_is); (case a_s_pick => k_is); (case l_s_pick => k_is); (case c_s_pick => k_is); (case k_s_pick => k_is); (case a_s_mixed => k_is)
    (case l_s_mixed => k_is); (case c_s_mixed => k_is); (case k_s_mixed => k_is); (case a_s_words => k_is); (case l_s_words => k_is); (case c_s_words => k_is)
    (case k_s_words => k_is); (case a_s_tree => k_is); (case l_s_tree => k_is); (case c_s_tree => k_is); (case k_s_tree => k_is); (case a_s_path => k_is)
    (case l_s_path => k_is); (case c_s_path => k_is); (case k_s_path => k_is); (case a_s_wild => k_is); (case l_s_wild => k_is); (case c_s_wild => k_is)
    (case k_s_wild => k_is); (case a_s_near => k_is); (case l_s_near => k_is); (case c_s_near => k_is); (case k_s_near => k_is); (case a_s_pair => k_is)
    (case l_s_pair => k_is); (case c_s_pair => k_is); (case k_s_pair => k_is); (case a_s_model => k_is); (case l_s_model => k_is); (case c_s_model => k_is)
    (case k_s_model => k_is); (case a_s_net => k_is); (case l_s_net => k_is); (case c_s_net => k_is); (case k_s_net => k_is); (case a_s_moving_dots => k_is)
    (case l_s_moving_dots => k_is); (case c_s_moving_dots => k_is); (case k_s_moving_dots => k_is); (case a_s_plan => k_is); (case l_s_plan => k_is); (case c_s_plan => k_is)
    (case k_s_plan => k_is); (case a_s_done_in => k_is); (case l_s_done_in => k_is); (case c_s_done_in => k_is); (case k_s_done_in => k_is); (case a_s_hop => k_is)
    (case l_s_hop => k_is); (case c_s_hop => k_is); (case k_s_hop => k_is); (case a_s_moved => k_is); (case l_s_moved => k_is); (case c_s_moved => k_is)
    (case k_s_moved => k_is); (case a_p_is_list => k_is); (case l_p_is_list => k_is); (case c_p_is_list => k_is); (case k_p_is_list => k_is); (case a_p_is_name => k_is)
    (case l_p_is_name => k_is); (case c_p_is_name => k_is); (case k_p_is_name => k_is); (case a_p_is_place => k_is); (case l_p_is_place => k_is); (case c_p_is_place => k_is)
    (case k_p_is_place => k_is); (case a_p_is_table => k_is); (case l_p_is_table => k_is); (case c_p_is_table => k_is); (case k_p_is_table => k_is); (case a_p_are_different => k_is)
    (case l_p_are_different => k_is); (case c_p_are_different => k_is); (case k_p_are_different => k_is); (case a_p_are_nodes => k_is); (case l_p_are_nodes => k_is); (case c_p_are_nodes => k_is)
    (case k_p_are_nodes => k_is); (case a_p_is_pair_of_dicts => k_is); (case l_p_is_pair_of_dicts => k_is); (case c_p_is_pair_of_dicts => k_is); (case k_p_is_pair_of_dicts => k_is); (case a_p_are_tables => k_is)
    (case l_p_are_tables => k_is); (case c_p_are_tables => k_is); (case k_p_are_tables => k_is); (case a_p_check_net => k_is); (case l_p_check_net => k_is); (case c_p_check_net => k_is)
    (case k_p_check_net => k_is); (case a_p_check_goal => k_is); (case l_p_check_goal => k_is); (case c_p_check_goal => k_is); (case k_p_check_goal => k_is); (case a_p_check_lot => k_is)
    (case l_p_check_lot => k_is); (case c_p_check_lot => k_is); (case k_p_check_lot => k_is); (case a_p_check_round => k_is); (case l_p_check_round => k_is); (case c_p_check_round => k_is)
    (case k_p_check_round => k_is); (case a_p_is_lot_of => k_is); (case l_p_is_lot_of => k_is); (case c_p_is_lot_of => k_is); (case k_p_is_lot_of => k_is); (case a_g_goals => k_is)
    (case ge_g_goals => k_is); (case ta_g_goals => k_is); (case re_g_goals => k_is); (case l_g_goals => k_is); (case c_g_goals => k_is); (case k_g_goals => k_is)
    (case a_g_nodes => k_is); (case ge_g_nodes => k_is); (case ta_g_nodes => k_is); (case re_g_nodes => k_is); (case l_g_nodes => k_is); (case c_g_nodes => k_is)
    (case k_g_nodes => k_is); (case a_g_changing => k_is); (case ge_g_changing => k_is); (case ta_g_changing => k_is); (case re_g_changing => k_is); (case l_g_changing => k_is)
    (case c_g_changing => k_is); (case k_g_changing => k_is); (case a_p_check_node => k_is); (case l_p_check_node => k_is); (case c_p_check_node => k_is); (case k_p_check_node => k_is)
    (case a_p_is_number => k_is); (case l_p_is_number => k_is); (case c_p_is_number => k_is); (case k_p_is_number => k_is); (case a_p_is_count => k_is); (case l_p_is_count => k_is)
    (case c_p_is_count => k_is); (case k_p_is_count => k_is); (case a_p_ways => k_is); (case l_p_ways => k_is); (case c_p_ways => k_is); (case k_p_ways => k_is)
    (case a_p_joined => k_is); (case l_p_joined => k_is); (case c_p_joined => k_is); (case k_p_joined => k_is); (case a_p_parts_of => k_is); (case l_p_parts_of => k_is)
    (case c_p_parts_of => k_is); (case k_p_parts_of => k_is); (case a_p_is_part => k_is); (case l_p_is_part => k_is); (case c_p_is_part => k_is); (case k_p_is_part => k_is)
    (case a_p_stages_of => k_is); (case l_p_stages_of => k_is); (case c_p_stages_of => k_is); (case k_p_stages_of => k_is); (case a_p_first_wrong_round => k_is); (case l_p_first_wrong_round => k_is)
    (case c_p_first_wrong_round => k_is); (case k_p_first_wrong_round => k_is); (case a_p_check_plan => k_is); (case l_p_check_plan => k_is); (case c_p_check_plan => k_is); (case k_p_check_plan => k_is)
    (case a_p_is_story => k_is); (case l_p_is_story => k_is); (case c_p_is_story => k_is); (case k_p_is_story => k_is); (case a_p_story => k_is); (case l_p_story => k_is)
    (case c_p_story => k_is); (case k_p_story => k_is); (case a_p_stages => k_is); (case l_p_stages => k_is); (case c_p_stages => k_is); (case k_p_stages => k_is)
    (case a_p_known => k_is); (case l_p_known => k_is); (case c_p_known => k_is); (case k_p_known => k_is); (case a_p_clash => k_is); (case l_p_clash => k_is)
    (case c_p_clash => k_is); (case k_p_clash => k_is); (case a_p_states_seen => k_is); (case l_p_states_seen => k_is); (case c_p_states_seen => k_is); (case k_p_states_seen => k_is)
    (case a_p_states_in_stories => k_is); (case l_p_states_in_stories => k_is); (case c_p_states_in_stories => k_is); (case k_p_states_in_stories => k_is); (case a_p_is_state => k_is); (case l_p_is_state => k_is)
    (case c_p_is_state => k_is); (case k_p_is_state => k_is); (case a_p_can_follow => k_is); (case l_p_can_follow => k_is); (case c_p_can_follow => k_is); (case k_p_can_follow => k_is)
    (case a_p_now_new => k_is); (case l_p_now_new => k_is); (case c_p_now_new => k_is); (case k_p_now_new => k_is); (case a_p_is_seen_in => k_is); (case l_p_is_seen_in => k_is)
    (case c_p_is_seen_in => k_is); (case k_p_is_seen_in => k_is); (case a_p_is_sight => k_is); (case l_p_is_sight => k_is); (case c_p_is_sight => k_is); (case k_p_is_sight => k_is)
    (case a_p_check_sights => k_is); (case l_p_check_sights => k_is); (case c_p_check_sights => k_is); (case k_p_check_sights => k_is); (case a_p_check_asked => k_is); (case l_p_check_asked => k_is)
    (case c_p_check_asked => k_is); (case k_p_check_asked => k_is); (case a_m_way => k_is); (case i_m_way => k_is); (case l_m_way => k_is); (case c_m_way => k_is)
    (case k_m_way => k_is); (case a_g_tables => k_is); (case ge_g_tables => k_is); (case ta_g_tables => k_is); (case re_g_tables => k_is); (case l_g_tables => k_is)
    (case c_g_tables => k_is); (case k_g_tables => k_is); (case a_law => k_is); (case l_law => k_is); (case c_law => k_is); (case k_law => k_is)
    (case aI => k_is); (case iI => k_is); (case lI => k_is); (case cI => k_is); (case kI => k_is); (case lT => k_is)
    (case pg => k_is); (case hd => k_is); (case po => k_is); (case sa => k_is); (case mk => k_is); (case kc => k_is)
    (case nT_ => k_is); (case nN_ => k_is); (case nS_ => k_is); (case nP_ => k_is); (case ha => k_is); (case hn => k_is)
    (case hk => k_is); (case hm => k_is); (case v_MOST_POSTS => k_is); (case v_MOST_NODES => k_is); (case v_MOST_GOALS => k_is); (case v_MOST_LETTERS => k_is)
    (case v_MOST_SIGHTS => k_is); (case z_int => k_is); (case z_len => k_is); (case z_abs => k_is); (case z_list => k_is); (case z_dict => k_is)
    (case z_sorted => k_is); (case z_range => k_is); (case z_isinstance => k_is); (case z_str => k_is); (case z_tuple => k_is); (case z_all => k_is)
    (case z_any => k_is); (case z_set => k_is); (case z_enumerate => k_is); (case z_min => k_is); (case z_repr => k_is); (case z_reversed => k_is)
    (case z_max => k_is); (case z_zip => k_is); (case z_bool => k_is)
end T_Z1
