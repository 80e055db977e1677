import PyProof.Rows.All
import Wide.All
import OpenK.AllK
import Wide.FinOn
import HandS.ForMost
import HandS.Codes
import HandS.Evl
import HandS.Walk
import HandS.More
import HandS.Property
import HandS.DictComp
import HandS.Strs
import HandS.Zip
import HandS.IsInst
import HandS.Conv
import PySem.Challenge.RW_roundways_k36_whole_paths_in_closed_form
import HandS.Set
import HandS.SetFor
import KE.KDictCopyH
import HandS.Defaults
import HandS.NoneIn
import HandS.Star
import HandS.DictTup
import HandS.SortRule
import KE.KSortKey
import HandS.Lambda
import HandS.Deep
import KE.KSortTupAny
import PyProof.Rows.TupDisplay
import HandS.Style
import HandS.ListItems
import HandS.EndTab
import KE.KNest
section T_D0
set_option Elab.async false
set_option linter.all false
set_option maxRecDepth 100000
set_option maxHeartbeats 4000000
namespace Rw
open PySem L2 PyProof.Rows
/-! ### ints as data -/
theorem dp_ints {K : PySem.W.Frag} {H : Hp} : ∀ ns : List Int, DpAll K H (ns.map V.int) (ns.map PyData.int)
  | [] => .nil
  | n :: r => .cons (.int n) (dp_ints r)
theorem canlay_ints : ∀ ns : List Int, PyData.canLayAll0 (ns.map PyData.int) = true
  | [] => rfl
  | n :: r => by
    show (PyData.canLay0 (.int n) && PyData.canLayAll0 (r.map PyData.int)) = true
    rw [canlay_ints r]
    rfl
theorem depth_ints : ∀ ns : List Int, PyData.depthAll (ns.map PyData.int) = 0
  | [] => rfl
  | n :: r => by
    show max (PyData.depth (.int n)) (PyData.depthAll (r.map PyData.int)) = 0
    rw [depth_ints r]
    rfl
theorem shaped_ints (ns : List Int) : SeqAt.shaped (.list (ns.map PyData.int)) = true := by
  unfold SeqAt.shaped
  rw [show PyData.canLay0 (.list (ns.map PyData.int)) = PyData.canLayAll0 (ns.map PyData.int) from rfl, canlay_ints,
    show PyData.depth (.list (ns.map PyData.int)) = PyData.depthAll (ns.map PyData.int) + 1 from rfl, depth_ints]
  rfl
theorem eqv_nil (ns : List Int) : PyData.eqv (.list (ns.map PyData.int)) (.list []) = ns.isEmpty := by
  cases ns <;> rfl
/-! ### the draws: at d the dict, at g what is great, at c the cells -/
def dkv (g c : Addr) (r t : Int) : List (Key × V) := [(.inr "great", .ref g), (.inr "rest", .int r), (.inr "cells", .ref c), (.inr "turn", .int t)]
theorem dkv_great (g c : Addr) (r t : Int) : valV (dkv g c r t) (.inr "great") = some (.ref g) := by kernel_rfl
theorem dkv_rest (g c : Addr) (r t : Int) : valV (dkv g c r t) (.inr "rest") = some (.int r) := by kernel_rfl
theorem dkv_cells (g c : Addr) (r t : Int) : valV (dkv g c r t) (.inr "cells") = some (.ref c) := by kernel_rfl
theorem dkv_turn (g c : Addr) (r t : Int) : valV (dkv g c r t) (.inr "turn") = some (.int t) := by kernel_rfl
theorem dkv_put_rest (g c : Addr) (r t x : Int) : putK (dkv g c r t) (.inr "rest") (.int x) = dkv g c x t := by kernel_rfl
theorem dkv_put_turn (g c : Addr) (r t x : Int) : putK (dkv g c r t) (.inr "turn") (.int x) = dkv g c r x := by kernel_rfl
structure DrawAt (H : Hp) (d g c : Addr) : Prop where
  ex : ∃ r t : Int, H d = some (.dK (dkv g c r t))
  gl : ∃ gs : List Int, H g = some (.lst (gs.map V.int))
  cl : ∃ cs : List Int, H c = some (.lst (cs.map V.int))
  ne : c ≠ g
/-- what stood stands, but at d and g -/
def SameD (d g : Addr) (H H' : Hp) : Prop := ∀ a o, H a = some o → a ≠ d → a ≠ g → H' a = some o
/-! ### the heap without the draws -/
def off (d g : Addr) (H : Hp) : Hp := fun a => if a = d ∨ a = g then none else H a
theorem off_some {d g : Addr} {H : Hp} {a : Addr} {o : HO} (h : off d g H a = some o) : a ≠ d ∧ a ≠ g ∧ H a = some o := by
  unfold off at h
  by_cases e : a = d ∨ a = g
  · rw [if_pos e] at h; cases h
  · rw [if_neg e] at h; exact ⟨fun z => e (.inl z), fun z => e (.inr z), h⟩
theorem off_of {d g : Addr} {H : Hp} {a : Addr} {o : HO} (h : H a = some o) (h1 : a ≠ d) (h2 : a ≠ g) : off d g H a = some o := by
  unfold off
  rw [if_neg (fun z => z.elim h1 h2)]
  exact h
theorem off_free {d g : Addr} {H : Hp} {a : Addr} (h : H a = none) : off d g H a = none := by
  unfold off
  by_cases e : a = d ∨ a = g
  · rw [if_pos e]
  · rw [if_neg e]; exact h
theorem ex_off (d g : Addr) (H : Hp) : Evl.Ex (off d g H) H := fun a o h => (off_some h).2.2
theorem off_ex {d g : Addr} {H H' : Hp} (e : Evl.Ex H H') : Evl.Ex (off d g H) (off d g H') := fun a o h => off_of (e a o (off_some h).2.2) (off_some h).1 (off_some h).2.1
theorem off_same {d g : Addr} {H H' : Hp} (e : SameD d g H H') : Evl.Ex (off d g H) (off d g H') := fun a o h => off_of (e a o (off_some h).2.2 (off_some h).1 (off_some h).2.1) (off_some h).1 (off_some h).2.1
theorem DrawAt.ext {H H' : Hp} {d g c : Addr} (D : DrawAt H d g c) (e : Evl.Ex H H') : DrawAt H' d g c := by
  obtain ⟨⟨r, t, hd⟩, ⟨gs, hg⟩, ⟨cs, hc⟩, ne⟩ := D
  exact ⟨⟨r, t, e _ _ hd⟩, ⟨gs, e _ _ hg⟩, ⟨cs, e _ _ hc⟩, ne⟩
theorem DrawAt.new {H : Hp} {d g c p : Addr} {o : HO} (D : DrawAt H d g c) (h : H p = none) : DrawAt (upd H p o) d g c := D.ext (Evl.Ex.new h)
theorem DrawAt.ned {H : Hp} {d g c p : Addr} (D : DrawAt H d g c) (h : H p = none) : p ≠ d ∧ p ≠ g ∧ p ≠ c := by
  obtain ⟨⟨r, t, hd⟩, ⟨gs, hg⟩, ⟨cs, hc⟩, ne⟩ := D
  exact ⟨(ne_of_none hd h).symm, (ne_of_none hg h).symm, (ne_of_none hc h).symm⟩
/-- a new object of one's own, behind changes of others -/
theorem off_mut {d g : Addr} {H H' : Hp} {p : Addr} {o : HO} (e : Evl.Ex H (off d g H')) (h : H p = none) : Evl.Ex H (off d g (upd H' p o)) := fun a u ha => by
  have z := off_some (e a u ha)
  exact off_of (by rw [upd_ne (ne_of_none ha h)]; exact z.2.2) z.1 z.2.1
theorem DrawAt.mut {H : Hp} {d g c p : Addr} {o : HO} (D : DrawAt H d g c) (h1 : p ≠ d) (h2 : p ≠ g) (h3 : p ≠ c) : DrawAt (upd H p o) d g c := by
  obtain ⟨⟨r, t, hd⟩, ⟨gs, hg⟩, ⟨cs, hc⟩, ne⟩ := D
  exact ⟨⟨r, t, by rw [upd_ne h1.symm]; exact hd⟩, ⟨gs, by rw [upd_ne h2.symm]; exact hg⟩, ⟨cs, by rw [upd_ne h3.symm]; exact hc⟩, ne⟩
theorem ps_never {X : Cx} {st : Stmt} : PS X st (fun _ _ _ => False) := ⟨fun _ _ _ _ _ _ h => h.elim⟩
theorem pe_never {X : Cx} {e : Expr} : PE X e (fun _ _ _ => False) := ⟨fun _ _ _ _ _ _ h => h.elim⟩
theorem yes_if {σ : L2.St} {H : Hp} {F G : Hp → Prop} (h : F H) : tYes σ H (fun b H3 => if b = true then F H3 else G H3) := by
  show if true = true then F H else G H
  rw [if_pos rfl]
  exact h
/-! ### data -/
mutual
theorem dp_ex {K : PySem.W.Frag} {H H' : Hp} (e : Evl.Ex H H') : ∀ (d : PyData) (v : V), Dp K H v d → Dp K H' v d
  | .none, _, h => by cases h; exact .non
  | .bool b, _, h => by cases h; exact .bl b
  | .int i, _, h => by cases h; exact .int i
  | .str x, _, h => by cases h; exact .str x
  | .list ds, _, h => by cases h with | lst hq hd => exact .lst (Evl.ex_l e hq) (dpa_ex e ds _ hd)
  | .tuple ds, _, h => by cases h with | tup hq hd => exact .tup (Evl.ex_t e hq) (dpa_ex e ds _ hd)
  | .dict _, _, h => by cases h
theorem dpa_ex {K : PySem.W.Frag} {H H' : Hp} (e : Evl.Ex H H') : ∀ (ds : List PyData) (vs : List V), DpAll K H vs ds → DpAll K H' vs ds
  | [], _, h => by cases h; exact .nil
  | d :: ds, _, h => by cases h with | cons h1 h2 => exact .cons (dp_ex e d _ h1) (dpa_ex e ds _ h2)
end
/-- a value that is data, not deep -/
def DataV (K : PySem.W.Frag) (H : Hp) (v : V) : Prop := ∃ d : PyData, Dp K H v d ∧ d.canLay0 = true ∧ d.depth ≤ 60
theorem DataV.ex {K : PySem.W.Frag} {H H' : Hp} {v : V} (h : DataV K H v) (e : Evl.Ex H H') : DataV K H' v := by
  obtain ⟨d, h1, h2⟩ := h
  exact ⟨d, dp_ex e d v h1, h2⟩
theorem data_all {K : PySem.W.Frag} {H : Hp} : ∀ vs : List V, (∀ v ∈ vs, DataV K H v) → ∃ ds : List PyData, DpAll K H vs ds ∧ PyData.canLayAll0 ds = true ∧ PyData.depthAll ds ≤ 60 ∧ ds.length = vs.length
  | [], _ => ⟨[], .nil, rfl, Nat.zero_le _, rfl⟩
  | v :: vs, h => by
    obtain ⟨d, h1, h2, h3⟩ := h v List.mem_cons_self
    obtain ⟨ds, g1, g2, g3, g4⟩ := data_all vs fun u hu => h u (List.mem_cons_of_mem _ hu)
    refine ⟨d :: ds, .cons h1 g1, ?_, ?_, by simp [g4]⟩
    · show (d.canLay0 && PyData.canLayAll0 ds) = true
      rw [h2, g2]
      rfl
    · show max d.depth (PyData.depthAll ds) ≤ 60
      omega
theorem data_list {K : PySem.W.Frag} {H : Hp} {a : Addr} {vs : List V} (hS : SqL K H a vs) (h : ∀ v ∈ vs, DataV K H v) : ∃ d : PyData, Dp K H (.ref a) d ∧ SeqAt.shaped d = true ∧ PyData.eqv d (.list []) = vs.isEmpty := by
  obtain ⟨ds, g1, g2, g3, g4⟩ := data_all vs h
  refine ⟨.list ds, .lst hS g1, ?_, ?_⟩
  · unfold SeqAt.shaped
    rw [show PyData.canLay0 (.list ds) = PyData.canLayAll0 ds from rfl, g2, show PyData.depth (.list ds) = PyData.depthAll ds + 1 from rfl]
    exact decide_eq_true (show PyData.depthAll ds + 1 ≤ 64 by omega)
  · cases vs with
    | nil =>
      cases ds with
      | nil => rfl
      | cons _ _ => simp at g4
    | cons _ _ =>
      cases ds with
      | nil => simp at g4
      | cons _ _ => rfl
theorem strV_data {K : PySem.W.Frag} {H : Hp} {z : Str} (h : PyData.strOk z = true) : DataV K H (.str z) := ⟨.str z, .str z, h, Nat.zero_le _⟩
/-! ### what the draws promise -/
def spBlend : Sp := fun vs H Q _ => ∃ (d g c : Addr), vs = [.ref d] ∧ DrawAt H d g c ∧ ∀ (n : Int) (H' : Hp), DrawAt H' d g c → SameD d g H H' → Q (.int n) H'
def spTake : Sp := fun vs H Q _ => ∃ (d g c : Addr) (n : Int), vs = [.ref d, .int n] ∧ 0 < n ∧ n < 2 ^ 30 ∧ DrawAt H d g c ∧ ∀ (k : Int) (H' : Hp), 0 ≤ k → k < n → DrawAt H' d g c → Evl.Ex (off d g H) (off d g H') → Q (.int k) H'
/-- one of a list's items -/
def spPickL (K : PySem.W.Frag) : Sp := fun vs H Q _ => ∃ (d g c a : Addr) (xs : List V), vs = [.ref d, .ref a] ∧ DrawAt H d g c ∧ SqL K (off d g H) a xs ∧ 0 < xs.length ∧ xs.length < 2 ^ 30 ∧
  ∀ (i : Nat) (v : V) (H' : Hp), xs[i]? = some v → DrawAt H' d g c → Evl.Ex (off d g H) (off d g H') → Q v H'
/-- one of a text's signs -/
def spPickS : Sp := fun vs H Q _ => ∃ (d g c : Addr) (z : Str), vs = [.ref d, .str z] ∧ DrawAt H d g c ∧ 0 < z.length ∧ z.length ≤ 1000 ∧
  ∀ (i ch : Nat) (H' : Hp), z.cps.toList[i]? = some ch → DrawAt H' d g c → Evl.Ex (off d g H) (off d g H') → Q (.str ⟨#[ch]⟩) H'
/-- a list's or tuple's items in some order, a new list -/
def spMixed (K : PySem.W.Frag) : Sp := fun vs H Q _ => ∃ (d g c a : Addr) (xs : List V), vs = [.ref d, .ref a] ∧ DrawAt H d g c ∧ (SqL K (off d g H) a xs ∨ SqT K (off d g H) a xs) ∧ xs.length ≤ 1000 ∧ (∀ v ∈ xs, DataV K (off d g H) v) ∧
  ∀ (p : Addr) (ys : List V) (H' : Hp), ys.Perm xs → DrawAt H' d g c → Evl.Ex (off d g H) (off d g H') → H p = none → off d g H' p = some (.lst ys) → Q (.ref p) H'
def spBegin (K : PySem.W.Frag) : Sp := fun vs H Q _ => ∃ (a : Addr) (ns : List Int), vs = [.ref a] ∧ SqL K H a (ns.map V.int) ∧ ns.length ≤ 63 ∧
  ∀ (d g c : Addr) (H' : Hp), DrawAt H' d g c → Evl.Ex H (off d g H') → Q (.ref d) H'
end Rw
end T_D0

section T_T0
set_option Elab.async false
set_option linter.all false
set_option maxRecDepth 100000
namespace Rw
open PySem L2 PyProof.Rows
def topS (i : Nat) : Stmt := PySem.Challenge.pw_roundways_k36_whole_paths_in_closed_form.main.body.getD i (.Pass ⟨0, 0, 0, 0⟩)
abbrev p_wall : Stmt := topS 0
abbrev p_copied : Stmt := topS 2
abbrev c_BadNet_init : Stmt := inClass (topS 4) 0
abbrev c_NoGoal_init : Stmt := inClass (topS 5) 0
abbrev c_NoNode_init : Stmt := inClass (topS 6) 0
abbrev c_BadNumber_init : Stmt := inClass (topS 8) 0
abbrev c_Net_init : Stmt := inClass (topS 14) 0
abbrev c_Net_eq : Stmt := inClass (topS 14) 1
abbrev c_Net_tables : Stmt := inClass (topS 14) 2
abbrev c_Net_goals : Stmt := inClass (topS 14) 3
abbrev c_Net_nodes : Stmt := inClass (topS 14) 4
abbrev c_Net_sources : Stmt := inClass (topS 14) 5
abbrev c_Net_posts : Stmt := inClass (topS 14) 6
abbrev c_Net_changing : Stmt := inClass (topS 14) 7
abbrev c_Net_way : Stmt := inClass (topS 14) 8
abbrev c_Net_turned : Stmt := inClass (topS 14) 9
abbrev c_Net_with_way : Stmt := inClass (topS 14) 10
abbrev p_followed : Stmt := topS 15
abbrev p_check_net : Stmt := topS 16
abbrev p_check_goal : Stmt := topS 17
abbrev p_check_node : Stmt := topS 18
abbrev p_is_list : Stmt := topS 19
abbrev p_is_number : Stmt := topS 20
abbrev p_is_name : Stmt := topS 21
abbrev p_is_place : Stmt := topS 22
abbrev p_are_different : Stmt := topS 23
abbrev p_are_nodes : Stmt := topS 24
abbrev p_are_tables : Stmt := topS 25
abbrev p_is_pair_of_dicts : Stmt := topS 26
abbrev p_is_table : Stmt := topS 27
abbrev p_ways_at : Stmt := topS 29
abbrev p_joined : Stmt := topS 30
abbrev p_parts_of : Stmt := topS 31
abbrev p_fault_at : Stmt := topS 34
abbrev p_broken_moments : Stmt := topS 35
abbrev p_starts : Stmt := topS 36
abbrev p_breaks : Stmt := topS 37
abbrev p_posts_passed : Stmt := topS 38
abbrev p_passed_with : Stmt := topS 39
abbrev p_check_wishes : Stmt := topS 40
abbrev p_fewest : Stmt := topS 43
abbrev p_how_many : Stmt := topS 44
abbrev p_moments_to_avoid : Stmt := topS 45
abbrev p_safe_rounds : Stmt := topS 46
abbrev p_round_numbers : Stmt := topS 47
abbrev p_rounds_needed : Stmt := topS 48
abbrev p_plan_counts : Stmt := topS 49
abbrev p_plan_with_place : Stmt := topS 50
abbrev p_check_many : Stmt := topS 51
abbrev s_begin : Stmt := topS 53
abbrev s_blend : Stmt := topS 54
abbrev s_take : Stmt := topS 55
abbrev s_pick : Stmt := topS 56
abbrev s_mixed : Stmt := topS 57
abbrev s_names : Stmt := topS 58
abbrev s_table : Stmt := topS 59
abbrev s_made : Stmt := topS 60
abbrev s_moved : Stmt := topS 61
abbrev s_row : Stmt := topS 62
abbrev s_web : Stmt := topS 63
abbrev s_ranks : Stmt := topS 64
abbrev s_law : Stmt := topS 65
end Rw
end T_T0

section T_D1
set_option Elab.async false
set_option linter.all false
set_option maxRecDepth 100000
set_option maxHeartbeats 4000000
namespace Rw
open PySem L2 PyProof.Rows
section
variable {P : Program} {w : World} {K : PySem.W.Frag} {mg : Str → Option Value} {base : Heap}
theorem sc_blend : FnScope ["draw", "turn", "found", "prime", "blend", "cell"] ["draw"] (defScope s_blend) := ⟨rfl, rfl, rfl, by decide +kernel, rfl, by decide +kernel, by decide +kernel⟩
theorem ok_blend {f : Addr} {fd : FuncData} (F : Fun K "_law_blend" "_law_blend" s_blend f fd) (mInt : mg "int" = none) : FnOk P w K mg base CX0 1 f fd ["draw"] spBlend := by
  refine F.ok sc_blend (fun vs H Q E h => ?_) (fun cdv A outer s H vs Q E hr h => ?_)
  · obtain ⟨d, g, c, rfl, _⟩ := h
    rfl
  · obtain ⟨d, g, c, rfl, D, k⟩ := h
    have hu := hu_of hr
    have nd := sc_blend.nd
    refine ⟨_, pss_cons (ps_set (i := 1) nd rfl (.inl rfl) (pe_op op_add (pe_dget hu (pv 0) pe_str (fun _ _ => rfl)) pe_int))
      (pss_cons (ps_dput hu (pv 0) pe_str (pv 1) rfl)
      (pss_cons (ps_set (i := 2) nd rfl (.inl rfl) pe_int)
      (pss_cons (ps_for PassesOwn.never rfl (pi_list (pe_lst (pa_cons pe_int (pa_cons pe_int (pa_cons pe_int (pa_cons pe_int pa_nil)))))) (pg_name (i := 3) nd rfl (.inl rfl))
        (pss_cons (ps_set (i := 4) nd rfl (.inl rfl) (pe_op op_mod (pe_callTy call_int1 (by rfl) mInt boot_int (pa_cons (pe_op op_add (pe_op op_mul (pv 1) pe_int) (pe_op op_fdiv (pv 3) pe_int)) pa_nil)) (pv 3)))
        (pss_cons (ps_for PassesOwn.never rfl (pi_list (pe_dget hu (pv 0) pe_str (fun _ _ => rfl))) (pg_name (i := 5) nd rfl (.inl rfl))
          (pss_one (ps_set (i := 4) nd rfl (.inl rfl) (pe_op op_mod (pe_callTy call_int1 (by rfl) mInt boot_int (pa_cons (pe_op op_add (pe_op op_mul (pv 4) pe_int) (pv 5)) pa_nil)) (pv 3)))))
        (pss_one (ps_set (i := 2) nd rfl (.inl rfl) (pe_op op_add (pe_op op_mul (pv 2) pe_int) (pe_op op_mod (pe_callTy call_int1 (by rfl) mInt boot_int (pa_cons (pe_op op_pow (pv 4) pe_int) pa_nil)) (pv 3))))))))
      (pss_one (ps_ret (pv 2)))))), ?_⟩
    obtain ⟨⟨r, t, hd⟩, ⟨gs, hg⟩, ⟨cs, hc⟩, ncg⟩ := id D
    have ndg : d ≠ g := ne_of hd hg (by intro z; cases z)
    have ndc : d ≠ c := ne_of hd hc (by intro z; cases z)
    -- turn = draw['turn'] + 1
    refine ⟨.ref d, rfl, d, _, rfl, by have := DGet.k (k := Sum.inr "turn") hd; rw [dkv_turn] at this; exact this, t, 1, rfl, rfl, ?_⟩
    -- draw['turn'] = turn
    refine ⟨_, rfl, _, rfl, d, _, rfl, DPut.k (k := Sum.inr "turn") hd (by show 4 < sizeLine; decide), ?_⟩
    rw [dkv_put_turn]
    have hc1 : SqL K (upd H d (.dK (dkv g c r (t + 1)))) c (cs.map V.int) := .inl (.inl (by rw [upd_ne ndc.symm]; exact hc))
    have hd1 : (upd H d (.dK (dkv g c r (t + 1)))) d = some (.dK (dkv g c r (t + 1))) := upd_same
    generalize hH1 : upd H d (.dK (dkv g c r (t + 1))) = H1 at hc1 hd1 ⊢
    have kp : ∀ a o, H a = some o → a ≠ d → H1 a = some o := fun a o e ne => by rw [← hH1, upd_ne ne]; exact e
    -- found = 0; the primes
    refine ⟨by show 4 ≤ sizeLine; decide, fun p hp => ?_⟩
    have npd : d ≠ p := ne_of_none hd1 hp
    have hp2 : (upd H1 p (.lst ([2147483629, 2147483587, 2147483579, 2147483563].map V.int))) p = some (.lst ([2147483629, 2147483587, 2147483579, 2147483563].map V.int)) := upd_same
    have hd2 : (upd H1 p (.lst ([2147483629, 2147483587, 2147483579, 2147483563].map V.int))) d = some (.dK (dkv g c r (t + 1))) := by rw [upd_ne npd]; exact hd1
    have s12 : Same H1 (upd H1 p (.lst ([2147483629, 2147483587, 2147483579, 2147483563].map V.int))) := fun b o e => by rw [upd_ne (ne_of_none e hp)]; exact e
    refine ⟨p, rfl, ⟨_, .inl (.inl hp2)⟩, for_list (K := K) (a := p) (xs := [2147483629, 2147483587, 2147483579, 2147483563].map V.int)
      (fun i σ H2 => H2 = upd H1 p (.lst ([2147483629, 2147483587, 2147483579, 2147483563].map V.int)) ∧ ∃ (fo : Int) (x3 x4 x5 : Option V), σ = [some (.ref d), some (.int (t + 1)), some (.int fo), x3, x4, x5])
      ⟨rfl, 0, none, none, none, rfl⟩ (fun i σ H2 _ h => h.1 ▸ .inl (.inl hp2)) ?_ ?_⟩
    · rintro i x σ H2 hi ⟨rfl, fo, x3, x4, x5, rfl⟩
      obtain ⟨q, rfl, hq0, hq1⟩ : ∃ q : Int, x = .int q ∧ 0 < q ∧ q < 2147483648 := by
        match i, hi with
        | 0, hi => exact ⟨_, (Option.some.inj hi).symm, by decide, by decide⟩
        | 1, hi => exact ⟨_, (Option.some.inj hi).symm, by decide, by decide⟩
        | 2, hi => exact ⟨_, (Option.some.inj hi).symm, by decide, by decide⟩
        | 3, hi => exact ⟨_, (Option.some.inj hi).symm, by decide, by decide⟩
        | n + 4, hi => exact absurd hi (by simp)
      refine ⟨_, rfl, t + 1, 69621, rfl, rfl, .inr ⟨by decide, by decide⟩, _, rfl, q, 7, rfl, rfl, ⟨by decide, by decide⟩, _, _, rfl, rfl, .inl ⟨_, rfl, ?_⟩⟩
      refine ⟨_, rfl, _, q, rfl, rfl, hq0, ?_⟩
      -- the cells
      refine ⟨.ref d, rfl, d, _, rfl, by have := DGet.k (k := Sum.inr "cells") hd2; rw [dkv_cells] at this; exact this, c, rfl, ⟨_, s12.seq hc1⟩, for_list (K := K) (a := c) (xs := cs.map V.int)
        (fun j σ H3 => H3 = upd H1 p (.lst ([2147483629, 2147483587, 2147483579, 2147483563].map V.int)) ∧ ∃ (bl : Int) (x5 : Option V), 0 ≤ bl ∧ bl < q ∧ σ = [some (.ref d), some (.int (t + 1)), some (.int fo), some (.int q), some (.int bl), x5])
        ⟨rfl, _, x5, Int.emod_nonneg _ (by omega), Int.emod_lt_of_pos _ hq0, rfl⟩ (fun j σ H3 _ h => h.1 ▸ s12.seq hc1) ?_ ?_⟩
      · rintro j y σ H3 hj ⟨rfl, bl, x5', hb0, hb1, rfl⟩
        obtain ⟨z, rfl⟩ : ∃ z, y = V.int z := by
          rw [List.getElem?_map] at hj
          cases e : cs[j]? with
          | none => rw [e] at hj; cases hj
          | some z => rw [e] at hj; exact ⟨z, (Option.some.inj hj).symm⟩
        refine ⟨_, rfl, bl, 48271, rfl, rfl, .inr ⟨by decide, by decide⟩, _, rfl, _, z, rfl, rfl, .inl ⟨_, rfl, ?_⟩⟩
        refine ⟨_, rfl, _, q, rfl, rfl, hq0, ?_⟩
        exact ⟨rfl, _, _, Int.emod_nonneg _ (by omega), Int.emod_lt_of_pos _ hq0, rfl⟩
      · rintro σ H3 ⟨rfl, bl, x5', hb0, hb1, rfl⟩
        refine ⟨_, rfl, fo, 2147483647, rfl, rfl, .inr ⟨by decide, by decide⟩, _, rfl, bl, 5, rfl, rfl, ⟨by decide, by decide, by omega⟩, .inl ⟨_, rfl, ?_⟩⟩
        refine ⟨_, rfl, _, q, rfl, rfl, hq0, _, _, rfl, rfl, ?_⟩
        exact ⟨rfl, _, _, _, _, rfl⟩
    · rintro σ H2 ⟨rfl, fo, x3, x4, x5, rfl⟩
      refine ⟨_, rfl, k fo _ ⟨⟨r, t + 1, hd2⟩, ⟨gs, s12 _ _ (kp _ _ hg ndg.symm)⟩, ⟨cs, s12 _ _ (kp _ _ hc ndc.symm)⟩, ncg⟩ (fun a o e n1 _ => s12 _ _ (kp a o e n1))⟩
theorem sc_take : FnScope ["draw", "size", "found"] ["draw", "size"] (defScope s_take) := ⟨rfl, rfl, rfl, by decide +kernel, rfl, by decide +kernel, by decide +kernel⟩
theorem ok_take {f fB : Addr} {fd fdB : FuncData} (F : Fun K "_law_take" "_law_take" s_take f fd) (FB : Fun K "_law_blend" "_law_blend" s_blend fB fdB) (bB : Binds K fdB ["draw"] []) (gB : mg "_law_blend" = some (.ref fB)) (mInt : mg "int" = none) :
    FnOk P w K mg base CX0 2 f fd ["draw", "size"] spTake := by
  have GB : FnOk P w K mg base CX0 1 fB fdB ["draw"] spBlend := ok_blend FB mInt
  refine F.ok sc_take (fun vs H Q E h => ?_) (fun cdv A outer s H vs Q E hr h => ?_)
  · obtain ⟨d, g, c, n, rfl, _⟩ := h
    rfl
  · obtain ⟨d, g, c, n, rfl, hn0, hn1, D, k⟩ := h
    have hu := hu_of hr
    have nd := sc_take.nd
    refine ⟨_, C8.pss_cut (ps_if (PW.pt (pw_and (pt_cmpR op_eq (pe_dget hu (pv 0) pe_str (fun _ _ => rfl)) pe_int (nomark _)) (pw_and1 (pt_cmpR (op_neD hr.units) (pe_dget hu (pv 0) pe_str (fun _ _ => rfl)) (pe_lst pa_nil) (nomark _)))))
        (pss_one (ps_dput hu (pv 0) pe_str (pe_bm PySem.F.plainAttrs_list PySem.F.slot_list_pop PySem.F.type_list_pop mt_popAt (pe_dget hu (pv 0) pe_str (fun _ _ => rfl)) (pa_cons pe_int pa_nil)) rfl)) pss_nil)
      (C8.pss_cut (ps_if (pt_cmpR op_eq (pe_dget hu (pv 0) pe_str (fun _ _ => rfl)) pe_int (nomark _))
        (pss_one (ps_dput hu (pv 0) pe_str (pe_call GB hr rfl gB FB.kp bB .nil pass0 (pa_cons (pv 0) pa_nil)) rfl)) pss_nil)
      (pss_cons (ps_set (i := 2) nd rfl (.inl rfl) (pe_op op_mod (pe_callTy call_int1 (by rfl) mInt boot_int (pa_cons (pe_dget hu (pv 0) pe_str (fun _ _ => rfl)) pa_nil)) (pv 1)))
      (pss_cons (ps_dput hu (pv 0) pe_str (pe_op op_fdiv (pe_dget hu (pv 0) pe_str (fun _ _ => rfl)) (pv 1)) rfl)
      (pss_one (ps_ret (pv 2)))))), ?_⟩
    have gr : ∀ {H1 : Hp} {r t : Int}, H1 d = some (.dK (dkv g c r t)) → DGet H1 d (.str "rest") (some (.int r)) := fun {H1 r t} e => by
      have := DGet.k (k := Sum.inr "rest") e
      rw [dkv_rest] at this
      exact this
    have gg : ∀ {H1 : Hp} {r t : Int}, H1 d = some (.dK (dkv g c r t)) → DGet H1 d (.str "great") (some (.ref g)) := fun {H1 r t} e => by
      have := DGet.k (k := Sum.inr "great") e
      rw [dkv_great] at this
      exact this
    have pr : ∀ {H1 : Hp} {r t : Int} (x : Int), H1 d = some (.dK (dkv g c r t)) → DPut H1 d (.str "rest") (.int x) (upd H1 d (.dK (dkv g c x t))) := fun {H1 r t} x e => by
      have := DPut.k (k := Sum.inr "rest") (v := .int x) e (by show 4 < sizeLine; decide)
      rw [dkv_put_rest] at this
      exact this
    -- what is stored at d leaves the draws
    have st : ∀ {H1 : Hp} {r t : Int}, DrawAt H1 d g c → SameD d g H H1 → DrawAt (upd H1 d (.dK (dkv g c r t))) d g c ∧ SameD d g H (upd H1 d (.dK (dkv g c r t))) := fun {H1 r t} D1 S1 => by
      obtain ⟨⟨r', t', hd'⟩, ⟨gs', hg'⟩, ⟨cs', hc'⟩, ncg'⟩ := D1
      exact ⟨⟨⟨r, t, upd_same⟩, ⟨gs', by rw [upd_ne (ne_of hd' hg' (by intro z; cases z)).symm]; exact hg'⟩, ⟨cs', by rw [upd_ne (ne_of hd' hc' (by intro z; cases z)).symm]; exact hc'⟩, ncg'⟩, fun a o e n1 n2 => by rw [upd_ne n1]; exact S1 a o e n1 n2⟩
    have s0 : SameD d g H H := fun a o e _ _ => e
    obtain ⟨⟨r, t, hd⟩, ⟨gs, hg⟩, ⟨cs, hc⟩, ncg⟩ := id D
    have ndg : d ≠ g := ne_of hd hg (by intro z; cases z)
    -- if draw['rest'] == 0 and draw['great'] != []
    refine ⟨fun σ' H' => σ' = [some (.ref d), some (.int n), none] ∧ DrawAt H' d g c ∧ SameD d g H H', ?_, ?_⟩
    · refine ⟨.ref d, rfl, d, _, rfl, gr hd, rfl, _, rfl, ite2 (fun _ => ?_) (fun _ => ?_)⟩
      · refine ⟨.ref d, rfl, d, _, rfl, gg hd, Nat.zero_le _, fun p hp => ?_⟩
        have npg : g ≠ p := ne_of_none hg hp
        have npd : d ≠ p := ne_of_none hd hp
        have hg1 : (upd H p (.lst [])) g = some (.lst (gs.map V.int)) := by rw [upd_ne npg]; exact hg
        have hd1 : (upd H p (.lst [])) d = some (.dK (dkv g c r t)) := by rw [upd_ne npd]; exact hd
        have hc1 : (upd H p (.lst [])) c = some (.lst (cs.map V.int)) := by rw [upd_ne (ne_of_none hc hp)]; exact hc
        have S1 : SameD d g H (upd H p (.lst [])) := fun a o e _ _ => by rw [upd_ne (ne_of_none e hp)]; exact e
        have D1 : DrawAt (upd H p (.lst [])) d g c := ⟨⟨r, t, hd1⟩, ⟨gs, hg1⟩, ⟨cs, hc1⟩, ncg⟩
        refine ⟨_, _, .lst (.inl (.inl hg1)) (dp_ints gs), .lst (.inl (.inl upd_same)) .nil, shaped_ints gs, shaped_ints [], _, rfl, ?_⟩
        rw [eqv_nil]
        cases gs with
        | nil => exact ⟨rfl, D1, S1⟩
        | cons x gs =>
          refine iteT ?_
          generalize upd H p (.lst []) = H1 at hg1 hd1 hc1 S1 D1
          refine ⟨.ref d, rfl, d, _, rfl, gg hd1, .inl ⟨rfl, _, .inl (.inl hg1)⟩, g, _, 0, 0, .int x, rfl, rfl, hg1, by decide, by decide, ?_, rfl, .ref d, rfl, d, _, rfl, pr x (r := r) (t := t) (by rw [upd_ne ndg]; exact hd1), ?_⟩
          · simp [seqIndex?]
          · have D2 : DrawAt (upd H1 g (.lst (((x :: gs).map V.int).eraseIdx 0))) d g c := ⟨⟨r, t, by rw [upd_ne ndg]; exact hd1⟩, ⟨gs, upd_same⟩, ⟨cs, by
              rw [upd_ne (show c ≠ g from fun z => ncg z)]
              exact hc1⟩, ncg⟩
            have S2 : SameD d g H (upd H1 g (.lst (((x :: gs).map V.int).eraseIdx 0))) := fun a o e n1 n2 => by rw [upd_ne n2]; exact S1 a o e n1 n2
            have z := st (r := x) (t := t) D2 S2
            exact ⟨rfl, z.1, z.2⟩
      · exact ⟨rfl, D, s0⟩
    · rintro σ' H' ⟨rfl, D1, S1⟩
      obtain ⟨⟨r1, t1, hd1⟩, _, _⟩ := id D1
      -- if draw['rest'] == 0
      refine ⟨fun σ' H' => σ' = [some (.ref d), some (.int n), none] ∧ DrawAt H' d g c ∧ SameD d g H H', ?_, ?_⟩
      · refine ⟨.ref d, rfl, d, _, rfl, gr hd1, rfl, _, rfl, ite2 (fun _ => ?_) (fun _ => ⟨rfl, D1, S1⟩)⟩
        refine ⟨.ref d, rfl, d, g, c, rfl, D1, fun x H2 D2 S2 => ?_⟩
        obtain ⟨⟨r2, t2, hd2⟩, _, _⟩ := id D2
        have S3 : SameD d g H H2 := fun a o e n1 n2 => S2 a o (S1 a o e n1 n2) n1 n2
        have z := st (r := x) (t := t2) D2 S3
        exact ⟨.ref d, rfl, d, _, rfl, pr x hd2, rfl, z.1, z.2⟩
      · rintro σ' H2 ⟨rfl, D2, S2⟩
        obtain ⟨⟨r2, t2, hd2⟩, _, _⟩ := id D2
        refine ⟨.ref d, rfl, d, _, rfl, gr hd2, .inl ⟨r2, rfl, _, rfl, r2, n, rfl, rfl, hn0, ?_⟩⟩
        refine ⟨.ref d, rfl, d, _, rfl, gr hd2, _, rfl, r2, n, rfl, rfl, ⟨hn0, hn1⟩, .ref d, rfl, d, _, rfl, pr _ hd2, _, rfl, ?_⟩
        have z := st (r := r2 / n) (t := t2) D2 S2
        exact k _ _ (Int.emod_nonneg _ (by omega)) (Int.emod_lt_of_pos _ hn0) z.1 (off_same z.2)
theorem sc_pick : FnScope ["draw", "some"] ["draw", "some"] (defScope s_pick) := ⟨rfl, rfl, rfl, by decide +kernel, rfl, by decide +kernel, by decide +kernel⟩
theorem ok_pickL {f fT : Addr} {fd fdT : FuncData} (F : Fun K "_law_pick" "_law_pick" s_pick f fd) (T : FnOk P w K mg base CX0 2 fT fdT ["draw", "size"] spTake) (kT : PySem.W.keepIn K (.ref fT) = true) (bT : Binds K fdT ["draw", "size"] []) (gT : mg "_law_take" = some (.ref fT)) (mLen : mg "len" = none) :
    FnOk P w K mg base CX0 3 f fd ["draw", "some"] (spPickL K) := by
  refine F.ok sc_pick (fun vs H Q E h => ?_) (fun cdv A outer s H vs Q E hr h => ?_)
  · obtain ⟨d, g, c, a, xs, rfl, _⟩ := h
    rfl
  · obtain ⟨d, g, c, a, xs, rfl, D, hS, h0, h1, k⟩ := h
    refine ⟨_, pss_one (ps_ret (pe_ix ix_list (pv 1) (pe_call T hr rfl gT kT bT .nil pass0 (pa_cons (pv 0) (pa_cons (pe_callB call_len (by rfl) mLen PySem.boot_len (pa_cons (pv 1) pa_nil)) pa_nil))) (fun _ _ => rfl))), ?_⟩
    refine ⟨.ref a, rfl, .ref d, rfl, .ref a, rfl, .ref a, xs.length, rfl, .inl ⟨xs, Evl.ex_l (ex_off d g H) hS, rfl⟩, ?_⟩
    refine ⟨d, g, c, (xs.length : Int), rfl, by omega, by omega, D, fun i H1 i0 i1 D1 e1 => ?_⟩
    have hi : i.toNat < xs.length := by omega
    have ei : xs[i.toNat]? = some xs[i.toNat] := List.getElem?_eq_getElem hi
    refine ⟨a, xs, i, xs[i.toNat], rfl, rfl, Evl.ex_l ((e1).trans (ex_off d g H1)) hS, ?_, k i.toNat _ H1 ei D1 e1⟩
    have z := atI_nat ei
    rw [show ((i.toNat : Nat) : Int) = i by omega] at z
    exact z
theorem ok_pickS {f fT : Addr} {fd fdT : FuncData} (F : Fun K "_law_pick" "_law_pick" s_pick f fd) (T : FnOk P w K mg base CX0 2 fT fdT ["draw", "size"] spTake) (kT : PySem.W.keepIn K (.ref fT) = true) (bT : Binds K fdT ["draw", "size"] []) (gT : mg "_law_take" = some (.ref fT)) (mLen : mg "len" = none) :
    FnOk P w K mg base CX0 3 f fd ["draw", "some"] spPickS := by
  refine F.ok sc_pick (fun vs H Q E h => ?_) (fun cdv A outer s H vs Q E hr h => ?_)
  · obtain ⟨d, g, c, z, rfl, _⟩ := h
    rfl
  · obtain ⟨d, g, c, z, rfl, D, h0, h1, k⟩ := h
    refine ⟨_, pss_one (ps_ret (pe_ix ix_str (pv 1) (pe_call T hr rfl gT kT bT .nil pass0 (pa_cons (pv 0) (pa_cons (pe_callB call_len (by rfl) mLen PySem.boot_len (pa_cons (pv 1) pa_nil)) pa_nil))) (fun _ _ => rfl))), ?_⟩
    refine ⟨.str z, rfl, .ref d, rfl, .str z, rfl, .str z, z.length, rfl, ⟨Nat.le_of_lt (small1000 h1), rfl⟩, ?_⟩
    refine ⟨d, g, c, (z.length : Int), rfl, by omega, by omega, D, fun i H1 i0 i1 D1 e1 => ?_⟩
    have hz : z.length = z.cps.toList.length := rfl
    have hi : i.toNat < z.cps.toList.length := by omega
    have ei : z.cps.toList[i.toNat]? = some z.cps.toList[i.toNat] := List.getElem?_eq_getElem hi
    refine ⟨z, i, z.cps.toList[i.toNat], rfl, rfl, Nat.le_of_lt (small1000 h1), ?_, k i.toNat _ H1 ei D1 e1⟩
    have y := atI_nat ei
    rw [show ((i.toNat : Nat) : Int) = i by omega] at y
    exact y
end
end Rw
end T_D1

section T_B2
set_option Elab.async false
set_option linter.all false
set_option maxRecDepth 100000
set_option maxHeartbeats 4000000
namespace Rw
open PySem L2 PyProof.Rows
section
variable {P : Program} {w : World} {K : PySem.W.Frag} {mg : Str → Option Value} {base : Heap}
theorem sc_mixed : FnScope ["draw", "some", "left", "found"] ["draw", "some"] (defScope s_mixed) := ⟨rfl, rfl, rfl, by decide +kernel, rfl, by decide +kernel, by decide +kernel⟩
theorem ok_mixed {f fT : Addr} {fd fdT : FuncData} (F : Fun K "_law_mixed" "_law_mixed" s_mixed f fd) (T : FnOk P w K mg base CX0 2 fT fdT ["draw", "size"] spTake) (kT : PySem.W.keepIn K (.ref fT) = true) (bT : Binds K fdT ["draw", "size"] []) (gT : mg "_law_take" = some (.ref fT)) (mLen : mg "len" = none) (mList : mg "list" = none) :
    FnOk P w K mg base CX0 3 f fd ["draw", "some"] (spMixed K) := by
  refine F.ok sc_mixed (fun vs H Q E h => ?_) (fun cdv A outer s H vs Q E hr h => ?_)
  · obtain ⟨d, g, c, a, xs, rfl, _⟩ := h
    rfl
  · obtain ⟨d, g, c, a, xs, rfl, D, hS, hl, hdat, k⟩ := h
    have nd := sc_mixed.nd
    refine ⟨_, pss_cons (ps_par (i := 2) (j := 3) (by rfl) nd rfl rfl (by decide) rfl rfl (pa_cons (pe_callTy call_list_of (by rfl) mList (by decide +kernel) (pa_cons (pv 1) pa_nil)) (pa_cons (pe_lst pa_nil) pa_nil)) (by rfl))
      (pss_cons (ps_while PassesOwn.never (pt_cmpR (op_neD hr.units) (pv 2) (pe_lst pa_nil) (nomark _))
        (pss_one (ps_expr (pe_bm PySem.F.plainAttrs_list PySem.F.slot_list_append PySem.F.type_list_append mt_append (pv 3)
          (pa_cons (pe_bm PySem.F.plainAttrs_list PySem.F.slot_list_pop PySem.F.type_list_pop mt_popAt (pv 2) (pa_cons (pe_call T hr rfl gT kT bT .nil pass0 (pa_cons (pv 0) (pa_cons (pe_callB call_len (by rfl) mLen PySem.boot_len (pa_cons (pv 2) pa_nil)) pa_nil))) pa_nil)) pa_nil)))))
      (pss_one (ps_ret (pv 3)))), ?_⟩
    -- left, found = (list(some), [])
    refine ⟨.ref a, rfl, a, xs, rfl, hS.elim (fun z => .inl (Evl.ex_l (ex_off d g H) z)) (fun z => .inr (Evl.ex_t (ex_off d g H) z)), fun l hl0 => ⟨Nat.zero_le _, fun f hf => ⟨_, _, rfl, ?_⟩⟩⟩
    have hlf : f ≠ l := fun z => by rw [z, upd_same] at hf; cases hf
    have hf0 : H f = none := by rw [upd_ne hlf] at hf; exact hf
    have nl := D.ned hl0
    have nf := D.ned hf0
    have perm_erase : ∀ (ls : List V) (i : Nat) (v : V), ls[i]? = some v → (v :: ls.eraseIdx i).Perm ls := fun ls => by
      induction ls with
      | nil => intro i v h; simp at h
      | cons x r ih =>
        intro i v h
        cases i with
        | zero => simp at h; subst h; exact List.Perm.refl _
        | succ n =>
          have h' : r[n]? = some v := by simpa using h
          exact (List.Perm.swap x v _).trans ((ih n v h').cons x)
    refine while_by (fun σ H' => σ = [some (.ref d), some (.ref a), some (.ref l), some (.ref f)] ∧ ∃ ls fs : List V, H' l = some (.lst ls) ∧ H' f = some (.lst fs) ∧ (fs ++ ls).Perm xs ∧ DrawAt H' d g c ∧ Evl.Ex (off d g H) (off d g H'))
      (fun _ H' => match H' l with | some (.lst ls) => ls.length | _ => 0) ⟨rfl, xs, [], by rw [upd_ne hlf.symm]; exact upd_same, upd_same, List.Perm.refl _, (D.new hl0).new hf, (off_ex (Evl.Ex.new hl0)).trans (off_ex (Evl.Ex.new hf))⟩ ?_ ?_
    · rintro σ H1 ⟨rfl, ls, fs, el, ef, hp, D1, x1⟩
      have hlen : fs.length + ls.length = xs.length := by rw [← List.length_append]; exact hp.length_eq
      have hdl : ∀ v ∈ ls, DataV K H1 v := fun v hv => (hdat v (hp.subset (List.mem_append_right _ hv))).ex (x1.trans (ex_off d g H1))
      refine ⟨.ref l, rfl, Nat.zero_le _, fun p hp0 => ?_⟩
      have x2 : Evl.Ex H1 (upd H1 p (.lst [])) := Evl.Ex.new hp0
      have el2 : (upd H1 p (.lst [])) l = some (.lst ls) := x2 _ _ el
      have ef2 : (upd H1 p (.lst [])) f = some (.lst fs) := x2 _ _ ef
      have D2 : DrawAt (upd H1 p (.lst [])) d g c := D1.ext x2
      have x3 : Evl.Ex (off d g H) (off d g (upd H1 p (.lst []))) := x1.trans (off_ex x2)
      obtain ⟨dd, g1, g2, g3⟩ := data_list (Evl.sq_of el2) fun v hv => (hdl v hv).ex x2
      refine ⟨dd, .list [], g1, .lst (Evl.sq_of upd_same) .nil, g2, by rfl, _, rfl, ?_⟩
      rw [g3]
      generalize upd H1 p (.lst []) = H2 at el2 ef2 D2 x3
      cases ls with
      | nil =>
        have hp' : fs.Perm xs := by rw [List.append_nil] at hp; exact hp
        exact ⟨.ref f, rfl, k f fs H2 hp' D2 x3 hf0 (off_of ef2 nf.1 nf.2.1)⟩
      | cons y r =>
        refine iteT ?_
        refine ⟨.ref f, rfl, .inl ⟨rfl, _, Evl.sq_of ef2⟩, .ref l, rfl, .inl ⟨rfl, _, Evl.sq_of el2⟩, .ref d, rfl, .ref l, rfl, .ref l, (y :: r).length, rfl, .inl ⟨_, Evl.sq_of el2, rfl⟩, ?_⟩
        refine ⟨d, g, c, ((y :: r).length : Int), rfl, by simp, by omega, D2, fun j H3 j0 j1 D3 x4 => ?_⟩
        have el3 : H3 l = some (.lst (y :: r)) := (ex_off d g H3) _ _ (x4 _ _ (off_of el2 nl.1 nl.2.1))
        have ef3 : H3 f = some (.lst fs) := (ex_off d g H3) _ _ (x4 _ _ (off_of ef2 nf.1 nf.2.1))
        have hj : j.toNat < (y :: r).length := by omega
        have ej : (y :: r)[j.toNat]? = some (y :: r)[j.toNat] := List.getElem?_eq_getElem hj
        refine ⟨l, y :: r, j, j.toNat, (y :: r)[j.toNat], rfl, rfl, el3, by omega, by omega, ?_, ej, ?_⟩
        · unfold seqIndex?
          rw [if_neg (by omega : ¬ j < 0)]
          have hb : (decide (0 ≤ j) && decide (j < ((y :: r).length : Nat))) = true := by
            rw [decide_eq_true j0, decide_eq_true (by omega)]
            rfl
          show (if (decide (0 ≤ j) && decide (j < ((y :: r).length : Nat))) = true then some j.toNat else none) = some j.toNat
          rw [if_pos hb]
        · have ef4 : (upd H3 l (.lst ((y :: r).eraseIdx j.toNat))) f = some (.lst fs) := by rw [upd_ne hlf]; exact ef3
          refine ⟨f, fs, (y :: r)[j.toNat], rfl, rfl, ef4, small1000 (by omega), ?_⟩
          refine ⟨⟨rfl, (y :: r).eraseIdx j.toNat, fs ++ [(y :: r)[j.toNat]], by rw [upd_ne hlf.symm]; exact upd_same, upd_same, ?_, ?_, ?_⟩, ?_⟩
          · rw [List.append_assoc]
            exact ((perm_erase (y :: r) j.toNat _ ej).append_left fs).trans hp
          · exact (D3.mut nl.1 nl.2.1 nl.2.2).mut nf.1 nf.2.1 nf.2.2
          · have x5 : Evl.Ex (off d g H) (off d g H3) := x3.trans x4
            exact off_mut (off_mut x5 (off_free hl0)) (off_free hf0)
          · show (match (upd (upd H3 l (.lst ((y :: r).eraseIdx j.toNat))) f (.lst (fs ++ [(y :: r)[j.toNat]]))) l with | some (.lst ls) => ls.length | _ => 0) < (match H1 l with | some (.lst ls) => ls.length | _ => 0)
            rw [upd_ne hlf.symm, upd_same, el]
            show ((y :: r).eraseIdx j.toNat).length < (y :: r).length
            rw [List.length_eraseIdx, if_pos hj]
            simp
    · intro σ H1 Q1 Q2 hq h
      obtain ⟨v, hv, hz, hk⟩ := h
      refine ⟨v, hv, hz, fun p hp => ?_⟩
      obtain ⟨d1, e1, a1, a2, a3, a4, k1, ek, q⟩ := hk p hp
      exact ⟨d1, e1, a1, a2, a3, a4, k1, ek, hq _ _ q⟩
end
end Rw
end T_B2

section T_M0
set_option Elab.async false
set_option linter.all false
set_option maxRecDepth 100000
set_option maxHeartbeats 1000000
namespace Rw
open PySem L2 PyProof.Rows
/-! ### names as lists of code points -/
def Nm (z : Str) : Prop := ∃ l : List Nat, z = SX.S l ∧ 1 ≤ l.length ∧ l.length ≤ 6 ∧ ∀ x ∈ l, 97 ≤ x ∧ x ≤ 122
theorem nm_len {z : Str} (h : Nm z) : z.length ≤ 6 := by
  obtain ⟨l, rfl, _, h2, _⟩ := h
  rw [SX.S_len]
  exact h2
theorem nm_ok {z : Str} (h : Nm z) : PyData.strOk z = true := by
  obtain ⟨l, rfl, _, _, h3⟩ := h
  show (l.toArray.all (· < 0x110000)) = true
  rw [List.all_toArray, List.all_eq_true]
  intro x hx
  have := h3 x hx
  exact decide_eq_true (by omega)
theorem nm_data {K : PySem.W.Frag} {H : Hp} {z : Str} (h : Nm z) : DataV K H (.str z) := strV_data (nm_ok h)
theorem inV_str (z : Str) : ∀ zs : List Str, inV (.str z) (zs.map V.str) = decide (z ∈ zs)
  | [] => rfl
  | y :: r => by
    show ((y == z) || inV (.str z) (r.map V.str)) = decide (z ∈ y :: r)
    rw [inV_str z r]
    by_cases e : y = z
    · subst e
      rw [beq_self_eq_true, decide_eq_true (List.mem_cons_self)]
      rfl
    · have e1 : (y == z) = false := beq_eq_false_iff_ne.mpr e
      rw [e1]
      by_cases m : z ∈ r
      · rw [decide_eq_true m, decide_eq_true (List.mem_cons_of_mem _ m)]
        rfl
      · rw [decide_eq_false m, decide_eq_false (fun h => (List.mem_cons.mp h).elim (fun q => e q.symm) m)]
        rfl
theorem flat_strs : ∀ zs : List Str, (zs.map V.str).all flatV = true
  | [] => rfl
  | _ :: r => by
    show (true && (r.map V.str).all flatV) = true
    rw [flat_strs r]
    rfl
theorem join_signs : ∀ cs : List Nat, Txt.join Str.empty (cs.map fun x => SX.S [x]) = SX.S cs := fun cs => by
  rw [show Txt.join Str.empty (cs.map fun x => SX.S [x]) = Str.join Str.empty (cs.map fun x => SX.S [x]) from StrLaws.glued_eq_join _ _]
  induction cs with
  | nil => rfl
  | cons x r ih =>
    show Str.join ⟨#[]⟩ (SX.S [x] :: r.map fun x => SX.S [x]) = SX.S (x :: r)
    rw [PyProof.Rows.join_nil_cons]
    show SX.S [x] ++ Str.join Str.empty (r.map fun x => SX.S [x]) = SX.S (x :: r)
    rw [ih, SX.S_cat]
    rfl
theorem cut5 (l : List Nat) : cutS (SX.S l) none (some 5) = SX.S (l.take 5) := by
  unfold cutS
  rw [show HT.sIx (SX.S l).length 0 none = 0 from rfl, show HT.sIx (SX.S l).length (SX.S l).length (some 5) = min 5 (SX.S l).length from HT.sIx_nat _ _ 5, SX.S_len]
  show SX.S ((l.drop 0).take (min 5 l.length - 0)) = SX.S (l.take 5)
  rw [List.drop_zero, Nat.sub_zero]
  congr 1
  by_cases h : 5 ≤ l.length
  · rw [Nat.min_eq_left h]
  · rw [Nat.min_eq_right (by omega), List.take_length, List.take_of_length_le (by omega)]
/-- as many different things as ys holds -/
theorem nodup_le {α : Type} [DecidableEq α] : ∀ (xs ys : List α), xs.Nodup → (∀ x ∈ xs, x ∈ ys) → xs.length ≤ ys.length
  | [], _, _, _ => Nat.zero_le _
  | x :: r, ys, h, hs => by
    have h1 : x ∈ ys := hs x List.mem_cons_self
    have h2 := nodup_le r (ys.erase x) (List.nodup_cons.mp h).2 fun y hy => by
      have ne : y ≠ x := fun e => (List.nodup_cons.mp h).1 (e ▸ hy)
      exact (List.mem_erase_of_ne ne).mpr (hs y (List.mem_cons_of_mem _ hy))
    rw [List.length_erase_of_mem h1] at h2
    have h3 : 0 < ys.length := List.length_pos_of_mem h1
    rw [List.length_cons]
    omega
/-- the names near a name: it, and each letter behind its first five -/
def near (l : List Nat) : List Str := SX.S l :: (List.range 26).map fun k => SX.S (l.take 5 ++ [97 + k])
theorem near_nm {l : List Nat} (h1 : 1 ≤ l.length) (h2 : l.length ≤ 6) (h3 : ∀ x ∈ l, 97 ≤ x ∧ x ≤ 122) : ∀ z ∈ near l, Nm z := fun z hz => by
  rcases List.mem_cons.mp hz with rfl | hz
  · exact ⟨l, rfl, h1, h2, h3⟩
  · obtain ⟨k, hk, rfl⟩ := List.mem_map.mp hz
    have hk' := List.mem_range.mp hk
    refine ⟨l.take 5 ++ [97 + k], rfl, by simp, by simp; omega, fun x hx => ?_⟩
    rcases List.mem_append.mp hx with hx | hx
    · exact h3 x (List.mem_of_mem_take hx)
    · rw [List.mem_singleton.mp hx]
      omega
theorem near_nodup (l : List Nat) : ((List.range 26).map fun k => SX.S (l.take 5 ++ [97 + k])).Nodup := by
  refine List.Pairwise.map _ (R := fun a b : Nat => a ≠ b) (fun a b ne e => ?_) List.nodup_range
  have e1 := SX.S_inj e
  have e2 : [97 + a] = [97 + b] := List.append_cancel_left e1
  have e3 : 97 + a = 97 + b := by simpa using e2
  omega
theorem near_some (l : List Nat) (zs : List Str) (h : zs.length < 26) : ∃ z r, (near l).filter (fun z => decide (z ∉ zs)) = z :: r := by
  cases e : (near l).filter (fun z => decide (z ∉ zs)) with
  | cons z r => exact ⟨z, r, rfl⟩
  | nil =>
    exfalso
    have hall : ∀ z ∈ near l, z ∈ zs := fun z hz => by
      by_cases m : z ∈ zs
      · exact m
      · have : z ∈ (near l).filter (fun z => decide (z ∉ zs)) := List.mem_filter.mpr ⟨hz, decide_eq_true m⟩
        rw [e] at this
        cases this
    have h2 := nodup_le _ zs (near_nodup l) fun z hz => hall z (List.mem_cons_of_mem _ hz)
    simp at h2
    omega
theorem nm_by {z : Str} (h : decide (1 ≤ z.cps.toList.length ∧ z.cps.toList.length ≤ 6 ∧ ∀ x ∈ z.cps.toList, 97 ≤ x ∧ x ≤ 122) = true) : Nm z := by
  obtain ⟨h1, h2, h3⟩ := of_decide_eq_true h
  exact ⟨z.cps.toList, (SX.S_tl z).symm, h1, h2, h3⟩
def z26 : Str := "abcdefghijklmnopqrstuvwxyz"
theorem z26_eq : z26.cps.toList = (List.range 26).map fun k => 97 + k := by decide +kernel
def words10 : List Str := ["a", "b", "goal", "home", "lost", "rings", "posts", "done", "way", "zzzzzz"]
theorem words10_nm : ∀ z ∈ words10, Nm z := fun z hz => by
  have h : ∀ z ∈ words10, decide (1 ≤ z.cps.toList.length ∧ z.cps.toList.length ≤ 6 ∧ ∀ x ∈ z.cps.toList, 97 ≤ x ∧ x ≤ 122) = true := by decide +kernel
  exact nm_by (h z hz)
/-- while names are made: those made at f, the ten words at sm -/
structure StW (H H' : Hp) (d g c f sm : Addr) (zs : List Str) : Prop where
  hf : H' f = some (.lst (zs.map V.str))
  hs : off d g H' sm = some (.lst (words10.map V.str))
  dr : DrawAt H' d g c
  ex : Evl.Ex (off d g H) (off d g H')
  n1 : f ≠ d
  n2 : f ≠ g
  n3 : f ≠ sm
theorem StW.call {H H1 H2 : Hp} {d g c f sm : Addr} {zs : List Str} (h : StW H H1 d g c f sm zs) (D : DrawAt H2 d g c) (e : Evl.Ex (off d g H1) (off d g H2)) : StW H H2 d g c f sm zs :=
  ⟨ex_off d g H2 _ _ (e _ _ (off_of h.hf h.n1 h.n2)), e _ _ h.hs, D, h.ex.trans e, h.n1, h.n2, h.n3⟩
theorem StW.new {H H1 : Hp} {d g c f sm p : Addr} {o : HO} {zs : List Str} (h : StW H H1 d g c f sm zs) (hp : H1 p = none) : StW H (upd H1 p o) d g c f sm zs :=
  h.call (h.dr.new hp) (off_ex (Evl.Ex.new hp))
theorem StW.mut {H H1 : Hp} {d g c f sm p : Addr} {o : HO} {zs : List Str} (h : StW H H1 d g c f sm zs) (h0 : H p = none) (nf : p ≠ f) (ns : p ≠ sm) (nd : p ≠ d) (ng : p ≠ g) (nc : p ≠ c) : StW H (upd H1 p o) d g c f sm zs := by
  have hs := off_some h.hs
  exact ⟨by rw [upd_ne nf.symm]; exact h.hf, off_of (by rw [upd_ne ns.symm]; exact hs.2.2) hs.1 hs.2.1, h.dr.mut nd ng nc, off_mut h.ex (off_free h0), h.n1, h.n2, h.n3⟩
theorem StW.free {H H1 : Hp} {d g c f sm p : Addr} {zs : List Str} (h : StW H H1 d g c f sm zs) (hp : H1 p = none) : H p = none ∧ p ≠ f ∧ p ≠ sm ∧ p ≠ d ∧ p ≠ g ∧ p ≠ c := by
  obtain ⟨a1, a2, a3⟩ := h.dr.ned hp
  refine ⟨?_, (ne_of_none h.hf hp).symm, (ne_of_none (off_some h.hs).2.2 hp).symm, a1, a2, a3⟩
  cases e : H p with
  | none => rfl
  | some o =>
    have z := ex_off d g H1 _ _ (h.ex _ _ (off_of e a1 a2))
    rw [hp] at z
    cases z
/-- some names, all different -/
def spWords (K : PySem.W.Frag) : Sp := fun vs H Q _ => ∃ (d g c : Addr) (n : Nat), vs = [.ref d, .int (n : Int)] ∧ DrawAt H d g c ∧ n ≤ 20 ∧
  ∀ (p : Addr) (zs : List Str) (H' : Hp), zs.length = n → zs.Nodup → (∀ z ∈ zs, Nm z) → DrawAt H' d g c → Evl.Ex (off d g H) (off d g H') → H p = none → off d g H' p = some (.lst (zs.map V.str)) → Q (.ref p) H'
end Rw
end T_M0

section T_M1
set_option Elab.async false
set_option linter.all false
set_option maxRecDepth 100000
set_option maxHeartbeats 1000000
namespace Rw
open PySem L2 PyProof.Rows
/-! ### tables: from names to places -/
def tkv (tb : List (Str × V)) : List (Key × V) := tb.map fun q => (Sum.inr q.1, q.2)
/-- a place of z for the goal e -/
def PlaceOk (zs : List Str) (e z : Str) (v : V) : Prop := v = .non ∨ v = .str e ∨ ∃ y ∈ zs, y ≠ z ∧ v = .str y
structure TabOk (zs : List Str) (e : Str) (tb : List (Str × V)) : Prop where
  ks : (tb.map (·.1)).Perm zs
  ps : ∀ q ∈ tb, PlaceOk zs e q.1 q.2
theorem tkv_none {tb : List (Str × V)} {z : Str} (h : z ∉ tb.map (·.1)) : valV (tkv tb) (Sum.inr z) = none := by
  induction tb with
  | nil => rfl
  | cons q r ih =>
    have h1 : q.1 ≠ z := fun e => h (by rw [← e]; exact List.mem_cons_self)
    show valV ((Sum.inr q.1, q.2) :: tkv r) (Sum.inr z) = none
    rw [valV_neg (fun e => h1 (Sum.inr.inj e))]
    exact ih fun hr => h (List.mem_cons_of_mem _ hr)
theorem tkv_some {tb : List (Str × V)} {z : Str} (h : z ∈ tb.map (·.1)) : ∃ v, valV (tkv tb) (Sum.inr z) = some v ∧ (z, v) ∈ tb := by
  induction tb with
  | nil => cases h
  | cons q r ih =>
    by_cases e : q.1 = z
    · refine ⟨q.2, ?_, ?_⟩
      · exact valV_pos (p := (Sum.inr q.1, q.2)) (by rw [e])
      · rw [← e]; exact List.mem_cons_self
    · rcases List.mem_cons.mp h with h | h
      · exact absurd h.symm e
      · obtain ⟨v, h1, h2⟩ := ih h
        refine ⟨v, ?_, List.mem_cons_of_mem _ h2⟩
        show valV ((Sum.inr q.1, q.2) :: tkv r) (Sum.inr z) = some v
        rw [valV_neg (fun x => e (Sum.inr.inj x))]
        exact h1
theorem tkv_new {tb : List (Str × V)} {z : Str} {v : V} (h : z ∉ tb.map (·.1)) : putK (tkv tb) (Sum.inr z) v = tkv (tb ++ [(z, v)]) := by
  rw [putK_new _ (tkv_none h)]
  unfold tkv
  rw [List.map_append]
  rfl
theorem tkv_len (tb : List (Str × V)) : (tkv tb).length = tb.length := by unfold tkv; rw [List.length_map]
theorem str_at {ws : List Str} {i : Nat} {y : V} (h : (ws.map V.str)[i]? = some y) : ∃ z, ws[i]? = some z ∧ y = V.str z := by
  rw [List.getElem?_map] at h
  cases e : ws[i]? with
  | none => rw [e] at h; cases h
  | some z => rw [e] at h; exact ⟨z, rfl, (Option.some.inj h).symm⟩
theorem strs_of : ∀ l : List V, (∀ y ∈ l, ∃ z : Str, y = V.str z) → ∃ ws : List Str, l = ws.map V.str
  | [], _ => ⟨[], rfl⟩
  | y :: r, h => by
    obtain ⟨z, rfl⟩ := h y List.mem_cons_self
    obtain ⟨ws, rfl⟩ := strs_of r fun u hu => h u (List.mem_cons_of_mem _ hu)
    exact ⟨z :: ws, rfl⟩
theorem perm_strs {ys : List V} {zs : List Str} (h : ys.Perm (zs.map V.str)) : ∃ ws : List Str, ys = ws.map V.str ∧ ws.Perm zs := by
  obtain ⟨ws, rfl⟩ := strs_of ys fun y hy => by
    obtain ⟨z, _, e⟩ := List.mem_map.mp (h.subset hy)
    exact ⟨z, e.symm⟩
  refine ⟨ws, rfl, ?_⟩
  have := h.map fun v : V => match v with | .str z => z | _ => Str.empty
  rw [List.map_map, List.map_map] at this
  have i1 : ((fun v : V => match v with | .str z => z | _ => Str.empty) ∘ V.str) = id := rfl
  rw [i1, List.map_id, List.map_id] at this
  exact this
theorem merge_app : ∀ (tb acc : List (Str × V)), ((acc ++ tb).map (·.1)).Nodup → mergeK (tkv acc) (tkv tb) = tkv (acc ++ tb)
  | [], acc, _ => by rw [List.append_nil]; rfl
  | q :: r, acc, h => by
    have h1 : q.1 ∉ acc.map (·.1) := fun hm => by
      rw [List.map_append] at h
      exact (List.nodup_append.mp h).2.2 q.1 hm q.1 List.mem_cons_self rfl
    show mergeK (putK (tkv acc) (Sum.inr q.1) q.2) (tkv r) = tkv (acc ++ q :: r)
    rw [tkv_new h1, merge_app r (acc ++ [(q.1, q.2)]) (by simpa using h)]
    simp
theorem merge_tkv {tb : List (Str × V)} (h : (tb.map (·.1)).Nodup) : mergeK [] (tkv tb) = tkv tb := merge_app tb [] h
theorem cut_last (xs : List V) : cutV xs none (some (-1)) = xs.dropLast := by
  unfold cutV
  rw [show HT.sIx xs.length 0 none = 0 from rfl]
  have e : HT.sIx xs.length xs.length (some (-1)) = xs.length - 1 := by
    unfold HT.sIx
    simp
    omega
  rw [e, List.drop_zero, Nat.sub_zero, List.dropLast_eq_take]
theorem tkv_old {tb : List (Str × V)} {z : Str} {v : V} (h : z ∈ tb.map (·.1)) : putK (tkv tb) (Sum.inr z) v = tkv (tb.map fun q => if q.1 = z then (q.1, v) else q) := by
  unfold putK
  obtain ⟨u, hu, _⟩ := tkv_some h
  rw [valV_any, hu]
  rw [if_pos (show (some u).isSome = true from rfl)]
  unfold tkv
  rw [List.map_map, List.map_map]
  refine List.map_congr_left fun q _ => ?_
  show (if (Sum.inr q.1 : Key) = Sum.inr z then ((Sum.inr q.1 : Key), v) else (Sum.inr q.1, q.2)) = (Sum.inr (if q.1 = z then (q.1, v) else q).1, (if q.1 = z then (q.1, v) else q).2)
  by_cases e : q.1 = z
  · rw [if_pos e, if_pos (congrArg Sum.inr e)]
  · rw [if_neg e, if_neg fun w => e (Sum.inr.inj w)]
theorem TabOk.put {zs : List Str} {e z : Str} {tb : List (Str × V)} {v : V} (h : TabOk zs e tb) (hv : PlaceOk zs e z v) : TabOk zs e (tb.map fun q => if q.1 = z then (q.1, v) else q) := by
  refine ⟨?_, ?_⟩
  · have e1 : (tb.map fun q => if q.1 = z then (q.1, v) else q).map (·.1) = tb.map (·.1) := by
      rw [List.map_map]
      refine List.map_congr_left fun q _ => ?_
      show (if q.1 = z then (q.1, v) else q).1 = q.1
      by_cases e : q.1 = z
      · rw [if_pos e]
      · rw [if_neg e]
    rw [e1]
    exact h.ks
  · intro q hq
    obtain ⟨r, hr, rfl⟩ := List.mem_map.mp hq
    by_cases e : r.1 = z
    · rw [if_pos e]
      show PlaceOk zs _ r.1 v
      rw [e]
      exact hv
    · rw [if_neg e]
      exact h.ps r hr
/-- a row of names, each of which leads to the next one, the last one to e -/
def pathTab (ws : List Str) (e : Str) : List (Str × V) := ws.zip ((ws ++ [e]).tail.map V.str)
theorem pathTab_get {ws : List Str} {e x : Str} {i : Nat} (h : ws[i]? = some x) : ∃ y, (ws ++ [e])[i + 1]? = some y ∧ (pathTab ws e)[i]? = some (x, .str y) := by
  have hi : i < ws.length := (List.getElem?_eq_some_iff.mp h).1
  have h1 : i + 1 < (ws ++ [e]).length := by simp; omega
  refine ⟨(ws ++ [e])[i + 1], List.getElem?_eq_getElem h1, ?_⟩
  unfold pathTab
  rw [List.getElem?_zip_eq_some]
  refine ⟨h, ?_⟩
  rw [List.getElem?_map, List.getElem?_tail, List.getElem?_eq_getElem h1]
  rfl
theorem pathTab_keys (ws : List Str) (e : Str) : (pathTab ws e).map (·.1) = ws := by
  unfold pathTab
  exact List.map_fst_zip (by simp)
theorem pathTab_ok {ws zs : List Str} {e : Str} (hw : ws.Perm zs) (hnd : zs.Nodup) : TabOk zs e (pathTab ws e) := by
  refine ⟨by rw [pathTab_keys]; exact hw, ?_⟩
  rintro ⟨x, v⟩ hq
  obtain ⟨i, hi, hi'⟩ := List.getElem_of_mem hq
  have hx : ws[i]? = some x := by
    have := congrArg (fun l => l[i]?) (pathTab_keys ws e)
    simp only [List.getElem?_map, List.getElem?_eq_getElem hi, hi', Option.map_some] at this
    exact this.symm
  obtain ⟨y, h1, h2⟩ := pathTab_get (e := e) hx
  rw [List.getElem?_eq_getElem hi, hi'] at h2
  have hv : v = .str y := congrArg Prod.snd (Option.some.inj h2)
  show PlaceOk zs e x v
  subst hv
  have wnd : ws.Nodup := hw.nodup_iff.mpr hnd
  by_cases hl : i + 1 < ws.length
  · rw [List.getElem?_append_left hl] at h1
    refine .inr (.inr ⟨y, hw.subset (List.mem_of_getElem? h1), fun q => ?_, rfl⟩)
    subst q
    have := (List.getElem?_inj (i := i + 1) (j := i) hl wnd).mp (h1.trans hx.symm)
    omega
  · have hi2 : i < ws.length := (List.getElem?_eq_some_iff.mp hx).1
    rw [List.getElem?_append_right (by omega), show i + 1 - ws.length = 0 by omega] at h1
    exact .inr (.inl (congrArg V.str (Option.some.inj h1).symm))
/-- a new table of the names at a list, for a goal -/
def spTab (K : PySem.W.Frag) : Sp := fun vs H Q _ => ∃ (d g c a : Addr) (zs : List Str) (e : Str), vs = [.ref d, .ref a, .str e] ∧ DrawAt H d g c ∧ SqL K (off d g H) a (zs.map V.str) ∧ zs.Nodup ∧ (∀ z ∈ zs, Nm z) ∧ Nm e ∧ e ∉ zs ∧ zs.length ≤ 10 ∧
  ∀ (p : Addr) (tb : List (Str × V)) (H' : Hp), TabOk zs e tb → DrawAt H' d g c → Evl.Ex (off d g H) (off d g H') → H p = none → off d g H' p = some (.dK (tkv tb)) → Q (.ref p) H'
/-- a table that is like another one -/
def spNear (K : PySem.W.Frag) : Sp := fun vs H Q _ => ∃ (d g c t : Addr) (zs : List Str) (e : Str) (tb : List (Str × V)), vs = [.ref d, .ref t, .str e] ∧ DrawAt H d g c ∧ off d g H t = some (.dK (tkv tb)) ∧ TabOk zs e tb ∧ zs.Nodup ∧ 0 < zs.length ∧ zs.length ≤ 10 ∧
  ∀ (p : Addr) (tb' : List (Str × V)) (H' : Hp), TabOk zs e tb' → DrawAt H' d g c → Evl.Ex (off d g H) (off d g H') → H p = none → off d g H' p = some (.dK (tkv tb')) → Q (.ref p) H'
end Rw
end T_M1

section T_BA
set_option Elab.async false
set_option linter.all false
set_option maxRecDepth 100000
set_option maxHeartbeats 4000000
namespace Rw
open PySem L2 PyProof.Rows
/-! ### the tables of the second stage's laws -/
theorem cutV_mem {xs : List V} {lo hi : Option Int} {v : V} (h : v ∈ cutV xs lo hi) : v ∈ xs := by
  unfold cutV at h
  exact List.mem_of_mem_drop (List.mem_of_mem_take h)
theorem cutV_ahead {ws : List Str} {i : Nat} {z : Str} (nd : ws.Nodup) (hz : ws[i]? = some z) {lo : Option Int} {v : V} (h : v ∈ cutV (ws.map V.str) lo (some (i : Int))) : ∃ y ∈ ws, y ≠ z ∧ v = .str y := by
  obtain ⟨y, hy, rfl⟩ := List.mem_map.mp (cutV_mem h)
  refine ⟨y, hy, fun e => ?_, rfl⟩
  subst e
  unfold cutV at h
  rw [HT.sIx_nat] at h
  obtain ⟨j, hj, ej⟩ := List.getElem_of_mem h
  rw [List.length_take, List.length_drop] at hj
  rw [List.getElem_take, List.getElem_drop] at ej
  have hil := (List.getElem?_eq_some_iff.mp hz).1
  rw [List.getElem_map] at ej
  have e2 := V.str.inj ej
  have a1 : ws[HT.sIx (ws.map V.str).length 0 lo + j]? = some y := by rw [← e2]; exact List.getElem?_eq_getElem _
  have a2 := (List.getElem?_inj (by rw [List.length_map] at *; omega) nd).mp (a1.trans hz.symm)
  rw [List.length_map] at *
  omega
section
variable {P : Program} {w : World} {K : PySem.W.Frag} {mg : Str → Option Value} {base : Heap}
def spTableS (K : PySem.W.Frag) : Sp := fun vs H Q _ => ∃ (d g c a : Addr) (zs : List Str) (e way : Str), vs = [.ref d, .ref a, .str e, .str way] ∧ DrawAt H d g c ∧ SqL K (off d g H) a (zs.map V.str) ∧ zs.Nodup ∧ (∀ z ∈ zs, Nm z) ∧ Nm e ∧ e ∉ zs ∧ zs.length ≤ 10 ∧
  ∀ (p : Addr) (tb : List (Str × V)) (H' : Hp), TabOk zs e tb → DrawAt H' d g c → Evl.Ex (off d g H) (off d g H') → H p = none → off d g H' p = some (.dK (tkv tb)) → Q (.ref p) H'
abbrev nTable : List Str := ["draw", "nodes", "target", "way", "found", "line", "spot", "node", "other"]
theorem sc_table : FnScope nTable ["draw", "nodes", "target", "way"] (defScope s_table) := ⟨rfl, rfl, rfl, by decide +kernel, rfl, by decide +kernel, by decide +kernel⟩
theorem ok_table {f fM fP : Addr} {fd fdM fdP : FuncData} (F : Fun K "_law_table" "_law_table" s_table f fd)
    (M : FnOk P w K mg base CX0 3 fM fdM ["draw", "some"] (spMixed K)) (kM : PySem.W.keepIn K (.ref fM) = true) (bM : Binds K fdM ["draw", "some"] []) (gM : mg "_law_mixed" = some (.ref fM))
    (PL : FnOk P w K mg base CX0 3 fP fdP ["draw", "some"] (spPickL K)) (kP : PySem.W.keepIn K (.ref fP) = true) (bP : Binds K fdP ["draw", "some"] []) (gP : mg "_law_pick" = some (.ref fP)) (mEnum : mg "enumerate" = none) (mMax : mg "max" = none) :
    FnOk P w K mg base CX0 4 f fd ["draw", "nodes", "target", "way"] (spTableS K) := by
  refine F.ok sc_table (fun vs H Q E h => ?_) (fun cdv A outer s H vs Q E hr h => ?_)
  · obtain ⟨d, g, c, a, zs, e, way, rfl, _⟩ := h
    rfl
  · obtain ⟨d, g, c, a, zs, e, way, rfl, D, hS, hnd, hnm, he, hez, hzl, k⟩ := h
    have nd := sc_table.nd
    have hu := hu_of hr
    refine ⟨_, pss_cons (ps_par (i := 4) (j := 5) (by rfl) nd rfl rfl (by decide) rfl rfl (pa_cons pe_dnewK (pa_cons (pe_call M hr rfl gM kM bM .nil pass0 (pa_cons (pv 0) (pa_cons (pv 1) pa_nil))) pa_nil)) (by rfl))
      (pss_cons (ps_for PassesOwn.never rfl (pi_enum (by rfl) mEnum (pa_cons (pv 5) pa_nil)) (pg_tup rfl (pgs_cons (pg_name (i := 6) nd rfl (.inl rfl)) (pgs_cons (pg_name (i := 7) nd rfl (.inr rfl)) pgs_nil)))
        (pss_one (ps_if (pt_cmpR op_eq (pv 3) pe_str (nomark _))
          (pss_one (ps_dput hu (pv 4) (pv 7) (pe_call PL hr rfl gP kP bP .nil pass0 (pa_cons (pv 0) (pa_cons (pe_op op_cat (pe_op op_cat (pe_lst (pa_cons (pv 2) pa_nil)) (pe_slice sl_list (pv 5) po_none (po_some (pv 6))))
            (pe_op op_rep (pe_slice sl_list (pv 5) (po_some (pe_callB (call_max2 rfl) (by rfl) mMax (by decide +kernel) (pa_cons pe_int (pa_cons (pe_op op_sub (pv 6) pe_int) pa_nil)))) (po_some (pv 6))) pe_int)) pa_nil))) rfl))
          (pss_one (ps_if (pt_cmpR op_eq (pv 3) pe_str (nomark _))
            (pss_one (ps_dput hu (pv 4) (pv 7) (pe_ifExp (pt_cmpR op_gt (pv 6) pe_int (nomark _)) (pe_ix ix_list (pv 5) (pe_op op_sub (pv 6) pe_int) (fun _ _ => rfl)) (pv 2)) rfl))
            (pss_one (ps_dput hu (pv 4) (pv 7) (pe_call PL hr rfl gP kP bP .nil pass0 (pa_cons (pv 0) (pa_cons (pe_op op_cat (pe_lst (pa_cons (pv 2) (pa_cons (pv 2) (pa_cons pe_non pa_nil))))
              (pe_op op_rep (pe_lc (own := [("other", 8)]) (g := gName 8) (tt := tTest (tOp rNe (tVar 8) (tVar 7))) (te := tVar 8) rfl nd (pi_list (pv 1)) (blkOk_by (own := [("other", 8)]) (N := nTable) (sc := defScope s_table) (by decide +kernel))
                (fun _ _ _ _ _ => pg_name (i := 8) nd rfl (Or.inl rfl)) (fun _ _ _ _ _ => pts_one (pt_cmpR op_ne (pv 8) (pv 7) (nomark _))) (fun _ _ _ _ _ => pv 8)) pe_int)) pa_nil))) rfl)))))))
      (pss_one (ps_ret (pv 4)))), ?_⟩
    -- found, line = ({}, _law_mixed(draw, nodes))
    refine fun fd0 hfd => ?_
    have nfd := D.ned hfd
    have D1 : DrawAt (upd H fd0 (.dK [])) d g c := D.new hfd
    have x1 : Evl.Ex (off d g H) (off d g (upd H fd0 (.dK []))) := off_ex (Evl.Ex.new hfd)
    have e1 : off d g (upd H fd0 (.dK [])) fd0 = some (.dK (tkv [])) := off_of upd_same nfd.1 nfd.2.1
    generalize upd H fd0 (.dK []) = H1 at D1 x1 e1
    refine ⟨.ref d, rfl, .ref a, rfl, d, g, c, a, zs.map V.str, rfl, D1, .inl (Evl.ex_l x1 hS), by rw [List.length_map]; omega, fun v hv => ?_, fun lp ys H2 hperm D2 x2 hlp0 hlp => ?_⟩
    · obtain ⟨z, hz, rfl⟩ := List.mem_map.mp hv
      exact nm_data (hnm z hz)
    obtain ⟨ws, rfl, hws⟩ := perm_strs hperm
    have wnd : ws.Nodup := hws.nodup_iff.mpr hnd
    have wl : ws.length ≤ 10 := by rw [hws.length_eq]; exact hzl
    have x12 := x1.trans x2
    have e2 := x2 _ _ e1
    have lf : lp ≠ fd0 := ne_of hlp e2 (by intro z; cases z)
    refine ⟨_, _, rfl, ?_⟩
    -- for spot, node in enumerate(line)
    refine ⟨.ref lp, rfl, lp, _, rfl, Evl.sq_of (off_some hlp).2.2, for_it (walk_enum (K := K) (a := lp) (xs := ws.map V.str))
      (fun i σ H' => ∃ (x6 x7 : Option V) (tb : List (Str × V)), σ = [some (.ref d), some (.ref a), some (.str e), some (.str way), some (.ref fd0), some (.ref lp), x6, x7, none] ∧ tb.map (·.1) = ws.take i ∧ (∀ q ∈ tb, PlaceOk zs e q.1 q.2) ∧
        off d g H' fd0 = some (.dK (tkv tb)) ∧ DrawAt H' d g c ∧ Evl.Ex (off d g H) (off d g H') ∧ off d g H' lp = some (.lst (ws.map V.str)))
      ⟨none, none, [], rfl, rfl, (fun q hq => by cases hq), e2, D2, x12, hlp⟩ (fun i σ H' _ ⟨_, _, _, _, _, _, _, _, _, h⟩ => Evl.sq_of (off_some h).2.2) ?_ ?_⟩
    · rintro i x σ H4 H4' hi ⟨x6, x7, tb, rfl, hk, hps, f4, D4, x4, l4⟩ ⟨Tt, xk, xv, rfl, hTt, rfl, hxk, hxv⟩
      obtain rfl : xk = .int (i : Nat) := (Option.some.inj hxk).symm
      obtain ⟨z, hz, rfl⟩ := str_at hxv
      have hil : i < ws.length := (List.getElem?_eq_some_iff.mp hz).1
      have zz : z ∈ zs := hws.mem_iff.mp (List.mem_of_getElem? hz)
      have etake : ws.take (i + 1) = ws.take i ++ [z] := by rw [List.take_add_one, hz]; rfl
      have hzn : z ∉ ws.take i := fun hm => by
        have h1 : (ws.take (i + 1)).Nodup := wnd.sublist (List.take_sublist _ _)
        rw [etake] at h1
        exact (List.nodup_append.mp h1).2.2 z hm z (List.mem_singleton.mpr rfl) rfl
      have y1 : Evl.Ex H4 (upd H4 Tt (.tup [.int (i : Nat), .str z])) := Evl.Ex.new hTt
      have t1 : (upd H4 Tt (.tup [.int (i : Nat), .str z])) Tt = some (.tup [.int (i : Nat), .str z]) := upd_same
      generalize upd H4 Tt (.tup [.int (i : Nat), .str z]) = H5 at y1 t1
      have D5 := D4.ext y1
      have z5 := off_ex (d := d) (g := g) y1
      have f5 := z5 _ _ f4
      have l5 := z5 _ _ l4
      have x5 := x4.trans z5
      have hfd0 : off d g H fd0 = none := off_free hfd
      have tl : tb.length ≤ 10 := by
        have h1 := congrArg List.length hk
        rw [List.length_map, List.length_take] at h1
        omega
      -- behind each branch
      have fin : ∀ {Hx : Hp} {v : V}, DrawAt Hx d g c → Evl.Ex (off d g H5) (off d g Hx) → PlaceOk zs e z v → ∃ (x6 x7 : Option V) (tb' : List (Str × V)), [some (V.ref d), some (.ref a), some (.str e), some (.str way), some (.ref fd0), some (.ref lp), some (.int (i : Nat)), some (.str z), none] = [some (V.ref d), some (.ref a), some (.str e), some (.str way), some (.ref fd0), some (.ref lp), x6, x7, none] ∧ tb'.map (·.1) = ws.take (i + 1) ∧ (∀ q ∈ tb', PlaceOk zs e q.1 q.2) ∧
          off d g (upd Hx fd0 (.dK (putK (tkv tb) (Sum.inr z) v))) fd0 = some (.dK (tkv tb')) ∧ DrawAt (upd Hx fd0 (.dK (putK (tkv tb) (Sum.inr z) v))) d g c ∧ Evl.Ex (off d g H) (off d g (upd Hx fd0 (.dK (putK (tkv tb) (Sum.inr z) v)))) ∧ off d g (upd Hx fd0 (.dK (putK (tkv tb) (Sum.inr z) v))) lp = some (.lst (ws.map V.str)) := fun {Hx v} Dx xx hv => by
        refine ⟨_, _, tb ++ [(z, v)], rfl, by rw [List.map_append, hk, etake]; rfl, fun q hq => ?_, ?_, Dx.mut nfd.1 nfd.2.1 nfd.2.2, off_mut (x5.trans xx) hfd0, ?_⟩
        · rcases List.mem_append.mp hq with hq | hq
          · exact hps q hq
          · rw [List.mem_singleton.mp hq]
            exact hv
        · rw [tkv_new (by rw [hk]; exact hzn)]
          exact off_of upd_same nfd.1 nfd.2.1
        · have h1 := off_some (xx _ _ l5)
          exact off_of (by rw [upd_ne lf]; exact h1.2.2) h1.1 h1.2.1
      have small : (tkv tb).length < sizeLine := by rw [tkv_len]; exact small1000 (by omega)
      refine ⟨Tt, _, rfl, Evl.st_of t1, rfl, _, _, rfl, _, [], rfl, rfl, ?_⟩
      refine ⟨.str way, rfl, rfl, _, rfl, ite2 (fun _ => ?_) (fun _ => ?_)⟩
      · -- a tree
        refine ⟨.ref d, rfl, .str e, rfl, by show 1 ≤ sizeLine; decide, fun p1 hp1 => ?_⟩
        have y2 : Evl.Ex H5 (upd H5 p1 (.lst [.str e])) := Evl.Ex.new hp1
        have q2 : (upd H5 p1 (.lst [.str e])) p1 = some (.lst [.str e]) := upd_same
        generalize upd H5 p1 (.lst [.str e]) = H6 at y2 q2
        have l6 := (off_some (off_ex (d := d) (g := g) y2 _ _ l5)).2.2
        refine ⟨.ref lp, rfl, .int (i : Nat), rfl, (i : Nat), rfl, lp, _, rfl, Evl.sq_of l6, fun p2 hp2 => ?_⟩
        have cl : ∀ lo hi, (cutV (ws.map V.str) lo hi).length ≤ 10 := fun lo hi => Nat.le_trans (cutV_length _ _ _) (by rw [List.length_map]; exact wl)
        have y3 : Evl.Ex H6 (upd H6 p2 (.lst (cutV (ws.map V.str) none (some (i : Int))))) := Evl.Ex.new hp2
        have q3 : (upd H6 p2 (.lst (cutV (ws.map V.str) none (some (i : Int))))) p2 = some (.lst (cutV (ws.map V.str) none (some (i : Int)))) := upd_same
        generalize upd H6 p2 (.lst (cutV (ws.map V.str) none (some (i : Int)))) = H7 at y3 q3
        refine ⟨p1, p2, _, _, rfl, rfl, y3 _ _ q2, q3, Nat.le_of_lt (small1000 (by have := cl none (some (i : Int)); show 1 + (cutV (ws.map V.str) none (some (i : Int))).length ≤ 1000; omega)), fun p3 hp3 => ?_⟩
        have y4 : Evl.Ex H7 (upd H7 p3 (.lst ([.str e] ++ cutV (ws.map V.str) none (some (i : Int))))) := Evl.Ex.new hp3
        have q4 : (upd H7 p3 (.lst ([.str e] ++ cutV (ws.map V.str) none (some (i : Int))))) p3 = some (.lst ([.str e] ++ cutV (ws.map V.str) none (some (i : Int)))) := upd_same
        generalize upd H7 p3 (.lst ([.str e] ++ cutV (ws.map V.str) none (some (i : Int)))) = H8 at y4 q4
        have y58 := (y2.trans y3).trans y4
        have l8 := (off_some (off_ex (d := d) (g := g) y58 _ _ l5)).2.2
        refine ⟨.ref lp, rfl, .int (i : Nat), rfl, (i : Int), 1, rfl, rfl, 0, (i : Int) - 1, rfl, _, rfl, .int (i : Nat), rfl, (i : Int), rfl, lp, _, rfl, Evl.sq_of l8, fun p4 hp4 => ?_⟩
        obtain ⟨lo, elo⟩ : ∃ lo : Int, lo = (if (i : Int) - 1 > 0 then (i : Int) - 1 else 0) := ⟨_, rfl⟩
        rw [← elo]
        have y5 : Evl.Ex H8 (upd H8 p4 (.lst (cutV (ws.map V.str) (some lo) (some (i : Int))))) := Evl.Ex.new hp4
        have q5 : (upd H8 p4 (.lst (cutV (ws.map V.str) (some lo) (some (i : Int))))) p4 = some (.lst (cutV (ws.map V.str) (some lo) (some (i : Int)))) := upd_same
        generalize upd H8 p4 (.lst (cutV (ws.map V.str) (some lo) (some (i : Int)))) = H9 at y5 q5
        have c5 := cl (some lo) (some (i : Int))
        refine ⟨p4, 2, _, rfl, rfl, q5, by decide +kernel, by decide +kernel, Nat.le_of_lt (small1000 (by show (cutV (ws.map V.str) (some lo) (some (i : Int))).length * 2 ≤ 1000; omega)), fun p5 hp5 => ?_⟩
        have y6 : Evl.Ex H9 (upd H9 p5 (.lst (List.replicate (2 : Int).toNat (cutV (ws.map V.str) (some lo) (some (i : Int)))).flatten)) := Evl.Ex.new hp5
        have q6 : (upd H9 p5 (.lst (List.replicate (2 : Int).toNat (cutV (ws.map V.str) (some lo) (some (i : Int)))).flatten)) p5 = some (.lst (cutV (ws.map V.str) (some lo) (some (i : Int)) ++ cutV (ws.map V.str) (some lo) (some (i : Int)))) := by
          rw [upd_same]
          show some (HO.lst (_ ++ (_ ++ []))) = _
          rw [List.append_nil]
        generalize upd H9 p5 (.lst (List.replicate (2 : Int).toNat (cutV (ws.map V.str) (some lo) (some (i : Int)))).flatten) = HA at y6 q6
        have c3 := cl none (some (i : Int))
        refine ⟨p3, p5, _, _, rfl, rfl, (y5.trans y6) _ _ q4, q6, Nat.le_of_lt (small1000 (by rw [List.length_append, List.length_append]; show 1 + _ + _ ≤ 1000; omega)), fun p6 hp6 => ?_⟩
        have y7 : Evl.Ex HA (upd HA p6 (.lst ([.str e] ++ cutV (ws.map V.str) none (some (i : Int)) ++ (cutV (ws.map V.str) (some lo) (some (i : Int)) ++ cutV (ws.map V.str) (some lo) (some (i : Int)))))) := Evl.Ex.new hp6
        have n6 := (D5.ext (y58.trans (y5.trans y6))).ned hp6
        have q7 : off d g (upd HA p6 (.lst ([.str e] ++ cutV (ws.map V.str) none (some (i : Int)) ++ (cutV (ws.map V.str) (some lo) (some (i : Int)) ++ cutV (ws.map V.str) (some lo) (some (i : Int)))))) p6 = some (.lst ([.str e] ++ cutV (ws.map V.str) none (some (i : Int)) ++ (cutV (ws.map V.str) (some lo) (some (i : Int)) ++ cutV (ws.map V.str) (some lo) (some (i : Int))))) := off_of upd_same n6.1 n6.2.1
        generalize upd HA p6 (.lst ([.str e] ++ cutV (ws.map V.str) none (some (i : Int)) ++ (cutV (ws.map V.str) (some lo) (some (i : Int)) ++ cutV (ws.map V.str) (some lo) (some (i : Int))))) = HB at y7 q7
        have y5B := (y58.trans (y5.trans y6)).trans y7
        refine ⟨d, g, c, p6, _, rfl, D5.ext y5B, Evl.sq_of q7, by rw [List.length_append, List.length_append]; show 0 < 1 + _ + _; omega, ?_, fun j v HC hv DC xC => ?_⟩
        · rw [List.length_append, List.length_append, List.length_append]
          show 1 + _ + _ < 2 ^ 30
          omega
        refine ⟨.ref fd0, rfl, .str z, rfl, fd0, _, rfl, DPut.k (k := Sum.inr z) (off_some (xC _ _ (off_ex y5B _ _ f5))).2.2 small, fin DC ((off_ex y5B).trans xC) ?_⟩
        have ahead : ∀ {lo : Option Int} {v : V}, v ∈ cutV (ws.map V.str) lo (some (i : Int)) → PlaceOk zs e z v := fun {lo v} hv => by
          obtain ⟨y, hy, hne, rfl⟩ := cutV_ahead wnd hz hv
          exact .inr (.inr ⟨y, hws.mem_iff.mp hy, hne, rfl⟩)
        rcases List.mem_append.mp (List.mem_of_getElem? hv) with hv | hv
        · rcases List.mem_append.mp hv with hv | hv
          · rw [List.mem_singleton.mp hv]
            exact .inr (.inl rfl)
          · exact ahead hv
        · rcases List.mem_append.mp hv with hv | hv <;> exact ahead hv
      · refine ⟨.str way, rfl, rfl, _, rfl, ite2 (fun _ => ?_) (fun _ => ?_)⟩
        · -- a path
          refine ⟨.int (i : Nat), rfl, (i : Int), 0, rfl, rfl, _, rfl, ite2 (fun hpos => ?_) (fun _ => ?_)⟩
          · have hpos' : 0 < i := by
              have := of_decide_eq_true hpos
              omega
            obtain ⟨j, rfl⟩ : ∃ j, i = j + 1 := ⟨i - 1, by omega⟩
            have hj : ws[j]? = some ws[j] := List.getElem?_eq_getElem (by omega)
            refine ⟨.ref lp, rfl, .int ((j + 1 : Nat) : Int), rfl, ((j + 1 : Nat) : Int), 1, rfl, rfl, lp, _, _, .str ws[j], rfl, rfl, Evl.sq_of (off_some l5).2.2, ?_, ?_⟩
            · rw [show ((j + 1 : Nat) : Int) - 1 = (j : Int) by omega]
              exact atI_nat (by rw [List.getElem?_map, hj]; rfl)
            · refine ⟨.ref fd0, rfl, .str z, rfl, fd0, _, rfl, DPut.k (k := Sum.inr z) (off_some f5).2.2 small, fin D5 (Evl.Ex.refl _) (.inr (.inr ⟨ws[j], hws.mem_iff.mp (List.getElem_mem _), fun q => ?_, rfl⟩))⟩
              have h1 := (List.getElem?_inj (by omega) wnd).mp (hj.trans (by rw [q]; exact hz.symm))
              omega
          · refine ⟨.str e, rfl, .ref fd0, rfl, .str z, rfl, fd0, _, rfl, DPut.k (k := Sum.inr z) (off_some f5).2.2 small, fin D5 (Evl.Ex.refl _) (.inr (.inl rfl))⟩
        · -- any ways
          refine ⟨.ref d, rfl, .str e, rfl, .str e, rfl, by show 3 ≤ sizeLine; decide, fun p1 hp1 => ?_⟩
          have y2 : Evl.Ex H5 (upd H5 p1 (.lst [.str e, .str e, .non])) := Evl.Ex.new hp1
          have q2 : (upd H5 p1 (.lst [.str e, .str e, .non])) p1 = some (.lst [.str e, .str e, .non]) := upd_same
          generalize upd H5 p1 (.lst [.str e, .str e, .non]) = H6 at y2 q2
          have hS6 : SqL K H6 a (zs.map V.str) := Evl.ex_l ((x5.trans (off_ex y2)).trans (ex_off d g H6)) hS
          refine ⟨.ref a, rfl, a, rfl, ⟨_, hS6⟩, fun sp hsp => lc_list (K := K) (a := a) (xs := zs.map V.str)
            (fun j H' => H' = upd H6 sp (.lst (((zs.take j).filter fun y => decide (y ≠ z)).map V.str))) rfl (fun j H' _ h => by rw [h]; exact Evl.ex_l (Evl.Ex.new hsp) hS6) ?_ ?_⟩
          · rintro j x Hj hj rfl
            obtain ⟨y, hy, rfl⟩ := str_at hj
            have hjl : j < zs.length := (List.getElem?_eq_some_iff.mp hy).1
            have et : zs.take (j + 1) = zs.take j ++ [y] := by rw [List.take_add_one, hy]; rfl
            refine ⟨rfl, .str y, rfl, .str z, rfl, rfl, _, rfl, ?_⟩
            by_cases q : y = z
            · subst q
              refine iteNS rfl ?_
              show upd H6 sp _ = _
              rw [et, List.filter_append, List.filter_cons_of_neg (by simp), List.filter_nil, List.append_nil]
            · have hq : decide (V.str y = V.str z) = false := decide_eq_false fun w => q (V.str.inj w)
              rw [hq]
              refine iteT ?_
              refine ⟨.str y, rfl, _, upd_same, ?_, ?_⟩
              · rw [List.length_map]
                refine small1000 (Nat.le_trans (List.length_filter_le _ _) ?_)
                rw [List.length_take]
                omega
              · show upd (upd H6 sp _) sp _ = _
                rw [upd_upd, et, List.filter_append, List.filter_cons_of_pos (by simp [q]), List.filter_nil, List.map_append]
                rfl
          · rintro Hj rfl
            rw [List.length_map, List.take_length]
            have hfl : (zs.filter fun y => decide (y ≠ z)).length ≤ 10 := Nat.le_trans (List.length_filter_le _ _) hzl
            generalize hF : (zs.filter fun y => decide (y ≠ z)) = fs at hfl
            have fs_ok : ∀ y ∈ fs, y ∈ zs ∧ y ≠ z := fun y hy => by
              rw [← hF] at hy
              have h1 := List.mem_filter.mp hy
              exact ⟨h1.1, of_decide_eq_true h1.2⟩
            have y3 : Evl.Ex H6 (upd H6 sp (.lst (fs.map V.str))) := Evl.Ex.new hsp
            have q3 : (upd H6 sp (.lst (fs.map V.str))) sp = some (.lst (fs.map V.str)) := upd_same
            generalize upd H6 sp (.lst (fs.map V.str)) = H7 at y3 q3
            refine ⟨sp, 2, _, rfl, rfl, q3, by decide +kernel, by decide +kernel, Nat.le_of_lt (small1000 (by rw [List.length_map]; show fs.length * 2 ≤ 1000; omega)), fun p5 hp5 => ?_⟩
            have y6 : Evl.Ex H7 (upd H7 p5 (.lst (List.replicate (2 : Int).toNat (fs.map V.str)).flatten)) := Evl.Ex.new hp5
            have q6 : (upd H7 p5 (.lst (List.replicate (2 : Int).toNat (fs.map V.str)).flatten)) p5 = some (.lst (fs.map V.str ++ fs.map V.str)) := by
              rw [upd_same]
              show some (HO.lst (_ ++ (_ ++ []))) = _
              rw [List.append_nil]
            generalize upd H7 p5 (.lst (List.replicate (2 : Int).toNat (fs.map V.str)).flatten) = HA at y6 q6
            refine ⟨p1, p5, _, _, rfl, rfl, (y3.trans y6) _ _ q2, q6, Nat.le_of_lt (small1000 (by rw [List.length_append, List.length_map]; show 3 + _ ≤ 1000; omega)), fun p6 hp6 => ?_⟩
            have y7 : Evl.Ex HA (upd HA p6 (.lst ([.str e, .str e, .non] ++ (fs.map V.str ++ fs.map V.str)))) := Evl.Ex.new hp6
            have n6 := (D5.ext (y2.trans (y3.trans y6))).ned hp6
            have q7 : off d g (upd HA p6 (.lst ([.str e, .str e, .non] ++ (fs.map V.str ++ fs.map V.str)))) p6 = some (.lst ([.str e, .str e, .non] ++ (fs.map V.str ++ fs.map V.str))) := off_of upd_same n6.1 n6.2.1
            generalize upd HA p6 (.lst ([.str e, .str e, .non] ++ (fs.map V.str ++ fs.map V.str))) = HB at y7 q7
            have y5B := (y2.trans (y3.trans y6)).trans y7
            refine ⟨d, g, c, p6, _, rfl, D5.ext y5B, Evl.sq_of q7, by rw [List.length_append]; show 0 < 3 + _; omega, ?_, fun j v HC hv DC xC => ?_⟩
            · rw [List.length_append, List.length_append, List.length_map]
              show 3 + _ < 2 ^ 30
              omega
            refine ⟨.ref fd0, rfl, .str z, rfl, fd0, _, rfl, DPut.k (k := Sum.inr z) (off_some (xC _ _ (off_ex y5B _ _ f5))).2.2 small, fin DC ((off_ex y5B).trans xC) ?_⟩
            have inF : ∀ {v : V}, v ∈ fs.map V.str → PlaceOk zs e z v := fun {v} hv => by
              obtain ⟨y, hy, rfl⟩ := List.mem_map.mp hv
              exact .inr (.inr ⟨y, (fs_ok y hy).1, (fs_ok y hy).2, rfl⟩)
            rcases List.mem_append.mp (List.mem_of_getElem? hv) with hv | hv
            · rcases List.mem_cons.mp hv with rfl | hv
              · exact .inr (.inl rfl)
              · rcases List.mem_cons.mp hv with rfl | hv
                · exact .inr (.inl rfl)
                · rw [List.mem_singleton.mp hv]
                  exact .inl rfl
            · rcases List.mem_append.mp hv with hv | hv <;> exact inF hv
    · rintro σ H4 ⟨x6, x7, tb, rfl, hk, hps, f4, D4, x4, l4⟩
      rw [List.length_map, List.take_length] at hk
      exact ⟨.ref fd0, rfl, k fd0 tb H4 ⟨by rw [hk]; exact hws, hps⟩ D4 x4 hfd f4⟩
end
end Rw
end T_BA

section T_M2
set_option Elab.async false
set_option linter.all false
set_option maxRecDepth 100000
set_option maxHeartbeats 1000000
namespace Rw
open PySem L2 PyProof.Rows
theorem ex_free {d g p : Addr} {H H' : Hp} (x : Evl.Ex (off d g H) (off d g H')) (h1 : p ≠ d) (h2 : p ≠ g) (h : H' p = none) : H p = none := by
  cases e : H p with
  | none => rfl
  | some o =>
    have z := ex_off d g H' _ _ (x _ _ (off_of e h1 h2))
    rw [h] at z
    cases z
/-- at p a pair of tables for the goal e -/
structure PairAt (H : Hp) (zs : List Str) (e : Str) (p po pn : Addr) (t1 t2 : List (Str × V)) : Prop where
  hp : H p = some (.tup [.ref po, .ref pn])
  ho : H po = some (.dK (tkv t1))
  hn : H pn = some (.dK (tkv t2))
  o1 : TabOk zs e t1
  o2 : TabOk zs e t2
theorem PairAt.ex {H H' : Hp} {zs : List Str} {e : Str} {p po pn : Addr} {t1 t2 : List (Str × V)} (h : PairAt H zs e p po pn t1 t2) (x : Evl.Ex H H') : PairAt H' zs e p po pn t1 t2 := ⟨x _ _ h.hp, x _ _ h.ho, x _ _ h.hn, h.o1, h.o2⟩
def spPair (K : PySem.W.Frag) : Sp := fun vs H Q _ => ∃ (d g c a : Addr) (zs : List Str) (e : Str), vs = [.ref d, .ref a, .str e] ∧ DrawAt H d g c ∧ SqL K (off d g H) a (zs.map V.str) ∧ zs.Nodup ∧ (∀ z ∈ zs, Nm z) ∧ Nm e ∧ e ∉ zs ∧ 0 < zs.length ∧ zs.length ≤ 10 ∧
  ∀ (p po pn : Addr) (t1 t2 : List (Str × V)) (H' : Hp), DrawAt H' d g c → Evl.Ex (off d g H) (off d g H') → PairAt (off d g H') zs e p po pn t1 t2 → H p = none → H po = none → H pn = none → Q (.ref p) H'
/-- the rows of a model: from each goal to a pair of tables -/
def RowsOk (H : Hp) (dots : List Str) (rows : List (Str × V)) : Prop := ∀ q ∈ rows, ∃ (p po pn : Addr) (t1 t2 : List (Str × V)), q.2 = .ref p ∧ PairAt H dots q.1 p po pn t1 t2
theorem RowsOk.ex {H H' : Hp} {dots : List Str} {rows : List (Str × V)} (h : RowsOk H dots rows) (x : Evl.Ex H H') : RowsOk H' dots rows := fun q hq => by
  obtain ⟨p, po, pn, t1, t2, e, z⟩ := h q hq
  exact ⟨p, po, pn, t1, t2, e, z.ex x⟩
theorem TabOk.perm {zs ys : List Str} {e : Str} {tb : List (Str × V)} (h : TabOk zs e tb) (hp : zs.Perm ys) : TabOk ys e tb := by
  refine ⟨h.ks.trans hp, fun q hq => ?_⟩
  rcases h.ps q hq with z | z | ⟨y, hy, hne, z⟩
  · exact .inl z
  · exact .inr (.inl z)
  · exact .inr (.inr ⟨y, hp.subset hy, hne, z⟩)
theorem tkv_inj : ∀ {t1 t2 : List (Str × V)}, tkv t1 = tkv t2 → t1 = t2
  | [], [], _ => rfl
  | [], _ :: _, h => by cases h
  | _ :: _, [], h => by cases h
  | a :: r, b :: q, h => by
    have h1 : ((Sum.inr a.1 : Key), a.2) :: tkv r = (Sum.inr b.1, b.2) :: tkv q := h
    obtain ⟨h2, h3⟩ := List.cons.inj h1
    obtain ⟨e1, e2⟩ := Prod.mk.inj h2
    rw [tkv_inj h3, Prod.ext (Sum.inr.inj e1) e2]
theorem tab_ne {H : Hp} {dots zs : List Str} {e : Str} {rows t1 : List (Str × V)} {t po : Addr} (ht : H t = some (.dK (tkv rows))) (hr : RowsOk H dots rows) (h0 : rows ≠ []) (ho : H po = some (.dK (tkv t1))) (o1 : TabOk zs e t1) : po ≠ t := fun z => by
  subst z
  rw [ht] at ho
  have e1 := tkv_inj (HO.dK.inj (Option.some.inj ho))
  cases rows with
  | nil => exact h0 rfl
  | cons q r =>
    obtain ⟨p, _, _, _, _, e2, _⟩ := hr q List.mem_cons_self
    have h3 := o1.ps q (by rw [← e1]; exact List.mem_cons_self)
    rw [e2] at h3
    rcases h3 with h3 | h3 | ⟨_, _, _, h3⟩ <;> cases h3
theorem tkv_keysV (tb : List (Str × V)) : ((tkv tb).map fun kv => kV kv.1) = (tb.map (·.1)).map V.str := by
  unfold tkv
  rw [List.map_map, List.map_map]
  rfl
/-- what a model is, without the heap -/
structure ModelOk (ends dots ss ps : List Str) : Prop where
  e0 : 0 < ends.length
  e2 : ends.length ≤ 2
  en : ends.Nodup
  es : sortedS ends = true
  em : ∀ z ∈ ends, Nm z
  d0 : 0 < dots.length
  d6 : dots.length ≤ 6
  dn : dots.Nodup
  ds : sortedS dots = true
  dm : ∀ z ∈ dots, Nm z
  ed : ∀ z ∈ ends, z ∉ dots
  sn : ss.Nodup
  sss : sortedS ss = true
  sd : ∀ z ∈ ss, z ∈ dots
  pn : ps.Nodup
  p2 : ps.length ≤ 2
  pd : ∀ z ∈ ps, z ∈ dots
def mkv (tb db sb pb : Addr) : List (Key × V) := [(.inr "tables", .ref tb), (.inr "dots", .ref db), (.inr "sources", .ref sb), (.inr "posts", .ref pb)]
theorem mkv_tables (tb db sb pb : Addr) : valV (mkv tb db sb pb) (.inr "tables") = some (.ref tb) := by kernel_rfl
theorem mkv_dots (tb db sb pb : Addr) : valV (mkv tb db sb pb) (.inr "dots") = some (.ref db) := by kernel_rfl
theorem mkv_sources (tb db sb pb : Addr) : valV (mkv tb db sb pb) (.inr "sources") = some (.ref sb) := by kernel_rfl
theorem mkv_posts (tb db sb pb : Addr) : valV (mkv tb db sb pb) (.inr "posts") = some (.ref pb) := by kernel_rfl
/-- a model stands at m -/
structure ModelAt (H : Hp) (m tb db sb pb : Addr) (ends dots ss ps : List Str) (rows : List (Str × V)) : Prop where
  hm : H m = some (.dK (mkv tb db sb pb))
  ht : H tb = some (.dK (tkv rows))
  hd : H db = some (.lst (dots.map V.str))
  hs : H sb = some (.lst (ss.map V.str))
  hp : H pb = some (.lst (ps.map V.str))
  rk : rows.map (·.1) = ends
  ro : RowsOk H dots rows
  ok : ModelOk ends dots ss ps
theorem ModelAt.ex {H H' : Hp} {m tb db sb pb : Addr} {ends dots ss ps : List Str} {rows : List (Str × V)} (h : ModelAt H m tb db sb pb ends dots ss ps rows) (x : Evl.Ex H H') : ModelAt H' m tb db sb pb ends dots ss ps rows :=
  ⟨x _ _ h.hm, x _ _ h.ht, x _ _ h.hd, x _ _ h.hs, x _ _ h.hp, h.rk, h.ro.ex x, h.ok⟩
/-- a new model -/
def spModel : Sp := fun vs H Q _ => ∃ (d g c : Addr) (e k : Int), vs = [.ref d, .int e, .int k] ∧ DrawAt H d g c ∧ 0 < e ∧ e ≤ 2 ∧ 0 < k ∧ k ≤ 6 ∧
  ∀ (m tb db sb pb : Addr) (ends dots ss ps : List Str) (rows : List (Str × V)) (H' : Hp), DrawAt H' d g c → Evl.Ex (off d g H) (off d g H') → ModelAt (off d g H') m tb db sb pb ends dots ss ps rows → Q (.ref m) H'
end Rw
end T_M2

section T_TK
set_option Elab.async false
set_option linter.all false
namespace Rw
open PySem L2 PyProof.Rows
theorem tkv_val {tb : List (Str × V)} {z : Str} {v : V} (nd : (tb.map (·.1)).Nodup) (h : (z, v) ∈ tb) : valV (tkv tb) (Sum.inr z) = some v := by
  obtain ⟨u, hu, hm⟩ := tkv_some (tb := tb) (z := z) (List.mem_map_of_mem (f := (·.1)) h)
  obtain ⟨i, hi, ei⟩ := List.getElem_of_mem h
  obtain ⟨j, hj, ej⟩ := List.getElem_of_mem hm
  have a : (tb.map (·.1))[i]? = some z := by rw [List.getElem?_map, List.getElem?_eq_getElem hi, ei]; rfl
  have b : (tb.map (·.1))[j]? = some z := by rw [List.getElem?_map, List.getElem?_eq_getElem hj, ej]; rfl
  have ij : i = j := (List.getElem?_inj (by rw [List.length_map]; exact hi) nd).mp (a.trans b.symm)
  subst ij
  have q := ei.symm.trans ej
  rw [hu, (Prod.mk.inj q).2]
theorem tkv_keys (tb : List (Str × V)) : (tkv tb).map (·.1) = (tb.map (·.1)).map Sum.inr := by unfold tkv; rw [List.map_map, List.map_map]; rfl
end Rw
end T_TK

section T_S0
set_option Elab.async false
set_option linter.all false
set_option maxRecDepth 100000
set_option maxHeartbeats 2000000
namespace Rw
open PySem PySem.Spec L2 PyProof.Rows
/-! ### sets of texts -/
def txt (e : Int × Value) : Str := match e.2 with | .str z _ => z | _ => Str.empty
def GoodT (w : World) (e : Int × Value) : Prop := ∃ z tk, e.2 = Value.str z tk ∧ e.1 = hashStr w z
/-- at a the set of the texts ks -/
def SetX (w : World) (h : Heap) (a : Addr) (ks : List Str) : Prop :=
  ∃ o es ep t, h.get? a = some o ∧ o.ExactSet ∧ o.data = .set es ep t ∧ (∀ e ∈ es.toList, GoodT w e) ∧ (es.toList.map txt).Perm ks ∧ ks.Nodup ∧ es.size < scanBound ∧ t.fits es.size = true ∧
    Ris t.place.toList ∧ (w.params.followText "set-order" = true ∨ t.led = true)
section
variable {P : Program} {w : World} {A : Around} {E : Value → Shared → Prop} {s : Shared} {a : Addr} {ks : List Str}
theorem SetX.keep {h h' : Heap} (R : SetX w h a ks) (k : ∀ o, h.get? a = some o → h'.get? a = some o) : SetX w h' a ks := by
  obtain ⟨o, es, ep, t, ho, rest⟩ := R
  exact ⟨o, es, ep, t, k o ho, rest⟩
theorem SetX.size {h : Heap} (R : SetX w h a ks) : ∃ o es ep t, h.get? a = some o ∧ o.ExactSet ∧ o.data = .set es ep t ∧ t.fits es.size = true ∧ es.size = ks.length := by
  obtain ⟨o, es, ep, t, ho, hex, hd, _, pm, _, _, hf, _⟩ := R
  refine ⟨o, es, ep, t, ho, hex, hd, hf, ?_⟩
  rw [← pm.length_eq, List.length_map, Array.length_toList]
theorem goodT_elems {l : List (Int × Value)} (g : ∀ e ∈ l, GoodT w e) : ElemsOf (PySem.strKind P w) l := fun e he => by
  obtain ⟨z, tk, h1, h2⟩ := g e he
  refine ⟨⟨z, by rw [h1]; exact strKind_is _ _ _ _, h2⟩, ?_⟩
  rw [h1]
  rfl
theorem goodT_is {e : Int × Value} (g : GoodT w e) (z : Str) : (PySem.strKind P w).is z e.2 = true ↔ txt e = z := by
  obtain ⟨y, tk, h1, _⟩ := g
  unfold txt
  rw [h1]
  show ((y == z) = true) ↔ y = z
  exact beq_iff_eq
/-- what a new element leaves -/
theorem setX_tail {g : Bool → Sem Unit} (quiet : ∀ (b : Bool) (s₁ : Shared) (Q' : Unit → Shared → Prop), Q' () s₁ → wpAny (model P w) A (g b) Q' E s₁) {o : Obj} {es : Array (Int × Value)} {ep : Nat} {t : SetTable}
    (ho : s.heap.get? a = some o) (hex : o.ExactSet) (hd : o.data = .set es ep t) {es1 : Array (Int × Value)} {t2 : SetTable} (g1 : ∀ e ∈ es1.toList, GoodT w e) (pm1 : (es1.toList.map txt).Perm ks) (nd1 : ks.Nodup)
    (few : es1.size < scanBound) (fit2 : t2.fits es1.size = true) (rise : Ris t2.place.toList) (order : w.params.followText "set-order" = true ∨ t2.led = true) {wasDummy : Bool} {R : Option Bool → Shared → Prop}
    (hR : ∀ h', Heap.SameBut a s.heap h' → SetX w h' a ks → R (some true) { s with heap := h' }) :
    wpAny (model P w) A (do
        storeSet a es1 t2
        if (!wasDummy && t2.tooFull) = true then do
            g (relayAll t2 es1 (SetTable.grown es1.size)).2.2
            storeSet a (relayAll t2 es1 (SetTable.grown es1.size)).1 (relayAll t2 es1 (SetTable.grown es1.size)).2.1
            pure (some true)
          else pure (some true)) R E s := by
  refine wpAny_bind (wpAny_storeSet_of ho hd ?_ (fits_of_scanBound few))
  have at1 := store_at (es' := es1) (t' := t2) ho hd
  have same1 := Heap.SameBut.update s.heap a (Obj.putSet es1 t2)
  split
  · have perm3 := relayAll_perm t2 es1 (SetTable.grown es1.size)
    have fit3 := relayAll_fits t2 es1 (SetTable.grown es1.size)
    have rise3 := relayAll_ris t2 es1 (SetTable.grown es1.size)
    have led3 := relayAll_led t2 es1 (SetTable.grown es1.size)
    generalize relayAll t2 es1 (SetTable.grown es1.size) = out at perm3 fit3 rise3 led3 ⊢
    obtain ⟨es2, t3, gave⟩ := out
    dsimp only at perm3 fit3 rise3 led3 ⊢
    have same_size : es2.size = es1.size := by rw [← Array.length_toList, perm3.length_eq, Array.length_toList]
    have few2 : es2.size < scanBound := by omega
    refine wpAny_bind (quiet _ _ _ ?_)
    refine wpAny_bind (wpAny_storeSet_of at1 rfl ?_ (fits_of_scanBound few2))
    refine wpAny_pure (hR _ (same1.trans (Heap.SameBut.update _ a _)) ?_)
    exact ⟨_, es2, _, t3, store_at (es' := es2) (t' := t3) at1 rfl, hex, rfl, fun e he => g1 e (perm3.mem_iff.mp he), (perm3.map txt).trans pm1, nd1, few2, fit3, rise3, order.imp id fun z => by rw [led3]; exact z⟩
  · exact wpAny_pure (hR _ same1 ⟨_, es1, _, t2, at1, hex, rfl, g1, pm1, nd1, few, fit2, rise, order⟩)
/-- a text is put in -/
theorem setX_add {z : Str} {tk : Tok} {Q : Bool → Shared → Prop} (R : SetX w s.heap a ks) (room : ks.length + 1 < scanBound)
    (hQ : ∀ h', Heap.SameBut a s.heap h' → SetX w h' a (if z ∈ ks then ks else z :: ks) → ∀ b, Q b { s with heap := h' }) :
    wpAny (model P w) A (setAddHashed a (.str z tk) (hashStr w z)) Q E s := by
  obtain ⟨o, es, ep, t, ho, hex, hd, g, pm, nd, hb, hf, hr, hl⟩ := R
  have is_z : (PySem.strKind P w).is z (.str z tk) = true := strKind_is _ _ _ _
  have scans : (Value.str z tk).scannable = true := rfl
  have elems : ElemsOf (PySem.strKind P w) es.toList := goodT_elems g
  have same_hash : hashStr w z = (PySem.strKind P w).hash z := rfl
  rw [same_hash]
  unfold setAddHashed setAddHashedIn
  refine wpAny_holding (wpAny_bind (wpAny_setState_of ho hd hf ?_))
  dsimp only
  rw [byScan_of scans hb elems]
  simp only [↓reduceIte]
  unfold setAddByScan
  refine wpAny_bind ?_
  refine wpAny_bind (wpAny_rule ?_)
  refine wpAny_bind (wpAny_setScan_of is_z ho hd hf elems ?_)
  cases there : List.findIdx? (fun e => (PySem.strKind P w).is z e.2) es.toList with
  | some j =>
    dsimp only
    obtain ⟨hj, at_j, _⟩ := List.findIdx?_eq_some_iff_getElem.mp there
    have mem : z ∈ ks := pm.mem_iff.mp (List.mem_map.mpr ⟨es.toList[j], List.getElem_mem hj, (goodT_is (P := P) (g _ (List.getElem_mem hj)) z).mp at_j⟩)
    refine wpAny_pure (wpAny_pure ?_)
    have q := hQ s.heap (Heap.SameBut.refl a s.heap)
    rw [if_pos mem] at q
    exact q ⟨o, es, ep, t, ho, hex, hd, g, pm, nd, hb, hf, hr, hl⟩ _
  | none =>
    dsimp only
    have notin : z ∉ ks := fun mem => by
      obtain ⟨e, he, q⟩ := List.mem_map.mp (pm.mem_iff.mpr mem)
      have no := List.findIdx?_eq_none_iff.mp there e he
      rw [(goodT_is (P := P) (g e he) z).mpr q] at no
      cases no
    have quiet : ∀ (b : Bool) {s₁ : Shared} {Q' : Unit → Shared → Prop}, Q' () s₁ → wpAny (model P w) A (match b with | true => rule "set.scan.the-table-gave-way" | false => pure ()) Q' E s₁ :=
      fun b s₁ Q' q => by cases b <;> first | exact wpAny_pure q | exact wpAny_rule q
    have perm1 := layNew_perm t es ((PySem.strKind P w).hash z) (.str z tk)
    have fit1 := layNew_fits t es ((PySem.strKind P w).hash z) (.str z tk)
    have rise1 := layNew_ris t es ((PySem.strKind P w).hash z) (.str z tk) hr
    have led1 := layNew_led t es ((PySem.strKind P w).hash z) (.str z tk)
    generalize layNew t es ((PySem.strKind P w).hash z) (.str z tk) = out at perm1 fit1 rise1 led1 ⊢
    obtain ⟨es1, t1, wasDummy, gave⟩ := out
    dsimp only at perm1 fit1 rise1 led1 ⊢
    rw [Array.toList_push] at perm1
    have permc : es1.toList.Perm (((PySem.strKind P w).hash z, Value.str z tk) :: es.toList) := perm1.trans (List.perm_append_singleton _ _)
    have permk : (es1.toList.map txt).Perm (z :: ks) := (permc.map txt).trans (List.Perm.cons _ pm)
    have good1 : ∀ e ∈ es1.toList, GoodT w e := fun e he => by
      rcases List.mem_cons.mp (permc.mem_iff.mp he) with q | q
      · rw [q]; exact ⟨z, tk, rfl, rfl⟩
      · exact g e q
    have nd1 : (z :: ks).Nodup := List.nodup_cons.mpr ⟨notin, nd⟩
    have size1 : es1.size = ks.length + 1 := by
      have := permk.length_eq
      rw [List.length_map, Array.length_toList] at this
      exact this
    have few1 : es1.size < scanBound := by omega
    have order1 : w.params.followText "set-order" = true ∨ t1.led = true := hl.imp id fun q => by rw [led1]; exact q
    have fin : ∀ h', Heap.SameBut a s.heap h' → SetX w h' a (z :: ks) → Q true { s with heap := h' } := fun h' sb r => by
      have q := hQ h' sb
      rw [if_neg notin] at q
      exact q r _
    refine wpAny_bind (quiet _ ?_)
    split
    · refine wpAny_bind ?_
      rw [hashByValue_scannable 8 scans]
      refine wpAny_pure ?_
      refine setX_tail ?_ ho hex hd good1 permk nd1 few1 ?_ ?_ ?_ ?_
      · intro b s₁ Q' q; cases b <;> first | exact wpAny_pure q | exact wpAny_rule q
      · first | (split <;> first | exact fit1 | exact SetTable.fits_plain_off fit1) | exact fit1
      · first | (split <;> exact rise1) | exact rise1
      · first | (split <;> exact order1) | exact order1
      · intro h' sb r; dsimp only; exact wpAny_pure (fin h' sb r)
    · refine wpAny_bind (wpAny_pure ?_)
      simp only [↓reduceIte]
      refine setX_tail ?_ ho hex hd good1 permk nd1 few1 fit1 rise1 order1 ?_
      · intro b s₁ Q' q; cases b <;> first | exact wpAny_pure q | exact wpAny_rule q
      · intro h' sb r; dsimp only; exact wpAny_pure (fin h' sb r)
end
end Rw
end T_S0

section T_S1
set_option Elab.async false
set_option linter.all false
set_option maxRecDepth 100000
set_option maxHeartbeats 4000000
namespace Rw
open PySem PySem.Spec L2 PyProof.Rows
/-! ### set(texts) -/
def put1 (ks : List Str) (z : Str) : List Str := if z ∈ ks then ks else z :: ks
def seen (l : List Str) : List Str := l.foldl put1 []
theorem seen_snoc (l : List Str) (z : Str) : seen (l ++ [z]) = put1 (seen l) z := by
  unfold seen
  rw [List.foldl_append]
  rfl
theorem seen_rev : ∀ l : List Str, (seen l).Nodup ∧ (∀ z, z ∈ seen l ↔ z ∈ l) ∧ (seen l).length ≤ l.length := by
  have go : ∀ (r : List Str), (seen r.reverse).Nodup ∧ (∀ z, z ∈ seen r.reverse ↔ z ∈ r.reverse) ∧ (seen r.reverse).length ≤ r.reverse.length := fun r => by
    induction r with
    | nil => exact ⟨List.nodup_nil, fun z => Iff.rfl, Nat.le_refl _⟩
    | cons x r ih =>
      obtain ⟨h1, h2, h3⟩ := ih
      rw [List.reverse_cons, seen_snoc]
      unfold put1
      by_cases m : x ∈ seen r.reverse
      · rw [if_pos m]
        refine ⟨h1, fun z => ?_, by simp; rw [List.length_reverse] at h3; omega⟩
        rw [h2, List.mem_append, List.mem_singleton]
        exact ⟨.inl, fun q => q.elim id fun e => by rw [e]; exact (h2 x).mp m⟩
      · rw [if_neg m]
        refine ⟨List.nodup_cons.mpr ⟨m, h1⟩, fun z => ?_, by simp; rw [List.length_reverse] at h3; omega⟩
        rw [List.mem_cons, h2, List.mem_append, List.mem_singleton]
        exact Or.comm
  intro l
  have := go l.reverse
  rw [List.reverse_reverse] at this
  exact this
theorem seen_perm {l : List Str} (h : l.Nodup) : (seen l).Perm l := by
  obtain ⟨h1, h2, _⟩ := seen_rev l
  exact (List.perm_ext_iff_of_nodup h1 h).mpr h2
theorem seen_len {l : List Str} (h : l.Nodup) : (seen l).length = l.length := (seen_perm h).length_eq
section
variable {prog : Program} {w : World} {A : Around} {R : Result → Shared → Prop} {I : Addr} {fp wr : List Addr} {G : Array GenState → Array GenState → Prop} {n : Nat} {P : Nat → Value → Prop} {St : Nat → Shared → Prop}
theorem setX_loop (W : WalksS prog w A.in1 I fp wr G n P St) (S : Addr) (apart : S ∉ fp) (xs : List Str) (many : xs.length = n) (few : n < 1000) (texts : ∀ i v, P i v → ∃ t, v = .str (xs.getD i Str.empty) t) :
    ∀ (left i : Nat) (s : Shared), n - i = left → i ≤ n → St i s → SetX w s.heap S (seen (xs.take i)) → (∀ s', Moved (S :: wr) G s s' → SetX w s'.heap S (seen xs) → R (.ok (.ret .none)) s') →
      codeAny (model prog w) A (.builtin "set.update.loop" ⟨[.ref S, .ref I], []⟩) R s := by
  have apart2 : S ∉ wr := fun h => apart (W.sub _ h)
  have wider : ∀ b ∈ wr, b ∈ S :: wr := fun b hb => List.mem_cons_of_mem _ hb
  intro left
  induction left with
  | zero =>
    intro i s hl hi here set_s go
    have at_end : i = n := by omega
    subst at_end
    refine codeAny_builtin PyProof.Rows.F.entry_set_update_loop ?_
    rw [Around.under_plainId PyProof.Rows.F.plain_set_update_loop _]
    show wpAny _ A.in1 (pyNext (.ref I) >>= _) _ _ s
    refine wpAny_bind (W.done s _ _ here fun s' moved => ?_)
    show wpAny _ A.in1 (ret Value.none) _ _ s'
    refine wpAny_pure (go s' (moved.mono wider) ?_)
    rw [List.take_of_length_le (by omega)] at set_s
    exact set_s.keep fun o e => moved.heap S o apart2 e
  | succ left ih =>
    intro i s hl hi here set_s go
    have more : i < n := by omega
    refine codeAny_builtin PyProof.Rows.F.entry_set_update_loop ?_
    rw [Around.under_plainId PyProof.Rows.F.plain_set_update_loop _]
    show wpAny _ A.in1 (pyNext (.ref I) >>= _) _ _ s
    refine wpAny_bind (W.item i s _ _ more here fun v s' is_v here' moved => ?_)
    obtain ⟨t, rfl⟩ := texts i v is_v
    have set_s' : SetX w s'.heap S (seen (xs.take i)) := set_s.keep fun o e => moved.heap S o apart2 e
    have is_i : xs.getD i Str.empty = xs[i]'(by omega) := by rw [List.getD_eq_getElem?_getD, List.getElem?_eq_getElem (by omega)]; rfl
    show wpAny _ A.in1 (holding [Value.str (xs.getD i Str.empty) t] (setAdd S (.str (xs.getD i Str.empty) t)) >>= _) _ _ s'
    refine wpAny_bind (wpAny_holding ?_)
    unfold setAdd
    refine wpAny_holding ?_
    refine wpAny_bind ((PySem.strKind prog w).pyHash (k := xs.getD i Str.empty) (strKind_is _ _ _ _) ?_)
    refine setX_add (P := prog) (s := { s' with toks := s'.toks + 1 }) set_s' ?_ fun h' same set_h b => ?_
    · have := (seen_rev (xs.take i)).2.2
      rw [List.length_take] at this
      unfold scanBound
      omega
    have set_next : SetX w h' S (seen (xs.take (i + 1))) := by
      have e : xs.take (i + 1) = xs.take i ++ [xs.getD i Str.empty] := by rw [List.take_add_one, List.getElem?_eq_getElem (show i < xs.length by omega), is_i]; rfl
      rw [e, seen_snoc]
      exact set_h
    refine wpAny_pure ⟨plainId_quiet PyProof.Rows.F.plain_set_update_loop _, ih (i + 1) _ (by omega) more (W.frame _ s' _ _ here' (Nat.le_succ _) fun b hb o e => ?_) set_next fun s'' moved2 set_all => ?_⟩
    · rw [same.2 b (fun h : b = S => apart (by rw [← h]; exact hb))]
      exact e
    · refine go s'' (Moved.trans W.gtrans ((moved.mono wider).then_heap (Nat.le_succ _) fun b o hb e => ?_) moved2) set_all
      rw [same.2 b (fun h : b = S => hb (by rw [h]; exact List.mem_cons_self))]
      exact e
end
section
variable {prog : Program} {w : World} {A : Around} {E : Value → Shared → Prop} {s : Shared}
theorem call_setX_list {l : Addr} {items : Array Value} {xs : List Str} {Q : Value → Shared → Prop} (hh : A.handled = none) (hl : s.heap.IsList l items) (hi : PyProof.Rows.StrsAre items.toList xs) (few : xs.length < 1000)
    (h : ∀ (h' : Heap) (tk : Nat), SetX w h' s.heap.objs.size (seen xs) → (∀ b o, s.heap.get? b = some o → h'.get? b = some o) → Q (.ref s.heap.objs.size) { s with heap := h', toks := tk }) :
    wpAny (model prog w) A (call (.type "set") [.ref l]) Q E s := by
  obtain ⟨c, tl, mro⟩ := PySem.F.called_set.mro
  have made := PySem.F.called_set.made
  have subs := PySem.F.called_set.sub
  refine wpAny_call (codeAny_of_tree ?_)
  show wpAny _ _ (callAny (.type "set") _) _ _ _
  refine wpAny_pure ⟨Code.quiet_builtin _ (by decide +kernel), codeAny_builtin PySem.F.entry_type_call ?_⟩
  rw [Around.under_plain (weight_type_call_type "set" [.ref l] []) rfl]
  have not_type := PySem.F.called_set.notType
  have creates := PySem.F.called_set.canCreate
  have one := PySem.F.typeCall_set_1 (.ref l)
  repeat (any_goals (first | assumption | wp_step))
  refine codeAny_mono (code_set_led1 (.ref l) (E := E) (Q₁ := fun obj s₁ => obj = .ref s.heap.objs.size ∧ s₁ = { s with heap := s.heap.push { cls := .type "set", dict := none, data := .set #[] 0 (.fresh 0 0 (!w.params.followText "set-order")) } }) ⟨rfl, rfl⟩) fun r s₁ hr => ?_
  cases r with
  | error e => exact hr
  | ok fl =>
    cases fl with
    | ret obj =>
      obtain ⟨rfl, rfl⟩ := hr
      generalize new_is : ({ cls := .type "set", dict := none, data := .set #[] 0 (.fresh 0 0 (!w.params.followText "set-order")) } : Obj) = new
      have at_new : (s.heap.push new).get? s.heap.objs.size = some new := Heap.get?_push_size _ (by rw [← new_is]; rfl)
      have is_set : Shared.TypeIs { s with heap := s.heap.push new } (.ref s.heap.objs.size) "set" := ⟨_, at_new, by rw [← new_is]⟩
      have look_init := PySem.F.called_set.init.lookup
      have bind_init := PySem.F.called_set.init.bind (.ref s.heap.objs.size)
      repeat (any_goals (first | assumption | wp_step))
      refine codeAny_mono (codeAny_call_builtin (R := wants (fun r s₂ => r = .none ∧ ∃ h' tk, s₂ = { s with heap := h', toks := tk } ∧ SetX w h' s.heap.objs.size (seen xs) ∧ (∀ b o, s.heap.get? b = some o → h'.get? b = some o)) E)
        PySem.F.called_set.init.plain PySem.F.entry_set_init (check_set_init_1 is_set ?_)) fun r₂ s₂ hr₂ => ?_
      · obtain ⟨ol, hol, hcl, nl, hdl⟩ := hl
        obtain ⟨ocls, odict, odata, oslots⟩ := ol
        simp only at hcl hdl
        subst hcl; subst hdl
        have at_l : (s.heap.push new).get? l = some { cls := .type "list", dict := odict, data := .seq items nl, slots := oslots } := Heap.get?_push_of_some _ hol
        have no_sub := PySem.F.sub_list_set
        have no_sub2 := PySem.F.sub_list_frozenset
        have no_dict : (Value.type "list" == Value.type "dict") = false := by decide
        have is_l : (s.heap.push new).IsList l items := ⟨_, at_l, rfl, nl, rfl⟩
        have l_lt : l < s.heap.objs.size := Heap.lt_size hol
        have calm3 : A.in1.in1.in1.handled = none := by simp [hh]
        have ne_it : l ≠ (s.heap.push new).objs.size := by
          rw [Heap.size_push]
          exact Nat.ne_of_lt (Nat.lt_succ_of_lt l_lt)
        have apart : s.heap.objs.size ∉ [(s.heap.push new).objs.size, l] := by
          rw [Heap.size_push]
          intro z
          rcases List.mem_cons.mp z with z | z
          · exact absurd z (Nat.ne_of_lt (Nat.lt_succ_self _))
          · exact absurd (List.mem_singleton.mp z) (Nat.ne_of_gt l_lt)
        subst new_is
        unfold Builtin.«set.__init__» noKeywords Builtin.Frozenset.updateFrom
        generalize iter_is : pyIter = PI
        wp_walk
        subst iter_is
        refine wpAny_pyIter_list is_l ?_
        refine wpAny_bind (wpAny_runValue ?_)
        have many : xs.length = items.size := by rw [← StrsAre.len_eq hi, Array.length_toList]
        have texts : ∀ (i : Nat) (v : Value), items[i]? = some v → ∃ t, v = .str (xs.getD i Str.empty) t := fun i v hv => SS.strs_at hi i v (by rw [Array.getElem?_toList]; exact hv)
        refine setX_loop ((Walks.list calm3 _ l ne_it items).toS) s.heap.objs.size apart xs many (by omega) texts (items.size - 0) 0 _ (by omega) (Nat.zero_le _) ⟨⟨_, Heap.get?_push_size _ rfl, rfl, rfl⟩, (is_l.push _)⟩ ?start ?finish
        case start =>
          refine ⟨_, #[], 0, .fresh 0 0 (!w.params.followText "set-order"), Heap.get?_push_of_some _ at_new, ⟨rfl, rfl, rfl⟩, rfl, (fun e he => by cases he), List.Perm.refl _, List.nodup_nil, by decide, by rfl, List.Pairwise.nil, ?_⟩
          cases q : w.params.followText "set-order"
          · exact .inr rfl
          · exact .inl rfl
        case finish =>
          intro s' moved set_all
          obtain ⟨h', g', d', tk', os'⟩ := s'
          have eg : g' = s.gens := moved.gens
          have ed : d' = s.drawn := moved.drawn
          have eo : os' = s.os := moved.os
          subst eg; subst ed; subst eo
          show wpAny _ _ _ _ _ _
          refine wpAny_pure ?_
          show wpAny _ _ (ret Value.none) _ _ _
          refine wpAny_pure ⟨rfl, h', tk', rfl, set_all, fun b o e => ?_⟩
          have b_lt := Heap.lt_size e
          refine moved.heap b o (fun z => ?_) (Heap.get?_push_of_some _ (Heap.get?_push_of_some _ e))
          rcases List.mem_cons.mp z with z | z
          · exact absurd z (Nat.ne_of_lt b_lt)
          · have z := List.mem_singleton.mp z
            rw [Heap.size_push] at z
            exact absurd z (Nat.ne_of_lt (Nat.lt_succ_of_lt b_lt))
      · cases r₂ with
        | error e => exact hr₂
        | ok fl₂ =>
          cases fl₂ with
          | ret r =>
            obtain ⟨rfl, h', tk, rfl, set_all, kept⟩ := hr₂
            repeat (any_goals (first | assumption | wp_step))
            exact h _ _ set_all kept
          | _ => exact hr₂.elim
    | _ => exact hr.elim
theorem call_setX_tuple {l : Addr} {items : Array Value} {xs : List Str} {Q : Value → Shared → Prop} (hh : A.handled = none) (hl : s.heap.IsTuple l items) (hi : PyProof.Rows.StrsAre items.toList xs) (few : xs.length < 1000)
    (h : ∀ (h' : Heap) (tk : Nat), SetX w h' s.heap.objs.size (seen xs) → (∀ b o, s.heap.get? b = some o → h'.get? b = some o) → Q (.ref s.heap.objs.size) { s with heap := h', toks := tk }) :
    wpAny (model prog w) A (call (.type "set") [.ref l]) Q E s := by
  obtain ⟨c, tl, mro⟩ := PySem.F.called_set.mro
  have made := PySem.F.called_set.made
  have subs := PySem.F.called_set.sub
  refine wpAny_call (codeAny_of_tree ?_)
  show wpAny _ _ (callAny (.type "set") _) _ _ _
  refine wpAny_pure ⟨Code.quiet_builtin _ (by decide +kernel), codeAny_builtin PySem.F.entry_type_call ?_⟩
  rw [Around.under_plain (weight_type_call_type "set" [.ref l] []) rfl]
  have not_type := PySem.F.called_set.notType
  have creates := PySem.F.called_set.canCreate
  have one := PySem.F.typeCall_set_1 (.ref l)
  repeat (any_goals (first | assumption | wp_step))
  refine codeAny_mono (code_set_led1 (.ref l) (E := E) (Q₁ := fun obj s₁ => obj = .ref s.heap.objs.size ∧ s₁ = { s with heap := s.heap.push { cls := .type "set", dict := none, data := .set #[] 0 (.fresh 0 0 (!w.params.followText "set-order")) } }) ⟨rfl, rfl⟩) fun r s₁ hr => ?_
  cases r with
  | error e => exact hr
  | ok fl =>
    cases fl with
    | ret obj =>
      obtain ⟨rfl, rfl⟩ := hr
      generalize new_is : ({ cls := .type "set", dict := none, data := .set #[] 0 (.fresh 0 0 (!w.params.followText "set-order")) } : Obj) = new
      have at_new : (s.heap.push new).get? s.heap.objs.size = some new := Heap.get?_push_size _ (by rw [← new_is]; rfl)
      have is_set : Shared.TypeIs { s with heap := s.heap.push new } (.ref s.heap.objs.size) "set" := ⟨_, at_new, by rw [← new_is]⟩
      have look_init := PySem.F.called_set.init.lookup
      have bind_init := PySem.F.called_set.init.bind (.ref s.heap.objs.size)
      repeat (any_goals (first | assumption | wp_step))
      refine codeAny_mono (codeAny_call_builtin (R := wants (fun r s₂ => r = .none ∧ ∃ h' tk, s₂ = { s with heap := h', toks := tk } ∧ SetX w h' s.heap.objs.size (seen xs) ∧ (∀ b o, s.heap.get? b = some o → h'.get? b = some o)) E)
        PySem.F.called_set.init.plain PySem.F.entry_set_init (check_set_init_1 is_set ?_)) fun r₂ s₂ hr₂ => ?_
      · obtain ⟨ol, hol, hcl, nl, hdl⟩ := hl
        obtain ⟨ocls, odict, odata, oslots⟩ := ol
        simp only at hcl hdl
        subst hcl; subst hdl
        have at_l : (s.heap.push new).get? l = some { cls := .type "tuple", dict := odict, data := .seq items nl, slots := oslots } := Heap.get?_push_of_some _ hol
        have no_sub := PySem.F.sub_tuple_set
        have no_sub2 := PySem.F.sub_tuple_frozenset
        have no_dict : (Value.type "tuple" == Value.type "dict") = false := by decide
        have is_l : (s.heap.push new).IsTuple l items := ⟨_, at_l, rfl, nl, rfl⟩
        have l_lt : l < s.heap.objs.size := Heap.lt_size hol
        have calm3 : A.in1.in1.in1.handled = none := by simp [hh]
        have ne_it : l ≠ (s.heap.push new).objs.size := by
          rw [Heap.size_push]
          exact Nat.ne_of_lt (Nat.lt_succ_of_lt l_lt)
        have apart : s.heap.objs.size ∉ [(s.heap.push new).objs.size, l] := by
          rw [Heap.size_push]
          intro z
          rcases List.mem_cons.mp z with z | z
          · exact absurd z (Nat.ne_of_lt (Nat.lt_succ_self _))
          · exact absurd (List.mem_singleton.mp z) (Nat.ne_of_gt l_lt)
        subst new_is
        unfold Builtin.«set.__init__» noKeywords Builtin.Frozenset.updateFrom
        generalize iter_is : pyIter = PI
        wp_walk
        subst iter_is
        refine wpAny_pyIter_tuple is_l ?_
        refine wpAny_bind (wpAny_runValue ?_)
        have many : xs.length = items.size := by rw [← StrsAre.len_eq hi, Array.length_toList]
        have texts : ∀ (i : Nat) (v : Value), items[i]? = some v → ∃ t, v = .str (xs.getD i Str.empty) t := fun i v hv => SS.strs_at hi i v (by rw [Array.getElem?_toList]; exact hv)
        refine setX_loop ((Walks.tuple calm3 _ l ne_it items).toS) s.heap.objs.size apart xs many (by omega) texts (items.size - 0) 0 _ (by omega) (Nat.zero_le _) ⟨⟨_, Heap.get?_push_size _ rfl, rfl, rfl⟩, (is_l.push _)⟩ ?start ?finish
        case start =>
          refine ⟨_, #[], 0, .fresh 0 0 (!w.params.followText "set-order"), Heap.get?_push_of_some _ at_new, ⟨rfl, rfl, rfl⟩, rfl, (fun e he => by cases he), List.Perm.refl _, List.nodup_nil, by decide, by rfl, List.Pairwise.nil, ?_⟩
          cases q : w.params.followText "set-order"
          · exact .inr rfl
          · exact .inl rfl
        case finish =>
          intro s' moved set_all
          obtain ⟨h', g', d', tk', os'⟩ := s'
          have eg : g' = s.gens := moved.gens
          have ed : d' = s.drawn := moved.drawn
          have eo : os' = s.os := moved.os
          subst eg; subst ed; subst eo
          show wpAny _ _ _ _ _ _
          refine wpAny_pure ?_
          show wpAny _ _ (ret Value.none) _ _ _
          refine wpAny_pure ⟨rfl, h', tk', rfl, set_all, fun b o e => ?_⟩
          have b_lt := Heap.lt_size e
          refine moved.heap b o (fun z => ?_) (Heap.get?_push_of_some _ (Heap.get?_push_of_some _ e))
          rcases List.mem_cons.mp z with z | z
          · exact absurd z (Nat.ne_of_lt b_lt)
          · have z := List.mem_singleton.mp z
            rw [Heap.size_push] at z
            exact absurd z (Nat.ne_of_lt (Nat.lt_succ_of_lt b_lt))
      · cases r₂ with
        | error e => exact hr₂
        | ok fl₂ =>
          cases fl₂ with
          | ret r =>
            obtain ⟨rfl, h', tk, rfl, set_all, kept⟩ := hr₂
            repeat (any_goals (first | assumption | wp_step))
            exact h _ _ set_all kept
          | _ => exact hr₂.elim
    | _ => exact hr.elim
end
end Rw
end T_S1

section T_S2
set_option Elab.async false
set_option linter.all false
set_option maxRecDepth 100000
set_option maxHeartbeats 4000000
namespace Rw
open PySem PySem.Spec L2 PyProof.Rows
/-! ### the rules over the layer: a set of texts is a thing of its own -/
def SetXO (w : World) (a : Addr) (ks : List Str) : HO := .ext fun h => SetX w h a ks
theorem setXO_ok {P : Program} {w : World} {H : Hp} {h : Heap} {a : Addr} {ks : List Str} (R : SetX w h a ks) : ObjOk P w H h a (SetXO w a ks) := by
  obtain ⟨o, es, ep, t, ho, rest⟩ := R
  exact ⟨⟨o, es, ep, t, ho, rest⟩, ⟨o, ho⟩, fun h1 h2 x k => x.keep k⟩
section
variable {X : Cx}
/-- set(xs), xs a list or a tuple of texts -/
def rSetX (K : PySem.W.Frag) (w : World) : List V → Hp → VK → Prop := fun vs H Q => ∃ (a : Addr) (xs : List Str), vs = [.ref a] ∧ (SqL K H a (xs.map V.str) ∨ SqT K H a (xs.map V.str)) ∧ xs.length < 1000 ∧
  ∀ p, H p = none → Q (.ref p) (upd H p (SetXO w p (seen xs)))
theorem cr_setX (calm : X.calm = true) : CallR X (.type "set") (rSetX X.K X.w) := by
  intro pins s σ H vs us Q I r reading
  obtain ⟨a, xs, rfl, hq, few, q⟩ := reading
  rw [Vals.ref1 r]
  have fin : ∀ (h' : Heap) (tk : Nat), SetX X.w h' s.heap.objs.size (seen xs) → (∀ b o, s.heap.get? b = some o → h'.get? b = some o) → EP X pins σ Q (.ref s.heap.objs.size) { s with heap := h', toks := tk } := fun h' tk R keep =>
    ⟨.ref _, _, I.laid (t' := tk) keep (Nat.le_refl _) (setXO_ok R), rfl, q _ (I.hok.fresh (Nat.le_refl _))⟩
  rcases hq with hq | hq
  · obtain ⟨its, rv, pl, _⟩ := I.list hq
    exact call_setX_list (I.ok.hd calm) pl.isList (by simpa using strsAre_of rv) few fin
  · obtain ⟨its, rv, pl, _⟩ := I.tuple hq
    exact call_setX_tuple (I.ok.hd calm) pl (by simpa using strsAre_of rv) few fin
/-- len(a set of texts) -/
def rLenX (w : World) : List V → Hp → VK → Prop := fun vs H Q => ∃ (a : Addr) (ks : List Str), vs = [.ref a] ∧ H a = some (SetXO w a ks) ∧ Q (.int (ks.length : Int)) H
theorem cr_lenX : CallR X (.builtin "len") (rLenX X.w) := by
  intro pins s σ H vs us Q I r reading
  obtain ⟨a, ks, rfl, ha, q⟩ := reading
  rw [Vals.ref1 r]
  have R : SetX X.w s.heap a ks := (I.hok a _ ha).1
  obtain ⟨o, es, ep, t, ho, hex, hd, hf, hn⟩ := R.size
  have few : es.size < scanBound := by
    obtain ⟨o', es', ep', t', ho', _, hd', _, _, _, hb, _⟩ := R
    rw [ho] at ho'
    cases ho'
    rw [hd] at hd'
    cases hd'
    exact hb
  exact call_len_set ho hex hd hf (by unfold scanBound at few; omega) ⟨.int (ks.length : Int), H, I.tok _, ⟨_, by rw [hn]⟩, q⟩
/-- sorted(a set of texts) -/
def rSortedX (w : World) : List V → Hp → VK → Prop := fun vs H Q => ∃ (a : Addr) (ks : List Str), vs = [.ref a] ∧ H a = some (SetXO w a ks) ∧ ks.length < 64 ∧
  ∀ (ys : List Str) (p : Addr), ys.Perm ks → sortedS ys = true → H p = none → Q (.ref p) (upd H p (.lst (ys.map V.str)))
theorem strs_are : ∀ vs : List Value, (∀ v ∈ vs, ∃ z tk, v = Value.str z tk) → StrsAre vs (vs.map fun v => match v with | .str z _ => z | _ => Str.empty)
  | [], _ => .nil
  | v :: r, h => by
    obtain ⟨z, tk, rfl⟩ := h v List.mem_cons_self
    exact .cons z tk (strs_are r fun u hu => h u (List.mem_cons_of_mem _ hu))
theorem cr_sortedX (calm : X.calm = true) : CallR X (.builtin "sorted") (rSortedX X.w) := by
  intro pins s σ H vs us Q I r reading
  obtain ⟨a, ks, rfl, ha, h64, q⟩ := reading
  rw [Vals.ref1 r]
  have R : SetX X.w s.heap a ks := (I.hok a _ ha).1
  obtain ⟨o, es, ep, t, ho, hex, hd, good, perm, nd, few, fit, rise, order⟩ := R
  refine Calls.call_function_entry kind_sorted plain_sorted entry_sorted (args_sorted1 _) ?_
  unfold Builtin.«sorted»
  refine wpAny_bind (m := checkCount "sorted" 1 1 _) (wpAny_pure ?_)
  refine wpAny_bind (collect_set (A := X.A.in1) (I.ok.hd calm) ⟨o, ho, hex.1, hd⟩ fit few rise order fun s1 out keep grow gens os permo => ?_)
  have texts : StrsAre out (out.map fun v => match v with | .str z _ => z | _ => Str.empty) := strs_are out fun v hv => by
    obtain ⟨e, he, q⟩ := List.mem_map.mp (permo.mem_iff.mp hv)
    obtain ⟨z, tk, h1, _⟩ := good e he
    exact ⟨z, tk, q.symm.trans h1⟩
  have permk : (out.map fun v => match v with | .str z _ => z | _ => Str.empty).Perm ks := by
    have z := permo.map fun v : Value => match v with | .str z _ => z | _ => Str.empty
    rw [List.map_map] at z
    exact z.trans perm
  have len : out.length = ks.length := by rw [← permk.length_eq, List.length_map]
  refine wpAny_bind (wpAny_newList ?_ (by rw [len, sizeLine_eq]; omega))
  have at_l : (s1.heap.push (seqObj "list" out.toArray 0)).get? s1.heap.objs.size = some (seqObj "list" out.toArray 0) := Heap.get?_push_size _ rfl
  refine wpAny_bind (wpAny_holding (wpAny_call_entry slot_list_sort ⟨_, at_l, rfl⟩ entry_list_sort
    (list_sort_treeK strKind_oneLt (s := { s1 with heap := s1.heap.push (seqObj "list" out.toArray 0) }) at_l texts.keysOf (fun v₁ v₂ rest e => keyKind_strs (by rw [← e]; exact texts)) (by rw [len]; exact h64) fun st' hp hs => ⟨_, rfl, ?_⟩)
    (args_list_sort _)))
  obtain ⟨ys, g1, g2, g3⟩ := sorted_out_str texts hp hs
  obtain ⟨c, at_out⟩ := sortedHeap_at (vs := out) (out := (arrOf st').map (·.2)) at_l
  have lenys : (ys.map V.str).length ≤ sizeLine := by rw [List.length_map, g2.length_eq, List.length_map, len, sizeLine_eq]; omega
  have keep2 : ∀ b u, s.heap.get? b = some u → (sortedHeap (s1.heap.push (seqObj "list" out.toArray 0)) s1.heap.objs.size out ((arrOf st').map (·.2))).get? b = some u := fun b u e => by
    have e1 := keep b u e
    have lt := Heap.lt_size e1
    rw [sortedHeap_old (Nat.ne_of_lt lt) (by rw [size_push']; exact Nat.lt_succ_of_lt lt)]
    exact Heap.get?_push_of_some _ e1
  have fresh : H s1.heap.objs.size = none := I.hok.fresh grow
  obtain ⟨h1, g', d1, t1, os1⟩ := s1
  have eg : g' = s.gens := gens
  have eo : os1 = s.os := os
  subst eg; subst eo
  have J : Inv X pins σ (upd H h1.objs.size (.lst (ys.map V.str))) { s with heap := sortedHeap (h1.push (seqObj "list" out.toArray 0)) h1.objs.size out ((arrOf st').map (·.2)), gens := s.gens, drawn := d1, toks := t1 } :=
    I.call (ch := []) (Un.laid keep2 grow fresh) (I.hok.laid keep2 grow ⟨lenys, ((arrOf st').map (·.2)).toList, c, vals_of_strs g1, by rw [Array.toArray_toList]; exact at_out⟩) I.bare (fun _ z => nomatch z)
  exact wpAny_pure ⟨_, rfl, .ref _, _, J, rfl, q ys _ (g2.trans permk) g3 fresh⟩
end
end Rw
end T_S2

section T_V0
set_option Elab.async false
set_option linter.all false
set_option maxRecDepth 100000
set_option maxHeartbeats 2000000
namespace Rw
open PySem PySem.Spec L2 PyProof.Rows
/-! ### list(d.values()) -/
def tValsL (te : TE) : TE := fun σ H Q => te σ H fun x H1 => ∃ (d : Addr) (kvs : List (Key × V)), x = .ref d ∧ Rd H1 d (.dK kvs) ∧ ∀ p, H1 p = none → Q (.ref p) (upd H1 p (.lst (kvs.map (·.2))))
theorem pairs_vals {P : Program} {w : World} {es : List DictEntry} {vs : List (Key × Value)} (h : Pairs (mixKind P w) es vs) : es.map (·.val) = vs.map (·.2) := by
  induction h with
  | nil => rfl
  | cons _ h2 _ ih =>
    rw [List.map_cons, List.map_cons, ih, h2]
theorem vals_snd : ∀ {kvs : List (Key × V)} {vs : List (Key × Value)}, KV kvs vs → Vals (kvs.map (·.2)) (vs.map (·.2))
  | _, _, .nil => .nil
  | _, _, .cons r t => .cons r.2 (vals_snd t)
section
variable {X : Cx} {e : Expr} {te : TE} {p apos cpos pos : Pos}
theorem pe_listVals (calm : X.calm = true) (he : PE X e te) (glob : Gl X "list") (free : X.mg "list" = none) (base : attributeBase e "values" X.env (eval e X.env) = eval e X.env := by rfl) (line : (apos.endLine == cpos.line) = true := by rfl)
    (arg : starEach [.Call (.Attribute e "values" apos) [] [] cpos] X.env = (false, eval (.Call (.Attribute e "values" apos) [] [] cpos) X.env) :: starEach [] X.env := by rfl) :
    PE X (.Call (.Name "list" p) [.Call (.Attribute e "values" apos) [] [] cpos] [] pos) (tValsL te) := by
  constructor
  intro pins s σ H Q I reading
  refine wpAny_Call_Name_kw (ld_blt I glob free (show bootBuiltins "list" = some (.type "list") by decide +kernel) ?_)
  refine PyProof.Rows.callWith_type1 ?_ arg rfl
  rw [arg]
  show wpAny _ _ (spliced ((false, eval (.Call (.Attribute e "values" apos) [] [] cpos) X.env) :: backTo pos (starEach [] X.env))) _ _ s
  refine Calls.spliced_cons ?_
  refine wpAny_Call_method (T := "dict") (id := "dict.values") base rfl line F.plainAttrs_dict F.slot_dict_values F.type_dict_values (thn (he.run pins s σ H _ I reading) ?_)
  rintro u s1 ⟨x, H1, I1, rx, d, kvs, rfl, hd, q⟩
  have u_is : u = Value.ref d := rx
  subst u_is
  obtain ⟨few, low, vs, kv, hdo⟩ := hd.ok I1.hok
  have I2 : Inv X pins σ H1 { s1 with heap := s1.heap.push { cls := .type "dict_values", data := .fields #[.ref d] } } := I1.kept (t' := s1.toks) fun b ob z => Heap.get?_push_of_some _ z
  refine ⟨hdo.typeIs, hdo.mapOf.noDict, ?_⟩
  show wpAny _ _ (callWith cpos (.builtin "dict.values") [.ref d] [] []) _ X.xe s1
  refine method_meetsIn F.slot_dict_values F.entry_dict_values rfl (PySem.evalArgs_none ⟨rfl, hdo.typeIs, F.args_dict_values_1 _, _, meets_dict_values (mixKind X.prog X.w) d low, ⟨vs, hdo⟩, ?_⟩)
  refine Calls.spliced_nil ?_
  obtain ⟨o, es, ep, ho, exact_, hdat, keys, prs, nd⟩ := hdo
  have esz : es.size = vs.length := by
    have := prs.length
    simpa using this
  have lk : kvs.length = vs.length := Paired.length kv
  refine PySem.W.kdl_call (KdlSrc.rawValues (es := es) (ep := ep) (d := d)) (I1.ok.hd calm) ⟨⟨_, Heap.get?_push_size _ rfl, rfl, rfl⟩, ⟨o, Heap.get?_push_of_some _ ho, exact_, hdat⟩⟩ (by omega) fun h' tk acc c keep at_p got => ?_
  have fresh : H1 s1.heap.objs.size = none := I1.hok.fresh (Nat.le_refl _)
  have fresh2 : H1 (s1.heap.push { cls := .type "dict_values", data := .fields #[.ref d] }).objs.size = none := I1.hok.fresh (by rw [Heap.size_push]; exact Nat.le_succ _)
  have acc_is : acc.toList = vs.map (·.2) := by
    rw [← pairs_vals prs]
    obtain ⟨g1, g2⟩ := got
    refine List.ext_getElem (by rw [List.length_map, Array.length_toList, Array.length_toList, g1]) fun j h1 h2 => ?_
    have z : acc[j]? = some acc.toList[j] := by rw [← Array.getElem?_toList, List.getElem?_eq_getElem h1]
    obtain ⟨hj, e⟩ := g2 j _ z
    rw [e, List.getElem_map, Array.getElem_toList]
  refine ⟨.ref _, _, I2.laid (t' := tk) keep (Nat.le_refl _) ?_, rfl, q _ fresh2⟩
  exact ⟨by rw [List.length_map]; exact few, acc.toList, c, by rw [acc_is]; exact vals_snd kv, by simpa using at_p⟩
end
end Rw
end T_V0

section T_P0
set_option Elab.async false
set_option linter.all false
set_option maxRecDepth 100000
set_option maxHeartbeats 2000000
namespace Rw
open PySem L2 PyProof.Rows
/-! ### lists of True -/
section
variable {K : PySem.W.Frag} {a D : Addr} {xs : List V} {g : TG} {tt : TT} {te : TE} {vs : List Nat} {σ : L2.St} {H : Hp} {Qd : Hp → Prop}
theorem lc_trues (hx : SqL K H a xs) (hD : H D = none) (hl : xs.length < 1000)
    (turn : ∀ (i : Nat) (x : V) (H1 : Hp) (Q : VK) (R : Hp → Prop), xs[i]? = some x → Evl.Ex H H1 → (∀ H4, Evl.Ex H1 H4 → Q (.bl true) H4) → g x (wipe σ vs) H1 fun σ2 H2 => wipe σ2 vs = wipe σ vs ∧ tt σ2 H2 fun b H3 => if b = true then te σ2 H3 Q else R H3)
    (fin : ∀ H1, Evl.Ex H H1 → H1 D = some (.lst ((List.replicate xs.length true).map V.bl)) → Qd H1) :
    ∃ W : Nat → Nat → Hp → Prop, (∃ m, W 0 m (upd H D (.lst []))) ∧ ∀ i m H1, W i m H1 →
      ((Itl K a).stop i H1 ∧ Qd H1) ∨ ((Itl K a).go i H1 ∧ ∃ Nx : Hp → Prop, (∀ H', Nx H' → ∃ m', m' < m ∧ W (i + 1) m' H') ∧ ∀ x H', (Itl K a).yld i H1 x H' → g x (wipe σ vs) H' fun σ2 H2 => wipe σ2 vs = wipe σ vs ∧ tt σ2 H2 fun b H3 =>
        if b = true then te σ2 H3 fun y H4 => ∃ acc, H4 D = some (.lst acc) ∧ acc.length < sizeLine ∧ Nx (upd H4 D (.lst (acc ++ [y]))) else Nx H3) := by
  refine lc_list (K := K) (a := a) (xs := xs) (fun i H1 => i ≤ xs.length ∧ Evl.Ex H H1 ∧ H1 D = some (.lst ((List.replicate i true).map V.bl))) ⟨Nat.zero_le _, Evl.Ex.new hD, upd_same⟩ (fun i H1 _ h => Evl.ex_l h.2.1 hx) ?_ (fun H1 h => fin H1 h.2.1 h.2.2)
  rintro i x H1 hi ⟨_, e1, d1⟩
  have hil : i < xs.length := (List.getElem?_eq_some_iff.mp hi).1
  refine turn i x H1 _ _ hi e1 fun H4 e4 => ⟨_, e4 _ _ d1, ?_, hil, (e1.trans e4).mut hD, ?_⟩
  · rw [List.length_map, List.length_replicate]
    exact small1000 (by omega)
  · rw [upd_same, List.replicate_succ', List.map_append]
    rfl
theorem lc_truesT (hx : SqT K H a xs) (hD : H D = none) (hl : xs.length < 1000)
    (turn : ∀ (i : Nat) (x : V) (H1 : Hp) (Q : VK) (R : Hp → Prop), xs[i]? = some x → Evl.Ex H H1 → (∀ H4, Evl.Ex H1 H4 → Q (.bl true) H4) → g x (wipe σ vs) H1 fun σ2 H2 => wipe σ2 vs = wipe σ vs ∧ tt σ2 H2 fun b H3 => if b = true then te σ2 H3 Q else R H3)
    (fin : ∀ H1, Evl.Ex H H1 → H1 D = some (.lst ((List.replicate xs.length true).map V.bl)) → Qd H1) :
    ∃ W : Nat → Nat → Hp → Prop, (∃ m, W 0 m (upd H D (.lst []))) ∧ ∀ i m H1, W i m H1 →
      ((Itt K a).stop i H1 ∧ Qd H1) ∨ ((Itt K a).go i H1 ∧ ∃ Nx : Hp → Prop, (∀ H', Nx H' → ∃ m', m' < m ∧ W (i + 1) m' H') ∧ ∀ x H', (Itt K a).yld i H1 x H' → g x (wipe σ vs) H' fun σ2 H2 => wipe σ2 vs = wipe σ vs ∧ tt σ2 H2 fun b H3 =>
        if b = true then te σ2 H3 fun y H4 => ∃ acc, H4 D = some (.lst acc) ∧ acc.length < sizeLine ∧ Nx (upd H4 D (.lst (acc ++ [y]))) else Nx H3) := by
  refine lc_tup (K := K) (a := a) (xs := xs) (fun i H1 => i ≤ xs.length ∧ Evl.Ex H H1 ∧ H1 D = some (.lst ((List.replicate i true).map V.bl))) ⟨Nat.zero_le _, Evl.Ex.new hD, upd_same⟩ (fun i H1 _ h => Evl.ex_t h.2.1 hx) ?_ (fun H1 h => fin H1 h.2.1 h.2.2)
  rintro i x H1 hi ⟨_, e1, d1⟩
  have hil : i < xs.length := (List.getElem?_eq_some_iff.mp hi).1
  refine turn i x H1 _ _ hi e1 fun H4 e4 => ⟨_, e4 _ _ d1, ?_, hil, (e1.trans e4).mut hD, ?_⟩
  · rw [List.length_map, List.length_replicate]
    exact small1000 (by omega)
  · rw [upd_same, List.replicate_succ', List.map_append]
    rfl
end
theorem lc_truesW {J : It} {n : Nat} {G : Hp → Prop} {Yx : Nat → V → Prop} {D : Addr} {g : TG} {tt : TT} {te : TE} {vs : List Nat} {σ : L2.St} {H : Hp} {Qd : Hp → Prop} (wk : Walk J n G (fun i H x H' => H' = H ∧ Yx i x)) (hG : ∀ H1, Evl.Ex H H1 → G H1) (hD : H D = none) (hl : n < 1000)
    (turn : ∀ (i : Nat) (x : V) (H1 : Hp) (Q : VK) (R : Hp → Prop), i < n → Yx i x → Evl.Ex H H1 → (∀ H4, Evl.Ex H1 H4 → Q (.bl true) H4) → g x (wipe σ vs) H1 fun σ2 H2 => wipe σ2 vs = wipe σ vs ∧ tt σ2 H2 fun b H3 => if b = true then te σ2 H3 Q else R H3)
    (fin : ∀ H1, Evl.Ex H H1 → H1 D = some (.lst ((List.replicate n true).map V.bl)) → Qd H1) :
    ∃ W : Nat → Nat → Hp → Prop, (∃ m, W 0 m (upd H D (.lst []))) ∧ ∀ i m H1, W i m H1 →
      (J.stop i H1 ∧ Qd H1) ∨ (J.go i H1 ∧ ∃ Nx : Hp → Prop, (∀ H', Nx H' → ∃ m', m' < m ∧ W (i + 1) m' H') ∧ ∀ x H', J.yld i H1 x H' → g x (wipe σ vs) H' fun σ2 H2 => wipe σ2 vs = wipe σ vs ∧ tt σ2 H2 fun b H3 =>
        if b = true then te σ2 H3 fun y H4 => ∃ acc, H4 D = some (.lst acc) ∧ acc.length < sizeLine ∧ Nx (upd H4 D (.lst (acc ++ [y]))) else Nx H3) := by
  refine lc_it wk (fun i H1 => i ≤ n ∧ Evl.Ex H H1 ∧ H1 D = some (.lst ((List.replicate i true).map V.bl))) ⟨Nat.zero_le _, Evl.Ex.new hD, upd_same⟩ (fun i H1 _ h => hG H1 h.2.1) ?_ (fun H1 h => fin H1 h.2.1 h.2.2)
  rintro i x H1 H1' hi ⟨_, e1, d1⟩ ⟨rfl, hy⟩
  refine turn i x H1' _ _ hi hy e1 fun H4 e4 => ⟨_, e4 _ _ d1, ?_, hi, (e1.trans e4).mut hD, ?_⟩
  · rw [List.length_map, List.length_replicate]
    exact small1000 (by omega)
  · rw [upd_same, List.replicate_succ', List.map_append]
    rfl
theorem all_trues (n : Nat) : (List.replicate n true).all id = true := by
  induction n with
  | zero => rfl
  | succ n ih => rw [List.replicate_succ, List.all_cons, ih]; rfl
theorem sign_le {a b : Nat} (h : a ≤ b) : (!decide (([b] : List Nat) < [a])) = true := by
  have n : ¬ (([b] : List Nat) < [a]) := by
    rw [List.cons_lt_cons_iff]
    rintro (q | ⟨_, q⟩)
    · omega
    · exact absurd q (List.lt_irrefl _)
  rw [decide_eq_false n]
  rfl
/-- a list or a tuple of these texts -/
def SqS (K : PySem.W.Frag) (H : Hp) (a : Addr) (zs : List Str) : Prop := SqL K H a (zs.map V.str) ∨ SqT K H a (zs.map V.str)
theorem SqS.ex {K : PySem.W.Frag} {H H' : Hp} {a : Addr} {zs : List Str} (h : SqS K H a zs) (e : Evl.Ex H H') : SqS K H' a zs := h.imp (Evl.ex_l e) (Evl.ex_t e)
theorem SqS.sq {K : PySem.W.Frag} {H : Hp} {a : Addr} {zs : List Str} (h : SqS K H a zs) : SqL K H a (zs.map V.str) ∨ SqT K H a (zs.map V.str) := h
theorem ty_sl {K : PySem.W.Frag} {H : Hp} {a : Addr} {xs : List V} (h : SqL K H a xs) : TyX K H (.ref a) (.type "list") := by
  rcases h with (q | ⟨o, q⟩) | ⟨o, its, n, e, c, _⟩
  · exact .base (.lst q)
  · exact .base (.frz q)
  · exact .kList e c
theorem ty_st {K : PySem.W.Frag} {H : Hp} {a : Addr} {xs : List V} (h : SqT K H a xs) : TyX K H (.ref a) (.type "tuple") := by
  rcases h with (q | ⟨o, q⟩) | ⟨o, its, n, e, c, _⟩
  · exact .base (.tup q)
  · exact .fTuple q
  · exact .kTuple e c
/-- an answer True, all else as it was -/
def spYes (pre : List V → Hp → Prop) (n : Nat) : Sp := fun vs H Q _ => vs.length = n ∧ pre vs H ∧ ∀ H', Evl.Ex H H' → Q (.bl true) H'
/-- a list or a tuple of names that is tracked -/
def SqH (H : Hp) (a : Addr) (zs : List Str) : Prop := H a = some (.lst (zs.map V.str)) ∨ H a = some (.tup (zs.map V.str))
theorem SqH.ex {H H' : Hp} {a : Addr} {zs : List Str} (h : SqH H a zs) (e : Evl.Ex H H') : SqH H' a zs := h.imp (e _ _) (e _ _)
theorem SqH.k {K : PySem.W.Frag} {H : Hp} {a : Addr} {zs : List Str} (h : SqH H a zs) : SqS K H a zs := h.imp Evl.sq_of Evl.st_of
end Rw
end T_P0

section T_N0
set_option Elab.async false
set_option linter.all false
set_option maxRecDepth 100000
set_option maxHeartbeats 1000000
namespace Rw
open PySem PySem.Spec L2 PyProof.Rows
/-! ### one ascending order -/
def TLe (a b : Str) : Prop := a.cps.toList ≤ b.cps.toList
theorem rising_pair : ∀ (r : List Str) (p : Str), risingS p r = true → (p :: r).Pairwise TLe
  | [], p, _ => List.pairwise_singleton _ _
  | x :: r, p, h => by
    have h' : (!ltCps x.cps.toList p.cps.toList && risingS x r) = true := h
    rw [Bool.and_eq_true] at h'
    have ih := rising_pair r x h'.2
    have px : TLe p x := by
      have z := h'.1
      rw [ltCps_eq] at z
      show ¬ (x.cps.toList < p.cps.toList)
      intro q
      rw [decide_eq_true q] at z
      cases z
    refine List.pairwise_cons.mpr ⟨fun y hy => ?_, ih⟩
    rcases List.mem_cons.mp hy with rfl | hy
    · exact px
    · exact List.le_trans px ((List.pairwise_cons.mp ih).1 y hy)
theorem sorted_pair {l : List Str} (h : sortedS l = true) : l.Pairwise TLe := by
  cases l with
  | nil => exact List.Pairwise.nil
  | cons x r => exact rising_pair r x h
theorem sorted_uniq {xs ys : List Str} (hx : sortedS xs = true) (hy : sortedS ys = true) (hp : xs.Perm ys) : xs = ys :=
  List.Perm.eq_of_pairwise (le := TLe) (fun a b _ _ h1 h2 => by
    have e : a.cps.toList = b.cps.toList := List.le_antisymm h1 h2
    rw [← SX.S_tl a, ← SX.S_tl b, e]) (sorted_pair hx) (sorted_pair hy) hp
/-! ### nets -/
/-- a table in the order of these names -/
def canon (dots : List Str) (tb : List (Str × V)) : List (Str × V) := dots.map fun z => (z, (valV (tkv tb) (Sum.inr z)).getD .non)
theorem canon_keys (dots : List Str) (tb : List (Str × V)) : (canon dots tb).map (·.1) = dots := by
  unfold canon
  rw [List.map_map]
  exact List.map_id _
theorem canon_ok {dots : List Str} {e : Str} {tb : List (Str × V)} (h : TabOk dots e tb) : TabOk dots e (canon dots tb) := by
  refine ⟨by rw [canon_keys], fun q hq => ?_⟩
  unfold canon at hq
  obtain ⟨z, hz, rfl⟩ := List.mem_map.mp hq
  obtain ⟨v, hv, hm⟩ := tkv_some (tb := tb) (z := z) (h.ks.mem_iff.mpr hz)
  show PlaceOk dots e z ((valV (tkv tb) (Sum.inr z)).getD .non)
  rw [hv]
  exact h.ps _ hm
theorem canon_get {dots : List Str} {tb : List (Str × V)} {z : Str} (hz : z ∈ dots) : valV (tkv (canon dots tb)) (Sum.inr z) = some ((valV (tkv tb) (Sum.inr z)).getD .non) := by
  induction dots with
  | nil => cases hz
  | cons y r ih =>
    show valV ((Sum.inr y, (valV (tkv tb) (Sum.inr y)).getD .non) :: tkv (canon r tb)) (Sum.inr z) = _
    by_cases e : y = z
    · subst e
      exact valV_pos (p := ((Sum.inr y : Key), (valV (tkv tb) (Sum.inr y)).getD .non)) rfl
    · rw [valV_neg (fun w => e (Sum.inr.inj w))]
      exact ih ((List.mem_cons.mp hz).resolve_left fun w => e w.symm)
/-- the rows of a model, told by functions -/
def RowsAt (H : Hp) (ends dots : List Str) (rows : List (Str × V)) (o n : Str → List (Str × V)) : Prop :=
  ∀ e ∈ ends, ∃ p po pn : Addr, valV (tkv rows) (Sum.inr e) = some (.ref p) ∧ PairAt H dots e p po pn (o e) (n e)
theorem RowsAt.ex {H H' : Hp} {ends dots : List Str} {rows : List (Str × V)} {o n : Str → List (Str × V)} (h : RowsAt H ends dots rows o n) (x : Evl.Ex H H') : RowsAt H' ends dots rows o n := fun e he => by
  obtain ⟨p, po, pn, h1, h2⟩ := h e he
  exact ⟨p, po, pn, h1, h2.ex x⟩
theorem RowsAt.of {H : Hp} {ends dots : List Str} {rows : List (Str × V)} (h : RowsOk H dots rows) (hk : rows.map (·.1) = ends) : ∃ o n : Str → List (Str × V), RowsAt H ends dots rows o n := by
  have all : ∀ e : Str, ∃ t : List (Str × V) × List (Str × V), e ∈ ends → ∃ p po pn : Addr, valV (tkv rows) (Sum.inr e) = some (.ref p) ∧ PairAt H dots e p po pn t.1 t.2 := fun e => by
    by_cases he : e ∈ ends
    · obtain ⟨v, hv1, hv2⟩ := tkv_some (tb := rows) (z := e) (by rw [hk]; exact he)
      obtain ⟨p, po, pn, t1, t2, e1, pa⟩ := h _ hv2
      have e1' : v = .ref p := e1
      subst e1'
      exact ⟨(t1, t2), fun _ => ⟨p, po, pn, hv1, pa⟩⟩
    · exact ⟨([], []), fun q => absurd q he⟩
  refine ⟨fun e => (Classical.choose (all e)).1, fun e => (Classical.choose (all e)).2, fun e he => Classical.choose_spec (all e) he⟩
def nflds (T N S P : Addr) : List (Str × V) := [("_tables", .ref T), ("_nodes", .ref N), ("_sources", .ref S), ("_posts", .ref P)]
theorem nflds_tables (T N S P : Addr) : (nflds T N S P).lookup ("_tables" : Str) = some (.ref T) := by kernel_rfl
theorem nflds_nodes (T N S P : Addr) : (nflds T N S P).lookup ("_nodes" : Str) = some (.ref N) := by kernel_rfl
theorem nflds_sources (T N S P : Addr) : (nflds T N S P).lookup ("_sources" : Str) = some (.ref S) := by kernel_rfl
theorem nflds_posts (T N S P : Addr) : (nflds T N S P).lookup ("_posts" : Str) = some (.ref P) := by kernel_rfl
/-- a net stands at m -/
structure NetAt (C : Addr) (H : Hp) (m : Addr) (ends dots ss ps : List Str) (o n : Str → List (Str × V)) : Prop where
  ex : ∃ (dx T N S P : Addr) (rows : List (Str × V)), H m = some (.ins C dx (nflds T N S P)) ∧ H T = some (.dK (tkv rows)) ∧ H N = some (.tup (dots.map V.str)) ∧ H S = some (.tup (ss.map V.str)) ∧ H P = some (.tup (ps.map V.str)) ∧
    rows.map (·.1) = ends ∧ RowsAt H ends dots rows (fun e => canon dots (o e)) (fun e => canon dots (n e))
theorem NetAt.to {C : Addr} {H H' : Hp} {m : Addr} {ends dots ss ps : List Str} {o n : Str → List (Str × V)} (h : NetAt C H m ends dots ss ps o n) (x : Evl.Ex H H') : NetAt C H' m ends dots ss ps o n := by
  obtain ⟨dx, T, N, S, P, rows, h1, h2, h3, h4, h5, h6, h7⟩ := h
  exact ⟨dx, T, N, S, P, rows, x _ _ h1, x _ _ h2, x _ _ h3, x _ _ h4, x _ _ h5, h6, h7.ex x⟩
theorem ex_none {H H' : Hp} {p : Addr} (x : Evl.Ex H H') (h : H' p = none) : H p = none := by
  cases q : H p with
  | none => rfl
  | some u => rw [x _ _ q] at h; cases h
/-- what H' has behind H -/
def rest (H H' : Hp) : Hp := fun a => match H a with | none => H' a | some _ => none
theorem rest_of {H H' : Hp} {a : Addr} {o : HO} (h0 : H a = none) (h : H' a = some o) : rest H H' a = some o := by
  unfold rest
  rw [h0]
  exact h
theorem rest_ex (H H' : Hp) : Evl.Ex (rest H H') H' := fun a o h => by
  unfold rest at h
  cases e : H a with
  | none => rw [e] at h; exact h
  | some _ => rw [e] at h; cases h
theorem rest_off {d g c : Addr} {H H' : Hp} (D : DrawAt H d g c) : Evl.Ex (rest H H') (off d g H') := fun a o h => by
  have h' := rest_ex H H' a o h
  refine off_of h' (fun z => ?_) (fun z => ?_)
  · subst z
    obtain ⟨r, t, hd⟩ := D.ex
    unfold rest at h
    rw [hd] at h
    cases h
  · subst z
    obtain ⟨gs, hg⟩ := D.gl
    unfold rest at h
    rw [hg] at h
    cases h
theorem rest_mono {H H1 H2 : Hp} (e : Evl.Ex H1 H2) : Evl.Ex (rest H H1) (rest H H2) := fun a o h => by
  unfold rest at h ⊢
  cases q : H a with
  | none => rw [q] at h; exact e a o h
  | some _ => rw [q] at h; cases h
theorem nf1 (T : Addr) : putF "_tables" (.ref T) [] = ([("_tables", .ref T)] : List (Str × V)) := rfl
theorem nf2 (T N : Addr) : putF "_nodes" (.ref N) [("_tables", .ref T)] = ([("_tables", .ref T), ("_nodes", .ref N)] : List (Str × V)) := by kernel_rfl
theorem nf3 (T N S : Addr) : putF "_sources" (.ref S) [("_tables", .ref T), ("_nodes", .ref N)] = ([("_tables", .ref T), ("_nodes", .ref N), ("_sources", .ref S)] : List (Str × V)) := by kernel_rfl
theorem nf4 (T N S P : Addr) : putF "_posts" (.ref P) [("_tables", .ref T), ("_nodes", .ref N), ("_sources", .ref S)] = nflds T N S P := by kernel_rfl
theorem nf1_get (T : Addr) : ([("_tables", .ref T)] : List (Str × V)).lookup ("_tables" : Str) = some (.ref T) := by kernel_rfl
theorem canon_snoc (l : List Str) (z : Str) (tb : List (Str × V)) : canon (l ++ [z]) tb = canon l tb ++ [(z, (valV (tkv tb) (Sum.inr z)).getD .non)] := by
  unfold canon
  rw [List.map_append]
  rfl
/-- {node: table[node] for node in nodes}, the table in slot i -/
theorem dc_canon {K : PySem.W.Frag} {N po D : Addr} {dots : List Str} {e : Str} {tb : List (Str × V)} {σ : L2.St} {i j : Nat} {H : Hp} {Qd : Hp → Prop} (hN : H N = some (.tup (dots.map V.str))) (hpo : H po = some (.dK (tkv tb))) (ok : TabOk dots e tb) (nd : dots.Nodup) (few : dots.length ≤ 100) (hD : H D = none)
    (slot : ∀ x : V, ((wipe σ [j]).set j (some x))[i]? = some (some (.ref po))) (own : ∀ x : V, ((wipe σ [j]).set j (some x))[j]? = some (some x)) (wiped : ∀ x : V, wipe ((wipe σ [j]).set j (some x)) [j] = wipe σ [j]) (fin : Qd (upd H D (.dK (tkv (canon dots tb))))) :
    ∃ W : Nat → Nat → Hp → Prop, (∃ m, W 0 m (upd H D (.dK []))) ∧ ∀ k m H1, W k m H1 →
      ((Itt K N).stop k H1 ∧ Qd H1) ∨ ((Itt K N).go k H1 ∧ ∃ Nx : Hp → Prop, (∀ H', Nx H' → ∃ m', m' < m ∧ W (k + 1) m' H') ∧ ∀ x H', (Itt K N).yld k H1 x H' → gName j x (wipe σ [j]) H' fun σ2 H2 => wipe σ2 [j] = wipe σ [j] ∧ tYes σ2 H2 fun b H3 =>
        if b = true then tVar j σ2 H3 fun y H4 => tDGet (tVar i) (tVar j) σ2 H4 fun z H5 => ∃ kvs k, y = kV k ∧ H5 D = some (.dK kvs) ∧ kvs.length < sizeLine ∧ Nx (upd H5 D (.dK (putK kvs k z))) else Nx H3) := by
  refine dc_tup (K := K) (a := N) (xs := dots.map V.str) (fun k H' => H' = upd H D (.dK (tkv (canon (dots.take k) tb)))) rfl (fun k H' _ h => by rw [h]; exact Evl.st_of (Evl.Ex.new hD _ _ hN)) ?_ ?_
  · rintro k x H1 hk rfl
    obtain ⟨z, hz, rfl⟩ := str_at hk
    have hkl : k < dots.length := (List.getElem?_eq_some_iff.mp hz).1
    have et : dots.take (k + 1) = dots.take k ++ [z] := by rw [List.take_add_one, hz]; rfl
    have zn : z ∉ dots.take k := fun hm => by
      have h1 : (dots.take (k + 1)).Nodup := nd.sublist (List.take_sublist _ _)
      rw [et] at h1
      exact (List.nodup_append.mp h1).2.2 z hm z (List.mem_singleton.mpr rfl) rfl
    obtain ⟨v, hv, _⟩ := tkv_some (tb := tb) (z := z) (ok.ks.mem_iff.mpr (List.mem_of_getElem? hz))
    refine ⟨wiped _, ?_⟩
    refine yes_if ?_
    have gt : DGet (upd H D (.dK (tkv (canon (dots.take k) tb)))) po (.str z) (some v) := by
      have q := DGet.k (k := Sum.inr z) (Evl.Ex.new (o := .dK (tkv (canon (dots.take k) tb))) hD _ _ hpo)
      rw [hv] at q
      exact q
    refine ⟨.str z, own _, .ref po, slot _, .str z, own _, po, v, rfl, gt, tkv (canon (dots.take k) tb), Sum.inr z, rfl, upd_same, ?_, ?_⟩
    · rw [tkv_len]
      unfold canon
      rw [List.length_map, List.length_take]
      exact small1000 (by omega)
    · rw [upd_upd, tkv_new (by rw [canon_keys]; exact zn), et, canon_snoc, hv]
      rfl
  · rintro H1 rfl
    rw [List.length_map, List.take_length]
    exact fin
/-- Net.__init__ of a model's parts -/
def spInit (C : Addr) : Sp := fun vs H Q _ => ∃ (Hb : Hp) (m dx t s p : Addr) (ends dots ss ps : List Str) (rows : List (Str × V)) (o n : Str → List (Str × V)), vs = [.ref m, .ref t, .ref s, .ref p] ∧ Hb m = none ∧ Evl.Ex Hb H ∧ H m = some (.ins C dx []) ∧
  Hb t = some (.dK (tkv rows)) ∧ (rows.map (·.1)).Perm ends ∧ RowsOk Hb dots rows ∧ RowsAt Hb ends dots rows o n ∧ SqH Hb s ss ∧ SqH Hb p ps ∧ ModelOk ends dots ss ps ∧
  ∀ H', Evl.Ex Hb H' → (∀ Hz, Evl.Ex (rest Hb H') Hz → (Hb p = some (.tup (ps.map V.str)) → Hz p = some (.tup (ps.map V.str))) → NetAt C Hz m ends dots ss ps o n) → Q .non H'
end Rw
end T_N0

section T_TV
set_option Elab.async false
set_option linter.all false
namespace Rw
open PySem PySem.Spec L2 PyProof.Rows
def setV (t : List (Str × V)) (z : Str) (v : V) : List (Str × V) := t.map fun q => if q.1 = z then (q.1, v) else q
theorem setV_keys (t : List (Str × V)) (z : Str) (v : V) : (setV t z v).map (·.1) = t.map (·.1) := by
  unfold setV
  rw [List.map_map]
  refine List.map_congr_left fun q _ => ?_
  show (if q.1 = z then (q.1, v) else q).1 = q.1
  split <;> rfl
theorem setV_put {t : List (Str × V)} {z : Str} (v : V) (h : z ∈ t.map (·.1)) : putK (tkv t) (Sum.inr z) v = tkv (setV t z v) := by
  obtain ⟨u, hu, _⟩ := tkv_some h
  have a : ((tkv t).any fun kv => decide (kv.1 = Sum.inr z)) = true := by rw [valV_any, hu]; rfl
  unfold putK
  rw [if_pos a]
  unfold tkv setV
  rw [List.map_map, List.map_map]
  refine List.map_congr_left fun q _ => ?_
  show (if (Sum.inr q.1 : Key) = Sum.inr z then ((Sum.inr q.1 : Key), v) else (Sum.inr q.1, q.2)) = (Sum.inr (if q.1 = z then (q.1, v) else q).1, (if q.1 = z then (q.1, v) else q).2)
  by_cases e : q.1 = z
  · rw [if_pos e, if_pos (by rw [e])]
  · rw [if_neg e, if_neg (fun w => e (Sum.inr.inj w))]
theorem setV_get {t : List (Str × V)} {z y : Str} {v : V} (h : z ∈ t.map (·.1)) : valV (tkv (setV t z v)) (Sum.inr y) = if y = z then some v else valV (tkv t) (Sum.inr y) := by
  rw [← setV_put v h, valV_put]
  by_cases e : y = z
  · rw [if_pos e, if_pos (by rw [e])]
  · rw [if_neg e, if_neg (fun w => e (Sum.inr.inj w))]
theorem setV_ok {dots : List Str} {e z : Str} {t : List (Str × V)} {v : V} (h : TabOk dots e t) (hv : PlaceOk dots e z v) : TabOk dots e (setV t z v) := by
  refine ⟨by rw [setV_keys]; exact h.ks, fun q hq => ?_⟩
  unfold setV at hq
  obtain ⟨u, hu, rfl⟩ := List.mem_map.mp hq
  by_cases e' : u.1 = z
  · rw [if_pos e', e']
    exact hv
  · rw [if_neg e']
    exact h.ps u hu
theorem sort_ex (l : List Str) : ∃ ys : List Str, ys.Perm l ∧ sortedS ys = true := by
  have tr : ∀ a b c : Str, (!decide (b.cps.toList < a.cps.toList)) = true → (!decide (c.cps.toList < b.cps.toList)) = true → (!decide (c.cps.toList < a.cps.toList)) = true := fun a b c h1 h2 => by
    simp only [Bool.not_eq_true', decide_eq_false_iff_not] at h1 h2 ⊢
    exact List.not_lt.mpr (List.le_trans (List.not_lt.mp h1) (List.not_lt.mp h2))
  have tt : ∀ a b : Str, ((!decide (b.cps.toList < a.cps.toList)) || (!decide (a.cps.toList < b.cps.toList))) = true := fun a b => by
    by_cases h : b.cps.toList < a.cps.toList
    · rw [decide_eq_true h, decide_eq_false (List.lt_asymm h)]
      rfl
    · rw [decide_eq_false h]
      rfl
  refine ⟨l.mergeSort fun a b => !decide (b.cps.toList < a.cps.toList), List.mergeSort_perm _ _, sortedS_of_pairwise _ ?_⟩
  refine (List.pairwise_mergeSort tr tt l).imp fun {a b} h => ?_
  rw [ltCps_eq]
  simpa using h
/-- a new object behind the draws -/
theorem off_new {d g c : Addr} {H H' : Hp} {p : Addr} {o : HO} (D : DrawAt H' d g c) (x : Evl.Ex (off d g H) (off d g H')) (h : H' p = none) : DrawAt (upd H' p o) d g c ∧ Evl.Ex (off d g H) (off d g (upd H' p o)) ∧ off d g (upd H' p o) p = some o ∧ off d g H p = none ∧ Evl.Ex (off d g H') (off d g (upd H' p o)) :=
  ⟨D.new h, x.trans (off_ex (Evl.Ex.new h)), off_of upd_same (D.ned h).1 (D.ned h).2.1, ex_none x (off_free h), off_ex (Evl.Ex.new h)⟩
/-- an object of one's own, changed -/
theorem off_put {d g c : Addr} {H H' : Hp} {p : Addr} {o u : HO} (D : DrawAt H' d g c) (x : Evl.Ex (off d g H) (off d g H')) (h : off d g H p = none) (hp : off d g H' p = some u) (hc : p ≠ c) : DrawAt (upd H' p o) d g c ∧ Evl.Ex (off d g H) (off d g (upd H' p o)) ∧ off d g (upd H' p o) p = some o := by
  have z := off_some hp
  refine ⟨D.mut z.1 z.2.1 hc, fun a v ha => ?_, off_of upd_same z.1 z.2.1⟩
  have y := off_some (x a v ha)
  refine off_of ?_ y.1 y.2.1
  rw [upd_ne (fun e => by rw [e, h] at ha; cases ha)]
  exact y.2.2
theorem off_up {d g : Addr} {H' : Hp} {p a : Addr} {o u : HO} (h : off d g H' a = some u) (ne : a ≠ p) : off d g (upd H' p o) a = some u := by
  have z := off_some h
  exact off_of (by rw [upd_ne ne]; exact z.2.2) z.1 z.2.1
theorem draw_c {d g c : Addr} {H : Hp} {p : Addr} {o : HO} (D : DrawAt H d g c) (h : off d g H p = some o) (no : ∀ xs, o ≠ .lst xs) : p ≠ c := fun e => by
  obtain ⟨cs, hc⟩ := D.cl
  rw [e] at h
  have := (off_some h).2.2
  rw [hc] at this
  cases this
  exact no _ rfl
end Rw
end T_TV

section T_V1
set_option Elab.async false
set_option linter.all false
set_option maxRecDepth 100000
set_option maxHeartbeats 2000000
namespace Rw
open PySem PySem.Spec PySem.W L2 PyProof.Rows
/-! ### tuple(d) of a dict: its keys -/
section
variable {prog : Program} {w : World} {A : Around} {EX : Value → Shared → Prop} {s : Shared} {r d : Addr} {T : String} {n : Nat} {Pk : Nat → Value → Prop} {Fine : Heap → Prop}
theorem collect_src {Q : List Value → Shared → Prop} (src : KdlSrc prog w T r d n Pk Fine) (calm : A.handled = none) (fine : Fine s.heap) (few : n ≤ sizeLine)
    (wish : ∀ (h' : Heap) (tk : Nat) (acc : Array Value), (∀ b o, s.heap.get? b = some o → h'.get? b = some o) → ItemsOf Pk acc n → Q acc.toList { s with heap := h', toks := tk }) :
    wpAny (model prog w) A (collect (.ref r)) Q EX s := by
  unfold collect
  refine wpAny_bind (wpAny_runValue (codeAny_builtin PySem.F.entry_proto_collect ?_))
  rw [Around.under_plainId PySem.F.plain_proto_collect _]
  show wpAny _ A.in1 (newList [] >>= fun l => again (.builtin "list.__iadd__" ⟨[l, .ref r], []⟩)) _ _ s
  refine wpAny_bind (wpAny_newObj_type ?_)
  refine wpAny_pure ⟨plainId_quiet PySem.F.plain_list_iadd _, codeAny_builtin PySem.F.entry_list_iadd ?_⟩
  rw [Around.under_plainId PySem.F.plain_list_iadd _]
  show wpAny _ A.in1 (Builtin.List.listExtendWith (.ref s.heap.objs.size) (.ref r) (.ref s.heap.objs.size)) _ _ _
  have made : (s.heap.push { cls := .type "list", data := .seq ([] : List Value).toArray }).get? s.heap.objs.size = some { cls := .type "list", data := .seq #[] 0 } := Heap.get?_push_size _ rfl
  have below := src.there _ fine
  refine wpAny_mono (kdl_extend (A := A) (R := fun rr s' => rr = .ok (.ret (.ref s.heap.objs.size)) ∧ ∃ (h' : Heap) (tk : Nat) (acc : Array Value) (c' : Nat), s' = { s with heap := h', toks := tk } ∧
      (∀ b o, s.heap.get? b = some o → h'.get? b = some o) ∧ h'.get? s.heap.objs.size = some { cls := .type "list", dict := none, data := .seq acc c', slots := #[] } ∧ ItemsOf Pk acc n)
    (s := { s with heap := s.heap.push { cls := .type "list", data := .seq ([] : List Value).toArray } }) src calm (src.keep _ _ fine fun b _ o e => Heap.get?_push_of_some _ e) s.heap.objs.size (Nat.ne_of_gt below.1) (Nat.ne_of_gt below.2) _ 0 made
    (fun h' tk acc c' keep at_l got => ⟨rfl, h', tk, acc, c', rfl, fun b o q => keep b o (Nat.ne_of_lt (Heap.lt_size q)) (Heap.get?_push_of_some _ q), at_l, got⟩) few) (fun fin s' got => ?_) (fun e s' got => ?_)
  · cases fin with
    | done f =>
      obtain ⟨e, h', tk, acc, c', rfl, keep, at_l, items⟩ := got
      cases e
      show wpAny _ A (load s.heap.objs.size >>= _) _ _ _
      exact wpAny_bind (wpAny_load at_l (wpAny_pure (wish h' tk acc keep items)))
    | again c' =>
      refine ⟨got.1, codeAny_mono got.2 fun rr s'' res => ?_⟩
      obtain ⟨rfl, h', tk, acc, c', rfl, keep, at_l, items⟩ := res
      show wpAny _ A (load s.heap.objs.size >>= _) _ _ _
      exact wpAny_bind (wpAny_load at_l (wpAny_pure (wish h' tk acc keep items)))
  · exact absurd got.1 (by simp)
theorem tuple_new_src {Q₁ : Value → Shared → Prop} (src : KdlSrc prog w T r d n Pk Fine) (calm : A.handled = none) (fine : Fine s.heap) (few : n ≤ sizeLine)
    (wish : ∀ (h' : Heap) (tk : Nat) (acc : Array Value), (∀ b o, s.heap.get? b = some o → h'.get? b = some o) → ItemsOf Pk acc n →
      Q₁ (.ref h'.objs.size) { s with heap := h'.push { cls := .type "tuple", data := .seq acc }, toks := tk }) :
    codeAny (model prog w) A (.call (.builtin "tuple.__new__") ⟨[.type "tuple", .ref r], []⟩) (wants Q₁ EX) s := by
  refine codeAny_of_tree ?_
  show wpAny _ A.in1 (do checkBuiltinCall "tuple.__new__" ⟨[.type "tuple", .ref r], []⟩; again (.builtin "tuple.__new__" ⟨[.type "tuple", .ref r], []⟩)) _ _ s
  refine wpAny_bind (wpAny_of_eq (PySem.F.newCall_tuple_1 _) (wpAny_pure ⟨plainId_quiet PySem.F.plain_tuple_new _, codeAny_builtin PySem.F.entry_tuple_new ?_⟩))
  rw [Around.under_plainId PySem.F.plain_tuple_new _]
  have self_sub := sub_tuple_self
  have no_init := init_tuple_lookup
  have here := madeHere_tuple
  have ty_is := src.type s fine
  have no_tup := src.notTuple
  have calm1 : A.in1.handled = none := calm
  wp_walk using wpAny_typeOf ty_is, collect_src (A := A.in1) src calm1 fine few
  intro h' tk acc keep items
  show wpAny _ _ (Builtin.Tuple.tupleExact acc.toList.toArray >>= fun v => ret v) _ _ _
  have back : acc.toList.toArray = acc := by simp
  rw [back]
  unfold Builtin.Tuple.tupleExact
  refine wpAny_bind (wpAny_newObj_type ?_ (by show acc.size ≤ sizeLine; rw [items.1]; exact few))
  exact wpAny_pure (wish h' tk acc keep items)
theorem tuple_src {Q : Value → Shared → Prop} (src : KdlSrc prog w T r d n Pk Fine) (calm : A.handled = none) (fine : Fine s.heap) (few : n ≤ sizeLine)
    (wish : ∀ (h' : Heap) (tk : Nat) (acc : Array Value), (∀ b o, s.heap.get? b = some o → h'.get? b = some o) → ItemsOf Pk acc n →
      Q (.ref h'.objs.size) { s with heap := h'.push { cls := .type "tuple", data := .seq acc }, toks := tk }) :
    wpAny (model prog w) A (call (.type "tuple") [.ref r]) Q EX s := by
  refine callType_codes (Q₁ := fun obj s₁ => s₁.TypeIs obj "tuple" ∧ Q obj s₁) PySem.F.called_tuple (PySem.F.typeCall_tuple_1 _) PySem.F.entry_object_init
    (tuple_new_src (A := A.in1) src calm fine few fun h' tk acc keep items => ⟨⟨_, Heap.get?_push_size _ rfl, rfl⟩, wish h' tk acc keep items⟩) fun obj s₁ got => ?_
  exact ⟨got.1, PySem.F.args_object_init_2 obj _, object_init_meets PySem.F.called_tuple.init.lookup PySem.F.called_tuple.made (by decide) prog w A.in1 _ s₁ ⟨got.1, rfl, got.2⟩⟩
end
/-- tuple(d) -/
theorem call_tupleD {X : Cx} (calm : X.calm = true) : CallR X (.type "tuple") (fun xs H Q => ∃ (a : Addr) (kvs : List (Key × V)), xs = [.ref a] ∧ Rd H a (.dK kvs) ∧ ∀ p, H p = none → Q (.ref p) (upd H p (.tup (kvs.map fun kv => kV kv.1)))) := by
  intro pins s σ H xs us Q I rel h
  obtain ⟨a, kvs, rfl, hd, q⟩ := h
  obtain ⟨u, rfl, ru⟩ := vals1 rel
  cases ru
  obtain ⟨few, low, vs, pairs, dd⟩ := dk_rd I.hok hd
  obtain ⟨ep, at_d⟩ := dd.dictAt
  have same : (kvs.map fun kv => kV kv.1) = vs.map fun p => kV p.1 := by
    have e := congrArg (List.map kV) pairs.keys
    rw [List.map_map, List.map_map] at e
    exact e
  have few' : vs.length ≤ sizeLine := by rw [← pairs.length]; exact few
  refine tuple_src (kdl_dict (knd := mixKind X.prog X.w) (kvs := vs) (ep := ep) low) (I.ok.hd calm) at_d few' fun h' tk acc keep items => ?_
  have got : Vals (vs.map fun p => kV p.1) acc.toList := keys_at (by rw [Array.length_toList]; exact items.1) fun j v e => items.2 j v (by rw [← Array.getElem?_toList]; exact e)
  have I1 : Inv X pins σ H { s with heap := h', toks := s.toks } := I.kept (t' := s.toks) keep
  have fresh : H h'.objs.size = none := I1.hok.fresh (Nat.le_refl _)
  refine ⟨.ref h'.objs.size, upd H h'.objs.size (.tup (kvs.map fun kv => kV kv.1)), I1.laid (t' := tk) (fun b o e => Heap.get?_push_of_some _ e) (Nat.le_refl _) ?_, rfl, q _ fresh⟩
  exact ⟨by rw [List.length_map]; exact few, acc.toList, by rw [same]; exact got, by simpa using IsTup.new _ _⟩
end Rw
end T_V1

section T_N2
set_option Elab.async false
set_option linter.all false
set_option maxRecDepth 100000
set_option maxHeartbeats 4000000
namespace Rw
open PySem L2 PyProof.Rows
/-- what the class Net is, whole -/
structure NetTxt (K : PySem.W.Frag) (C : Addr) : Prop where
  cl : Cls K C
  nT : NoAttr K C "_tables"
  nN : NoAttr K C "_nodes"
  nS : NoAttr K C "_sources"
  nP : NoAttr K C "_posts"
/-- a def by its name -/
structure Cal (P : Program) (w : World) (K : PySem.W.Frag) (mg : Str → Option Value) (base : Heap) (k : Nat) (x : Str) (ps : List Str) (sp : Sp) : Prop where
  ex : ∃ f fd, FnOk P w K mg base CX0 k f fd ps sp ∧ PySem.W.keepIn K (.ref f) = true ∧ Binds K fd ps [] ∧ mg x = some (.ref f)
/-- a property of the class -/
structure Prp (P : Program) (w : World) (K : PySem.W.Frag) (mg : Str → Option Value) (base : Heap) (C : Addr) (k : Nat) (x : Str) (sp : Sp) : Prop where
  ex : ∃ p g fd, PropOf K C x p g ∧ FnOk P w K mg base CX0 k g fd ["self"] sp ∧ Binds K fd ["self"] []
section
variable {P : Program} {w : World} {K : PySem.W.Frag} {mg : Str → Option Value} {base : Heap}
def spGoals (C : Addr) : Sp := fun vs H Q _ => ∃ (m : Addr) (ends dots ss ps : List Str) (o n : Str → List (Str × V)), vs = [.ref m] ∧ NetAt C H m ends dots ss ps o n ∧ ends.length ≤ 100 ∧ ∀ p, H p = none → Q (.ref p) (upd H p (.tup (ends.map V.str)))
def spDots (C : Addr) : Sp := fun vs H Q _ => ∃ (m : Addr) (ends dots ss ps : List Str) (o n : Str → List (Str × V)), vs = [.ref m] ∧ NetAt C H m ends dots ss ps o n ∧ ∀ p, H p = some (.tup (dots.map V.str)) → Q (.ref p) H
theorem sc_goals : FnScope ["self"] ["self"] (defScope c_Net_goals) := ⟨rfl, rfl, rfl, by decide +kernel, rfl, by decide +kernel, by decide +kernel⟩
theorem sc_dots : FnScope ["self"] ["self"] (defScope c_Net_nodes) := ⟨rfl, rfl, rfl, by decide +kernel, rfl, by decide +kernel, by decide +kernel⟩
theorem ok_goals {f C : Addr} {fd : FuncData} (F : Fun K "goals" "Net.goals" c_Net_goals f fd) (T : NetTxt K C) (mTup : mg "tuple" = none) : FnOk P w K mg base CX0 1 f fd ["self"] (spGoals C) := by
  refine F.ok sc_goals (fun vs H Q E h => ?_) (fun cdv A outer s H vs Q E hr h => ?_)
  · obtain ⟨m, ends, dots, ss, ps, o, n, rfl, _⟩ := h
    rfl
  · obtain ⟨m, ends, dots, ss, ps, o, n, rfl, N, few, k⟩ := h
    refine ⟨_, pss_one (ps_ret (pe_callTy (call_tupleD rfl) (by rfl) mTup (by decide +kernel) (pa_cons (pe_fld (pv 0) rfl) pa_nil))), ?_⟩
    obtain ⟨dx, T', N', S, Po, rows, h1, h2, h3, h4, h5, h6, h7⟩ := N.ex
    refine ⟨.ref m, rfl, m, C, dx, _, .ref T', rfl, h1, T.cl, T.nT, nflds_tables _ _ _ _, T', _, rfl, .inl h2, fun p hp => ?_⟩
    rw [tkv_keysV, h6]
    exact k p hp
theorem ok_dots {f C : Addr} {fd : FuncData} (F : Fun K "nodes" "Net.nodes" c_Net_nodes f fd) (T : NetTxt K C) : FnOk P w K mg base CX0 1 f fd ["self"] (spDots C) := by
  refine F.ok sc_dots (fun vs H Q E h => ?_) (fun cdv A outer s H vs Q E hr h => ?_)
  · obtain ⟨m, ends, dots, ss, ps, o, n, rfl, _⟩ := h
    rfl
  · obtain ⟨m, ends, dots, ss, ps, o, n, rfl, N, k⟩ := h
    refine ⟨_, pss_one (ps_ret (pe_fld (pv 0) rfl)), ?_⟩
    obtain ⟨dx, T', N', S, Po, rows, h1, h2, h3, h4, h5, h6, h7⟩ := N.ex
    exact ⟨.ref m, rfl, m, C, dx, _, .ref N', rfl, h1, T.cl, T.nN, nflds_nodes _ _ _ _, k N' h3⟩
/-! ### the checks -/
def spCheckGoal (C : Addr) : Sp := fun vs H Q _ => ∃ (m : Addr) (e : Str) (ends dots ss ps : List Str) (o n : Str → List (Str × V)), vs = [.ref m, .str e] ∧ NetAt C H m ends dots ss ps o n ∧ ends.length ≤ 100 ∧ e ∈ ends ∧ ∀ H', Evl.Ex H H' → Q .non H'
def spCheckDot (C : Addr) : Sp := fun vs H Q _ => ∃ (m : Addr) (z : Str) (ends dots ss ps : List Str) (o n : Str → List (Str × V)), vs = [.ref m, .str z] ∧ NetAt C H m ends dots ss ps o n ∧ z ∈ dots ∧ Q .non H
theorem sc_check_goal : FnScope ["net", "goal"] ["net", "goal"] (defScope p_check_goal) := ⟨rfl, rfl, rfl, by decide +kernel, rfl, by decide +kernel, by decide +kernel⟩
theorem sc_check_node : FnScope ["net", "node"] ["net", "node"] (defScope p_check_node) := ⟨rfl, rfl, rfl, by decide +kernel, rfl, by decide +kernel, by decide +kernel⟩
theorem ok_check_goal {f C : Addr} {fd : FuncData} (F : Fun K "check_goal" "check_goal" p_check_goal f fd) (T : NetTxt K C) (Pg : Prp P w K mg base C 1 "goals" (spGoals C)) : FnOk P w K mg base CX0 3 f fd ["net", "goal"] (spCheckGoal C) := by
  obtain ⟨p1, g1, fd1, at1, F1, b1⟩ := Pg.ex
  refine F.ok sc_check_goal (fun vs H Q E h => ?_) (fun cdv A outer s H vs Q E hr h => ?_)
  · obtain ⟨m, e, ends, dots, ss, ps, o, n, rfl, _⟩ := h
    rfl
  · obtain ⟨m, e, ends, dots, ss, ps, o, n, rfl, N, few, he, k⟩ := h
    refine ⟨_, pss_one (ps_if (pt_cmpR op_notIn_seq (pv 1) (pe_prop (pv 0) T.cl at1 F1 hr b1 .nil pass0 rfl) rfl) (pss_one ps_never) pss_nil), ?_⟩
    have N2 := N
    obtain ⟨dx, T', N', S, Po, rows, h1, h2, h3, h4, h5, h6, h7⟩ := N.ex
    refine ⟨.str e, rfl, .ref m, rfl, m, dx, _, rfl, h1, m, ends, dots, ss, ps, o, n, rfl, N2, few, fun p hp => ⟨p, ends.map V.str, rfl, .inr (Evl.st_of upd_same), rfl, flat_strs ends, ?_⟩⟩
    rw [inV_str, decide_eq_true he]
    exact ⟨false, rfl, k _ (Evl.Ex.new hp)⟩
theorem ok_check_node {f C : Addr} {fd : FuncData} (F : Fun K "check_node" "check_node" p_check_node f fd) (T : NetTxt K C) (Pg : Prp P w K mg base C 1 "nodes" (spDots C)) : FnOk P w K mg base CX0 3 f fd ["net", "node"] (spCheckDot C) := by
  obtain ⟨p1, g1, fd1, at1, F1, b1⟩ := Pg.ex
  refine F.ok sc_check_node (fun vs H Q E h => ?_) (fun cdv A outer s H vs Q E hr h => ?_)
  · obtain ⟨m, z, ends, dots, ss, ps, o, n, rfl, _⟩ := h
    rfl
  · obtain ⟨m, z, ends, dots, ss, ps, o, n, rfl, N, hz, k⟩ := h
    refine ⟨_, pss_one (ps_if (pt_cmpR op_notIn_seq (pv 1) (pe_prop (pv 0) T.cl at1 F1 hr b1 .nil pass0 rfl) rfl) (pss_one ps_never) pss_nil), ?_⟩
    have N2 := N
    obtain ⟨dx, T', N', S, Po, rows, h1, h2, h3, h4, h5, h6, h7⟩ := N.ex
    refine ⟨.str z, rfl, .ref m, rfl, m, dx, _, rfl, h1, m, ends, dots, ss, ps, o, n, rfl, N2, fun p hp => ⟨p, dots.map V.str, rfl, .inr (Evl.st_of hp), rfl, flat_strs dots, ?_⟩⟩
    rw [inV_str, decide_eq_true hz]
    exact ⟨false, rfl, k⟩
/-- what isinstance asks of the class -/
structure NetIsi (K : PySem.W.Frag) (C : Addr) : Prop where
  ha : PySem.W.findIn K (.ref C) "__class__" = some (some (.builtin "object.__class__"))
  hn : PySem.W.specialIn K (.builtin "object.__class__") "__get__" = some (some (.builtin "getset_descriptor.__get__"))
  hk : PySem.W.takesIn K (.builtin "object.__class__") = some true
  hm : PySem.W.mroIn K C (.type "object") = some true
  me : PySem.W.kitOne K (.ref C) (.ref C) = some true
def spCheckNet (C : Addr) : Sp := fun vs H Q _ => ∃ (m : Addr) (ends dots ss ps : List Str) (o n : Str → List (Str × V)), vs = [.ref m] ∧ NetAt C H m ends dots ss ps o n ∧ Q .non H
theorem sc_check_net : FnScope ["net"] ["net"] (defScope p_check_net) := ⟨rfl, rfl, rfl, by decide +kernel, rfl, by decide +kernel, by decide +kernel⟩
theorem ok_check_net {f C : Addr} {fd : FuncData} (F : Fun K "check_net" "check_net" p_check_net f fd) (T : NetTxt K C) (Is : NetIsi K C) (mIsi : mg "isinstance" = none) (mNet : mg "Net" = some (.ref C)) : FnOk P w K mg base CX0 1 f fd ["net"] (spCheckNet C) := by
  refine F.ok sc_check_net (fun vs H Q E h => ?_) (fun cdv A outer s H vs Q E hr h => ?_)
  · obtain ⟨m, ends, dots, ss, ps, o, n, rfl, _⟩ := h
    rfl
  · obtain ⟨m, ends, dots, ss, ps, o, n, rfl, N, k⟩ := h
    refine ⟨_, pss_one (ps_if (pt_not (pt_val (pe_callB call_isi (by rfl) mIsi (by decide +kernel) (pa_cons (pv 0) (pa_cons (pe_glob (v := .ref C) (by rfl) mNet rfl) pa_nil))))) (pss_one ps_never) pss_nil), ?_⟩
    obtain ⟨dx, T', N', S, Po, rows, h1, h2, h3, h4, h5, h6, h7⟩ := N.ex
    exact ⟨.ref m, rfl, .ref m, .ref C, _, _, true, rfl, .own C, .base (.ins h1 T.cl Is.ha Is.hn Is.hk Is.hm), Is.me, true, rfl, k⟩
end
end Rw
end T_N2

section T_N3
set_option Elab.async false
set_option linter.all false
set_option maxRecDepth 100000
set_option maxHeartbeats 4000000
namespace Rw
open PySem L2 PyProof.Rows
/-- the way of z by a table -/
def look (tb : List (Str × V)) (z : Str) : V := (valV (tkv tb) (Sum.inr z)).getD .non
/-- where old and new ways of z differ -/
def diffB (ends : List Str) (o n : Str → List (Str × V)) (z : Str) : List Bool := ends.map fun e => !decide (look (o e) z = look (n e) z)
/-- the nodes that change -/
def moving (ends dots : List Str) (o n : Str → List (Str × V)) : List Str := dots.filter fun z => (diffB ends o n z).any id
theorem look_ok {zs : List Str} {e z : Str} {tb : List (Str × V)} (h : TabOk zs e tb) (hz : z ∈ zs) : PlaceOk zs e z (look tb z) ∧ valV (tkv tb) (Sum.inr z) = some (look tb z) := by
  obtain ⟨v, h1, h2⟩ := tkv_some (tb := tb) (z := z) (h.ks.mem_iff.mpr hz)
  unfold look
  rw [h1]
  exact ⟨h.ps _ h2, rfl⟩
theorem look_canon {dots : List Str} {tb : List (Str × V)} {z : Str} (hz : z ∈ dots) : look (canon dots tb) z = look tb z := by
  unfold look
  rw [canon_get hz]
  rfl
theorem scal_place {zs ys : List Str} {e f z y : Str} {u v : V} (h1 : PlaceOk zs e z u) (h2 : PlaceOk ys f y v) : scal u v = true := by
  rcases h1 with rfl | rfl | ⟨_, _, _, rfl⟩ <;> rcases h2 with rfl | rfl | ⟨_, _, _, rfl⟩ <;> rfl
abbrev scOuter : Scope := { kind := .function, names := [(".0", .local), ("node", .cell), ("any", .globalImplicit), ("pairs", .cell)], isGenerator := false, isCoroutine := false }
theorem tkv_at : ∀ {rows : List (Str × V)} {ends : List Str} {i : Nat} {e : Str} {v : V}, rows.map (·.1) = ends → ends.Nodup → ends[i]? = some e → valV (tkv rows) (Sum.inr e) = some v → ((tkv rows).map (·.2))[i]? = some v := by
  intro rows ends i e v hk nd he hv
  have hi : i < rows.length := by
    have := (List.getElem?_eq_some_iff.mp he).1
    rw [← hk, List.length_map] at this
    exact this
  obtain ⟨u, hu, hm⟩ := tkv_some (tb := rows) (z := e) (by rw [hk]; exact List.mem_of_getElem? he)
  rw [hv] at hu
  obtain ⟨j, hj, hj'⟩ := List.getElem_of_mem hm
  have ej : ends[j]? = some e := by rw [← hk, List.getElem?_map, List.getElem?_eq_getElem hj, hj']; rfl
  have hie : i < ends.length := (List.getElem?_eq_some_iff.mp he).1
  have ij : i = j := (List.getElem?_inj hie nd).mp (he.trans ej.symm)
  subst ij
  unfold tkv
  rw [List.map_map, List.getElem?_map, List.getElem?_eq_getElem hj, hj', Option.some.inj hu]
  rfl
theorem diffB_snoc (l : List Str) (e : Str) (o n : Str → List (Str × V)) (z : Str) : diffB (l ++ [e]) o n z = diffB l o n z ++ [!decide (look (o e) z = look (n e) z)] := by
  unfold diffB
  rw [List.map_append]
  rfl
section
variable {P : Program} {w : World} {K : PySem.W.Frag} {mg : Str → Option Value} {base : Heap}
def spChanging (C : Addr) : Sp := fun vs H Q _ => ∃ (m : Addr) (ends dots ss ps : List Str) (o n : Str → List (Str × V)), vs = [.ref m] ∧ NetAt C H m ends dots ss ps o n ∧ ends.length ≤ 100 ∧ dots.length ≤ 100 ∧ ends.Nodup ∧
  ∀ p H', Evl.Ex H H' → H p = none → H' p = some (.tup ((moving ends dots o n).map V.str)) → Q (.ref p) H'
abbrev nChanging : List Str := ["self", "pairs", "node", "old", "new"]
theorem sc_changing : FnScope nChanging ["self"] (defScope c_Net_changing) := ⟨rfl, rfl, rfl, by decide +kernel, rfl, by decide +kernel, by decide +kernel⟩
theorem ok_changing {f C : Addr} {fd : FuncData} (F : Fun K "changing" "Net.changing" c_Net_changing f fd) (T : NetTxt K C) (mTup : mg "tuple" = none) (mList : mg "list" = none) (mAny : mg "any" = none) : FnOk P w K mg base CX0 2 f fd ["self"] (spChanging C) := by
  refine F.ok sc_changing (fun vs H Q E h => ?_) (fun cdv A outer s H vs Q E hr h => ?_)
  · obtain ⟨m, ends, dots, ss, ps, o, n, rfl, _⟩ := h
    rfl
  · obtain ⟨m, ends, dots, ss, ps, o, n, rfl, N, few, few2, en, k⟩ := h
    have nd := sc_changing.nd
    have hu := hu_of hr
    refine ⟨_, pss_cons (ps_set (i := 1) nd rfl (.inr rfl) (pe_listVals rfl (pe_fld (pv 0) rfl) (by rfl) mList))
      (pss_one (ps_ret (pe_callTy call_tuple_of (by rfl) mTup (by decide +kernel) (pa_cons
        (pe_lc (own := [("node", 2)]) (g := gName 2) (tt := tB (tCB (rAny K) (tCons (tLc (iList K (tVar 1)) (gTup K 2 (gCons (gName 3) (gCons (gName 4) gNil))) tYes (tOp rNe (tDGet (tVar 3) (tVar 2)) (tDGet (tVar 4) (tVar 2))) [3, 4]) tNil))) rfl nd (pi_tup (pe_fld (pv 0) rfl)) (blkOk_by (own := [("node", 2)]) (N := nChanging) (sc := defScope c_Net_changing) (by decide +kernel))
          (fun _ _ _ _ _ => pg_name (i := 2) nd rfl (Or.inr rfl))
          (fun _ _ _ _ _ => pts_one (pt_val (pe_callB (cr_any rfl) (by rfl) mAny (by decide +kernel) (pa_cons
            (pe_lc (own := [("old", 3), ("new", 4)]) (g := gTup K 2 (gCons (gName 3) (gCons (gName 4) gNil))) (tt := tYes) (te := tOp rNe (tDGet (tVar 3) (tVar 2)) (tDGet (tVar 4) (tVar 2))) rfl nd (pi_list (pv 1)) (by
              have q : ∀ {sc : Scope}, blkC nChanging scOuter sc [("old", 3), ("new", 4)] = true → BlkOk nChanging scOuter sc [("old", 3), ("new", 4)] := fun h => blkOk_by h
              refine q ?_
              decide +kernel)
              (fun _ _ _ _ _ => pg_tup rfl (pgs_cons (pg_name (i := 3) nd rfl (Or.inl rfl)) (pgs_cons (pg_name (i := 4) nd rfl (Or.inl rfl)) pgs_nil))) (fun _ _ _ _ _ => pts_nil) (fun _ _ _ _ _ => pe_cmpR op_ne (pe_dget hu (pv 3) (pv 2) (fun _ _ => rfl)) (pe_dget hu (pv 4) (pv 2) (fun _ _ => rfl)) (nomark _))) pa_nil))))
          (fun _ _ _ _ _ => pv 2)) pa_nil)))), ?_⟩
    obtain ⟨dx, T', N', S, Po, rows, h1, h2, h3, h4, h5, h6, h7⟩ := N.ex
    have rl : rows.length = ends.length := by rw [← h6, List.length_map]
    refine ⟨.ref m, rfl, m, C, dx, _, .ref T', rfl, h1, T.cl, T.nT, nflds_tables _ _ _ _, T', _, rfl, .inl h2, fun l hl => ?_⟩
    have x1 : Evl.Ex H (upd H l (.lst ((tkv rows).map (·.2)))) := Evl.Ex.new hl
    have el : (upd H l (.lst ((tkv rows).map (·.2)))) l = some (.lst ((tkv rows).map (·.2))) := upd_same
    generalize upd H l (.lst ((tkv rows).map (·.2))) = H1 at x1 el
    refine ⟨.ref m, rfl, m, C, dx, _, .ref N', rfl, x1 _ _ h1, T.cl, T.nN, nflds_nodes _ _ _ _, N', rfl, ⟨_, Evl.st_of (x1 _ _ h3)⟩, fun D hD => lc_tup (K := K) (a := N') (xs := dots.map V.str)
      (fun i H' => i ≤ dots.length ∧ Evl.Ex H1 H' ∧ H' D = some (.lst ((moving ends (dots.take i) o n).map V.str))) ⟨Nat.zero_le _, Evl.Ex.new hD, upd_same⟩ (fun i H' _ h => Evl.st_of (h.2.1 _ _ (x1 _ _ h3))) ?_ ?_⟩
    · rintro j x H3 hj ⟨_, x3, d3⟩
      obtain ⟨z, hz, rfl⟩ := str_at hj
      have hjl : j < dots.length := (List.getElem?_eq_some_iff.mp hz).1
      have zd := List.mem_of_getElem? hz
      have et : moving ends (dots.take (j + 1)) o n = moving ends (dots.take j) o n ++ if (diffB ends o n z).any id then [z] else [] := by
        unfold moving
        rw [List.take_add_one, hz, List.filter_append]
        show _ ++ List.filter _ [z] = _
        rw [List.filter_cons]
        rfl
      have dl : (moving ends (dots.take j) o n).length ≤ 100 := Nat.le_trans (List.length_filter_le _ _) (by rw [List.length_take]; omega)
      refine ⟨rfl, ?_⟩
      refine ⟨.ref l, rfl, l, rfl, ⟨_, Evl.sq_of (x3 _ _ el)⟩, fun D2 hD2 => lc_list (K := K) (a := l) (xs := (tkv rows).map (·.2))
        (fun i H' => i ≤ ends.length ∧ Evl.Ex H3 H' ∧ H' D2 = some (.lst ((diffB (ends.take i) o n z).map V.bl))) ⟨Nat.zero_le _, Evl.Ex.new hD2, upd_same⟩ (fun i H' _ h => Evl.sq_of (h.2.1 _ _ (x3 _ _ el))) ?_ ?_⟩
      · rintro i y H4 hi ⟨_, x4, d4⟩
        have hil : i < ends.length := by
          have := (List.getElem?_eq_some_iff.mp hi).1
          rw [List.length_map, tkv_len] at this
          omega
        have gi : ends[i]? = some ends[i] := List.getElem?_eq_getElem hil
        obtain ⟨p, po, pn, hv, pa⟩ := h7 ends[i] (List.getElem_mem hil)
        have ey : y = .ref p := Option.some.inj (hi.symm.trans (tkv_at h6 en gi hv))
        subst ey
        have pa4 := pa.ex (x1.trans (x3.trans x4))
        have c1 := (look_ok pa.o1 zd)
        have c2 := (look_ok pa.o2 zd)
        have g1 : DGet H4 po (.str z) (some (look (o ends[i]) z)) := by
          have q := DGet.k (k := Sum.inr z) pa4.ho
          rw [c1.2, look_canon zd] at q
          exact q
        have g2 : DGet H4 pn (.str z) (some (look (n ends[i]) z)) := by
          have q := DGet.k (k := Sum.inr z) pa4.hn
          rw [c2.2, look_canon zd] at q
          exact q
        have sc := scal_place c1.1 c2.1
        rw [look_canon zd, look_canon zd] at sc
        refine ⟨p, _, rfl, Evl.st_of pa4.hp, rfl, _, _, rfl, _, [], rfl, rfl, rfl, ?_⟩
        refine yes_if ?_
        refine ⟨.ref po, rfl, .str z, rfl, po, _, rfl, g1, .ref pn, rfl, .str z, rfl, pn, _, rfl, g2, sc, _, d4, ?_, hil, x4.mut hD2, ?_⟩
        · rw [List.length_map]
          unfold diffB
          rw [List.length_map, List.length_take]
          exact small1000 (by omega)
        · rw [upd_same, List.take_add_one, gi]
          show some (HO.lst _) = some (HO.lst (List.map V.bl (diffB (_ ++ [_]) o n z)))
          rw [diffB_snoc, List.map_append]
          rfl
      · rintro H4 ⟨_, x4, d4⟩
        rw [List.length_map, tkv_len, rl, List.take_length] at d4
        refine ⟨D2, _, rfl, Evl.sq_of d4, _, rfl, ?_⟩
        by_cases q : (diffB ends o n z).any id = true
        · rw [if_pos q] at et ⊢
          refine ⟨.str z, rfl, _, x4 _ _ d3, by rw [List.length_map]; exact small1000 (by omega), hjl, (x3.trans x4).mut hD, ?_⟩
          rw [upd_same, et, List.map_append]
          rfl
        · rw [if_neg q] at et ⊢
          refine ⟨hjl, x3.trans x4, ?_⟩
          rw [et, List.append_nil]
          exact x4 _ _ d3
    · rintro H3 ⟨_, x3, d3⟩
      rw [List.length_map, List.take_length] at d3
      refine ⟨D, _, rfl, .inl ⟨Evl.sq_of d3, fun p hp => k p _ ((x1.trans x3).trans (Evl.Ex.new hp)) ?_ upd_same⟩⟩
      cases q : H p with
      | none => rfl
      | some u => rw [(x1.trans x3) _ _ q] at hp; cases hp
end
end Rw
end T_N3

section T_N4
set_option Elab.async false
set_option linter.all false
set_option maxRecDepth 100000
set_option maxHeartbeats 4000000
namespace Rw
open PySem L2 PyProof.Rows
/-- a lot of these names stands at a -/
structure LotAt (H : Hp) (a : Addr) (zs ys : List Str) : Prop where
  ha : H a = some (.tup (zs.map V.str))
  sub : ∀ z ∈ zs, z ∈ ys
  nd : zs.Nodup
  so : sortedS zs = true
  nm : ∀ z ∈ zs, Nm z
  few : zs.length ≤ 60
theorem LotAt.ex {H H' : Hp} {a : Addr} {zs ys : List Str} (h : LotAt H a zs ys) (e : Evl.Ex H H') : LotAt H' a zs ys := ⟨e _ _ h.ha, h.sub, h.nd, h.so, h.nm, h.few⟩
theorem shaped_tup {ds : List PyData} (h1 : PyData.canLayAll0 ds = true) (h2 : PyData.depthAll ds ≤ 60) : SeqAt.shaped (.tuple ds) = true := by
  unfold SeqAt.shaped
  rw [show PyData.canLay0 (.tuple ds) = PyData.canLayAll0 ds from rfl, h1, show PyData.depth (.tuple ds) = PyData.depthAll ds + 1 from rfl]
  exact decide_eq_true (show PyData.depthAll ds + 1 ≤ 64 by omega)
theorem any_falses (n : Nat) : (List.replicate n false).any id = false := by
  induction n with
  | zero => rfl
  | succ n ih => rw [List.replicate_succ, List.any_cons, ih]; rfl
end Rw
end T_N4

section T_W0
set_option Elab.async false
set_option linter.all false
set_option maxRecDepth 100000
set_option maxHeartbeats 4000000
namespace Rw
open PySem L2 PyProof.Rows
/-! ### the places that a table leads to -/
/-- zs behind, v the place: on, up to one that is no key or came before -/
def track (tb : List (Str × V)) : Nat → List Str → V → List V
  | 0, zs, v => zs.map V.str ++ [v]
  | k + 1, zs, v => match v with
    | .str z => match valV (tkv tb) (Sum.inr z) with
      | some u => if z ∈ zs then zs.map V.str ++ [v] else track tb k (zs ++ [z]) u
      | none => zs.map V.str ++ [v]
    | _ => zs.map V.str ++ [v]
def walkOf (tb : List (Str × V)) (n : Nat) (z : Str) : List V := track tb n [] (.str z)
theorem track_non {tb : List (Str × V)} {k : Nat} {zs : List Str} : track tb k zs .non = zs.map V.str ++ [.non] := by cases k <;> rfl
theorem track_out {tb : List (Str × V)} {k : Nat} {zs : List Str} {z : Str} (h : valV (tkv tb) (Sum.inr z) = none) : track tb k zs (.str z) = zs.map V.str ++ [.str z] := by
  cases k with
  | zero => rfl
  | succ k => show (match valV (tkv tb) (Sum.inr z) with | some u => _ | none => _) = _; rw [h]
theorem track_ring {tb : List (Str × V)} {k : Nat} {zs : List Str} {z : Str} (h : z ∈ zs) : track tb k zs (.str z) = zs.map V.str ++ [.str z] := by
  cases k with
  | zero => rfl
  | succ k =>
    show (match valV (tkv tb) (Sum.inr z) with | some u => if z ∈ zs then zs.map V.str ++ [V.str z] else track tb k (zs ++ [z]) u | none => zs.map V.str ++ [V.str z]) = _
    cases valV (tkv tb) (Sum.inr z) with
    | none => rfl
    | some u => show (if z ∈ zs then _ else _) = _; rw [if_pos h]
theorem track_on {tb : List (Str × V)} {k : Nat} {zs : List Str} {z : Str} {u : V} (h : valV (tkv tb) (Sum.inr z) = some u) (hz : z ∉ zs) : track tb (k + 1) zs (.str z) = track tb k (zs ++ [z]) u := by
  show (match valV (tkv tb) (Sum.inr z) with | some u => if z ∈ zs then zs.map V.str ++ [V.str z] else track tb k (zs ++ [z]) u | none => zs.map V.str ++ [V.str z]) = _
  rw [h]
  show (if z ∈ zs then _ else _) = _
  rw [if_neg hz]
theorem iteF {A B : Prop} (h : B) : if false = true then A else B := by
  rw [if_neg (by decide)]
  exact h
/-- a place that can stand in a walk -/
def Spot (v : V) : Prop := v = .non ∨ ∃ y : Str, v = .str y ∧ Nm y
theorem place_spot {zs : List Str} {e z : Str} {v : V} (h : PlaceOk zs e z v) (hz : ∀ y ∈ zs, Nm y) (he : Nm e) : Spot v := by
  rcases h with rfl | rfl | ⟨y, hy, _, rfl⟩
  · exact .inl rfl
  · exact .inr ⟨e, rfl, he⟩
  · exact .inr ⟨y, rfl, hz y hy⟩
theorem track_spots {tb : List (Str × V)} (h : ∀ q ∈ tb, Spot q.2) : ∀ (k : Nat) (zs : List Str) (v : V), (∀ z ∈ zs, Nm z) → Spot v → ∀ u ∈ track tb k zs v, Spot u := by
  intro k
  have base : ∀ (zs : List Str) (v : V), (∀ z ∈ zs, Nm z) → Spot v → ∀ u ∈ zs.map V.str ++ [v], Spot u := fun zs v hz hv u hu => by
    rcases List.mem_append.mp hu with hu | hu
    · obtain ⟨z, hz', rfl⟩ := List.mem_map.mp hu
      exact .inr ⟨z, rfl, hz z hz'⟩
    · rw [List.mem_singleton.mp hu]
      exact hv
  induction k with
  | zero => exact base
  | succ k ih =>
    intro zs v hz hv u hu
    rcases hv with rfl | ⟨y, rfl, hy⟩
    · rw [track_non] at hu
      exact base zs .non hz (.inl rfl) u hu
    · cases q : valV (tkv tb) (Sum.inr y) with
      | none =>
        rw [track_out q] at hu
        exact base zs _ hz (.inr ⟨y, rfl, hy⟩) u hu
      | some w =>
        by_cases m : y ∈ zs
        · rw [track_ring m] at hu
          exact base zs _ hz (.inr ⟨y, rfl, hy⟩) u hu
        · rw [track_on q m] at hu
          refine ih (zs ++ [y]) w (fun z hz' => ?_) ?_ u hu
          · rcases List.mem_append.mp hz' with hz' | hz'
            · exact hz z hz'
            · rw [List.mem_singleton.mp hz']; exact hy
          · have hk : y ∈ tb.map (·.1) := by
              by_cases hm : y ∈ tb.map (·.1)
              · exact hm
              · rw [tkv_none hm] at q; cases q
            obtain ⟨w', h1, h2⟩ := tkv_some hk
            rw [q] at h1
            rw [Option.some.inj h1]
            exact h _ h2
theorem track_len {tb : List (Str × V)} : ∀ (k : Nat) (zs : List Str) (v : V), (track tb k zs v).length ≤ zs.length + k + 1 := by
  intro k
  induction k with
  | zero => intro zs v; show (zs.map V.str ++ [v]).length ≤ _; simp
  | succ k ih =>
    intro zs v
    have b : ∀ v : V, (zs.map V.str ++ [v]).length ≤ zs.length + (k + 1) + 1 := fun v => by simp
    cases v with
    | str y =>
      cases q : valV (tkv tb) (Sum.inr y) with
      | none => rw [track_out q]; exact b _
      | some w =>
        by_cases m : y ∈ zs
        · rw [track_ring m]; exact b _
        · rw [track_on q m]
          have := ih (zs ++ [y]) w
          rw [List.length_append, List.length_singleton] at this
          omega
    | _ => exact b _
/-- a table that leads from these names to places -/
structure LeadOk (dots : List Str) (tb : List (Str × V)) : Prop where
  ks : tb.map (·.1) = dots
  sp : ∀ q ∈ tb, Spot q.2
  nm : ∀ z ∈ dots, Nm z
theorem LeadOk.get {dots : List Str} {tb : List (Str × V)} {z : Str} (h : LeadOk dots tb) (hz : z ∈ dots) : ∃ v, valV (tkv tb) (Sum.inr z) = some v ∧ Spot v := by
  obtain ⟨v, h1, h2⟩ := tkv_some (tb := tb) (z := z) (by rw [h.ks]; exact hz)
  exact ⟨v, h1, h.sp _ h2⟩
section
variable {P : Program} {w : World} {K : PySem.W.Frag} {mg : Str → Option Value} {base : Heap}
def spFollowed : Sp := fun vs H Q _ => ∃ (t : Addr) (z : Str) (dots : List Str) (tb : List (Str × V)), vs = [.ref t, .str z] ∧ H t = some (.dK (tkv tb)) ∧ LeadOk dots tb ∧ dots.length ≤ 100 ∧ Nm z ∧
  ∀ p H', Evl.Ex H H' → H p = none → H' p = some (.lst (walkOf tb (dots.length + 1) z)) → Q (.ref p) H'
abbrev nFollowed : List Str := ["table", "node", "places"]
theorem sc_followed : FnScope nFollowed ["table", "node"] (defScope p_followed) := ⟨rfl, rfl, rfl, by decide +kernel, rfl, by decide +kernel, by decide +kernel⟩
theorem ok_followed {f : Addr} {fd : FuncData} (F : Fun K "followed" "followed" p_followed f fd) : FnOk P w K mg base CX0 1 f fd ["table", "node"] spFollowed := by
  refine F.ok sc_followed (fun vs H Q E h => ?_) (fun cdv A outer s H vs Q E hr h => ?_)
  · obtain ⟨t, z, dots, tb, rfl, _⟩ := h
    rfl
  · obtain ⟨t, z, dots, tb, rfl, ht, L, few, hz, k⟩ := h
    have nd := sc_followed.nd
    have hu := hu_of hr
    refine ⟨_, pss_cons (ps_set (i := 2) nd rfl (.inl rfl) (pe_lst (pa_cons (pv 1) pa_nil)))
      (pss_cons (ps_while PassesOwn.never (PW.pt (pw_and (pt_cmp (pc_dinN hu (pe_ix ix_list (pv 2) (pe_un un_neg pe_int) (fun _ _ => rfl)) (pv 0)) rfl)
          (pw_and1 (pt_cmpR op_notIn_seq (pe_ix ix_list (pv 2) (pe_un un_neg pe_int) (fun _ _ => rfl)) (pe_slice sl_list (pv 2) po_none (po_some (pe_un un_neg pe_int))) rfl))))
        (pss_one (ps_expr (pe_bm PySem.F.plainAttrs_list PySem.F.slot_list_append PySem.F.type_list_append mt_append (pv 2)
          (pa_cons (pe_dget hu (pv 0) (pe_ix ix_list (pv 2) (pe_un un_neg pe_int) (fun _ _ => rfl)) (fun _ _ => rfl)) pa_nil)))))
      (pss_one (ps_ret (pv 2)))), ?_⟩
    refine ⟨.str z, rfl, by show 1 ≤ sizeLine; decide, fun p hp => ?_⟩
    refine ⟨fun m σ H' => ∃ (zs : List Str) (v : V), σ = [some (.ref t), some (.str z), some (.ref p)] ∧ H' p = some (.lst (zs.map V.str ++ [v])) ∧ Evl.Ex H H' ∧ zs.Nodup ∧ (∀ y ∈ zs, y ∈ dots) ∧ Spot v ∧
      track tb m zs v = walkOf tb (dots.length + 1) z ∧ m + zs.length = dots.length + 1, ⟨dots.length + 1, [], .str z, rfl, upd_same, Evl.Ex.new hp, List.nodup_nil, (fun y hy => by cases hy), .inr ⟨z, rfl, hz⟩, rfl, rfl⟩, ?_⟩
    rintro m σ H1 ⟨zs, v, rfl, p1, x1, znd, zd, hv, tr, hm⟩
    have zl := nodup_le zs dots znd zd
    have t1 := x1 _ _ ht
    refine ⟨.ref p, rfl, 1, rfl, p, _, -1, v, rfl, rfl, Evl.sq_of p1, atI_last _ _, .ref t, rfl, ?_⟩
    rcases hv with rfl | ⟨y, rfl, hy⟩
    · refine .inr ⟨t, _, rfl, rfl, .inl t1, false, rfl, ?_⟩
      rw [track_non] at tr
      refine iteF ?_
      refine iteF ?_
      exact ⟨.ref p, rfl, k p _ x1 hp (by rw [p1, tr])⟩
    · cases q : valV (tkv tb) (Sum.inr y) with
      | none =>
        have gt : DGet H1 t (.str y) none := by
          have z := DGet.k (k := Sum.inr y) t1
          rw [q] at z
          exact z
        refine .inl ⟨t, none, rfl, gt, false, rfl, ?_⟩
        rw [track_out q] at tr
        refine iteF ?_
        refine iteF ?_
        exact ⟨.ref p, rfl, k p _ x1 hp (by rw [p1, tr])⟩
      | some u =>
        have gt : ∀ {Hx : Hp}, Hx t = some (.dK (tkv tb)) → DGet Hx t (.str y) (some u) := fun {Hx} tx => by
          have z := DGet.k (k := Sum.inr y) tx
          rw [q] at z
          exact z
        have yd : y ∈ dots := by
          by_cases hm : y ∈ tb.map (·.1)
          · rw [← L.ks]; exact hm
          · rw [tkv_none hm] at q; cases q
        have su : Spot u := by
          obtain ⟨w', h1, h2⟩ := L.get yd
          rw [q] at h1
          rw [Option.some.inj h1]
          exact h2
        refine .inl ⟨t, some u, rfl, gt t1, true, rfl, ?_⟩
        refine iteT ?_
        refine ⟨.ref p, rfl, 1, rfl, p, _, -1, _, rfl, rfl, Evl.sq_of p1, atI_last _ _, .ref p, rfl, 1, rfl, _, rfl, p, _, rfl, Evl.sq_of p1, fun c hc => ?_⟩
        have ecut : cutV (zs.map V.str ++ [V.str y]) none (some (-1)) = zs.map V.str := by
          rw [cut_last]
          exact List.dropLast_concat
        rw [ecut]
        have x2 : Evl.Ex H1 (upd H1 c (.lst (zs.map V.str))) := Evl.Ex.new hc
        have nc : p ≠ c := ne_of_none p1 hc
        refine ⟨c, zs.map V.str, rfl, .inl (Evl.sq_of upd_same), rfl, flat_strs zs, ?_⟩
        generalize upd H1 c (.lst (zs.map V.str)) = H2 at x2
        have p2 := x2 _ _ p1
        have t2 := x2 _ _ t1
        rw [inV_str]
        by_cases mem : y ∈ zs
        · rw [decide_eq_true mem]
          rw [track_ring mem] at tr
          refine ⟨false, rfl, ?_⟩
          refine iteF ?_
          exact ⟨.ref p, rfl, k p _ (x1.trans x2) hp (by rw [p2, tr])⟩
        · rw [decide_eq_false mem]
          obtain ⟨m0, rfl⟩ : ∃ m0, m = m0 + 1 := ⟨m - 1, by omega⟩
          rw [track_on q mem] at tr
          refine ⟨true, rfl, ?_⟩
          refine iteT ?_
          refine ⟨_, fun _ _ h => h, ?_⟩
          refine ⟨.ref p, rfl, .inl ⟨rfl, _, Evl.sq_of p2⟩, .ref t, rfl, .ref p, rfl, 1, rfl, p, _, -1, _, rfl, rfl, Evl.sq_of p2, atI_last _ _, t, u, rfl, gt t2, p, _, u, rfl, rfl, p2, ?_, ?_⟩
          · rw [List.length_append, List.length_map, List.length_singleton]
            exact small1000 (by omega)
          · refine ⟨m0, Nat.lt_succ_self _, zs ++ [y], u, rfl, ?_, (x1.trans x2).mut hp, ?_, ?_, su, tr, ?_⟩
            · rw [upd_same, List.map_append]
              rfl
            · rw [List.nodup_append]
              exact ⟨znd, by simp, fun a ha b hb e => mem (by rw [List.mem_singleton.mp hb] at e; exact e ▸ ha)⟩
            · intro a ha
              rcases List.mem_append.mp ha with ha | ha
              · exact zd a ha
              · rw [List.mem_singleton.mp ha]; exact yd
            · rw [List.length_append, List.length_singleton]
              omega
end
end Rw
end T_W0

section T_W1
set_option Elab.async false
set_option linter.all false
set_option maxRecDepth 100000
set_option maxHeartbeats 4000000
namespace Rw
open PySem L2 PyProof.Rows
/-- the ways at a moment at which just the nodes of on have their new ones -/
def nowTab (dots : List Str) (o n : List (Str × V)) (on : List Str) : List (Str × V) := dots.map fun z => (z, look (if z ∈ on then n else o) z)
theorem nowTab_keys (dots : List Str) (o n : List (Str × V)) (on : List Str) : (nowTab dots o n on).map (·.1) = dots := by
  unfold nowTab
  rw [List.map_map]
  exact List.map_id _
theorem nowTab_snoc (l : List Str) (z : Str) (o n : List (Str × V)) (on : List Str) : nowTab (l ++ [z]) o n on = nowTab l o n on ++ [(z, look (if z ∈ on then n else o) z)] := by
  unfold nowTab
  rw [List.map_append]
  rfl
theorem nowTab_lead {dots : List Str} {e : Str} {o n : List (Str × V)} {on : List Str} (h1 : TabOk dots e o) (h2 : TabOk dots e n) (hz : ∀ y ∈ dots, Nm y) (he : Nm e) : LeadOk dots (nowTab dots o n on) := by
  refine ⟨nowTab_keys _ _ _ _, fun q hq => ?_, hz⟩
  obtain ⟨z, hzd, rfl⟩ := List.mem_map.mp hq
  show Spot (look (if z ∈ on then n else o) z)
  by_cases m : z ∈ on
  · rw [if_pos m]; exact place_spot (look_ok h2 hzd).1 hz he
  · rw [if_neg m]; exact place_spot (look_ok h1 hzd).1 hz he
section
variable {P : Program} {w : World} {K : PySem.W.Frag} {mg : Str → Option Value} {base : Heap}
def spWay (C : Addr) : Sp := fun vs H Q _ => ∃ (m : Addr) (e z : Str) (b : Bool) (ends dots ss ps : List Str) (o n : Str → List (Str × V)), vs = [.ref m, .str e, .str z, .bl b] ∧ NetAt C H m ends dots ss ps o n ∧ ends.length ≤ 100 ∧ e ∈ ends ∧ z ∈ dots ∧
  ∀ H', Evl.Ex H H' → Q (look (if b = true then n e else o e) z) H'
abbrev nWay : List Str := ["self", "goal", "node", "is_new", "old", "new"]
theorem sc_way : FnScope nWay ["self", "goal", "node", "is_new"] (defScope c_Net_way) := ⟨rfl, rfl, rfl, by decide +kernel, rfl, by decide +kernel, by decide +kernel⟩
theorem ok_way {f C : Addr} {fd : FuncData} (F : Fun K "way" "Net.way" c_Net_way f fd) (T : NetTxt K C) (C1 : Cal P w K mg base 3 "check_goal" ["net", "goal"] (spCheckGoal C)) (C2 : Cal P w K mg base 3 "check_node" ["net", "node"] (spCheckDot C)) : FnOk P w K mg base CX0 4 f fd ["self", "goal", "node", "is_new"] (spWay C) := by
  obtain ⟨f1, fd1, F1, k1, b1, g1⟩ := C1.ex
  obtain ⟨f2, fd2, F2, k2, b2, g2⟩ := C2.ex
  refine F.ok sc_way (fun vs H Q E h => ?_) (fun cdv A outer s H vs Q E hr h => ?_)
  · obtain ⟨m, e, z, b, ends, dots, ss, ps, o, n, rfl, _⟩ := h
    rfl
  · obtain ⟨m, e, z, b, ends, dots, ss, ps, o, n, rfl, N, few, he, hz, k⟩ := h
    have nd := sc_way.nd
    have hu := hu_of hr
    refine ⟨_, pss_cons (ps_expr (pe_call F1 hr rfl g1 k1 b1 .nil pass0 (pa_cons (pv 0) (pa_cons (pv 1) pa_nil))))
      (pss_cons (ps_expr (pe_call F2 hr rfl g2 k2 b2 .nil pass0 (pa_cons (pv 0) (pa_cons (pv 2) pa_nil))))
      (pss_cons (ps_asg (pe_dget hu (pe_fld (pv 0) rfl) (pv 1) (fun _ _ => rfl)) (pg_tup rfl (pgs_cons (pg_name (i := 4) nd rfl (.inl rfl)) (pgs_cons (pg_name (i := 5) nd rfl (.inl rfl)) pgs_nil))))
      (pss_one (ps_ret (pe_ifExp (pt_val (pv 3)) (pe_dget hu (pv 5) (pv 2) (fun _ _ => rfl)) (pe_dget hu (pv 4) (pv 2) (fun _ _ => rfl))))))), ?_⟩
    refine ⟨.ref m, rfl, .str e, rfl, m, e, ends, dots, ss, ps, o, n, rfl, N, few, he, fun H1 x1 => ?_⟩
    have N1 := N.to x1
    refine ⟨.ref m, rfl, .str z, rfl, m, z, ends, dots, ss, ps, o, n, rfl, N1, hz, ?_⟩
    obtain ⟨dx, T', N', S, Po, rows, h1, h2, h3, h4, h5, h6, h7⟩ := N1.ex
    obtain ⟨p, po, pn, hv, pa⟩ := h7 e he
    have ge : DGet H1 T' (.str e) (some (.ref p)) := by
      have q := DGet.k (k := Sum.inr e) h2
      rw [hv] at q
      exact q
    have c1 := (look_ok pa.o1 hz)
    have c2 := (look_ok pa.o2 hz)
    have go : DGet H1 po (.str z) (some (look (o e) z)) := by
      have q := DGet.k (k := Sum.inr z) pa.ho
      rw [c1.2, look_canon hz] at q
      exact q
    have gn : DGet H1 pn (.str z) (some (look (n e) z)) := by
      have q := DGet.k (k := Sum.inr z) pa.hn
      rw [c2.2, look_canon hz] at q
      exact q
    have kk := k H1 x1
    refine ⟨.ref m, rfl, m, C, dx, _, .ref T', rfl, h1, T.cl, T.nT, nflds_tables _ _ _ _, .str e, rfl, T', _, rfl, ge, p, _, rfl, Evl.st_of pa.hp, rfl, _, _, rfl, _, [], rfl, rfl, ?_⟩
    cases b with
    | true => exact ⟨.bl true, rfl, true, rfl, iteT ⟨.ref pn, rfl, .str z, rfl, pn, _, rfl, gn, kk⟩⟩
    | false => exact ⟨.bl false, rfl, false, rfl, iteF ⟨.ref po, rfl, .str z, rfl, po, _, rfl, go, kk⟩⟩
end
end Rw
end T_W1

section T_Y0
set_option Elab.async false
set_option linter.all false
set_option maxRecDepth 100000
set_option maxHeartbeats 4000000
namespace Rw
open PySem L2 PyProof.Rows
/-- a dict comprehension over any walk -/
theorem dc_it {J : It} {n : Nat} {G : Hp → Prop} {Y : Nat → Hp → V → Hp → Prop} (wk : Walk J n G Y) {g : TG} {tt : TT} {tk tv : TE} {vs : List Nat} {σ : L2.St} {H1 : Hp} {D : Addr} {Qd : Hp → Prop} (Pv : Nat → Hp → Prop) (start : Pv 0 (upd H1 D (.dK []))) (hG : ∀ i H, i ≤ n → Pv i H → G H)
    (turn : ∀ i x H H', i < n → Pv i H → Y i H x H' → g x (wipe σ vs) H' fun σ2 H2 => wipe σ2 vs = wipe σ vs ∧ tt σ2 H2 fun b H3 =>
      if b = true then tk σ2 H3 fun y H4 => tv σ2 H4 fun z H5 => ∃ kvs k, y = kV k ∧ H5 D = some (.dK kvs) ∧ kvs.length < sizeLine ∧ Pv (i + 1) (upd H5 D (.dK (putK kvs k z))) else Pv (i + 1) H3) (fin : ∀ H, Pv n H → Qd H) :
    ∃ W : Nat → Nat → Hp → Prop, (∃ m, W 0 m (upd H1 D (.dK []))) ∧ ∀ i m H, W i m H →
      (J.stop i H ∧ Qd H) ∨ (J.go i H ∧ ∃ Nx : Hp → Prop, (∀ H', Nx H' → ∃ m', m' < m ∧ W (i + 1) m' H') ∧ ∀ x H', J.yld i H x H' → g x (wipe σ vs) H' fun σ2 H2 => wipe σ2 vs = wipe σ vs ∧ tt σ2 H2 fun b H3 =>
        if b = true then tk σ2 H3 fun y H4 => tv σ2 H4 fun z H5 => ∃ kvs k, y = kV k ∧ H5 D = some (.dK kvs) ∧ kvs.length < sizeLine ∧ Nx (upd H5 D (.dK (putK kvs k z))) else Nx H3) := by
  refine ⟨fun i m H => m = n - i ∧ i ≤ n ∧ Pv i H, ⟨n, by simp, Nat.zero_le _, start⟩, ?_⟩
  rintro i m H ⟨rfl, hi, p⟩
  by_cases lt : i < n
  · exact .inr ⟨wk.goes i H lt (hG i H hi p), Pv (i + 1), fun H' p' => ⟨n - (i + 1), by omega, rfl, lt, p'⟩, fun x H' y => turn i x H H' lt p (wk.yields i H x H' lt (hG i H hi p) y)⟩
  · have e : i = n := by omega
    subst e
    exact .inl ⟨wk.stops H (hG _ H hi p), fin H p⟩
theorem RowsAt.ok {H : Hp} {ends dots : List Str} {rows : List (Str × V)} {o n : Str → List (Str × V)} (h : RowsAt H ends dots rows o n) (hk : rows.map (·.1) = ends) (nd : ends.Nodup) : RowsOk H dots rows := fun q hq => by
  obtain ⟨i, hi, rfl⟩ := List.getElem_of_mem hq
  have ge : ends[i]? = some rows[i].1 := by rw [← hk, List.getElem?_map, List.getElem?_eq_getElem hi]; rfl
  obtain ⟨p, po, pn, hv, pa⟩ := h rows[i].1 (List.mem_of_getElem? ge)
  have h1 := tkv_at hk nd ge hv
  unfold tkv at h1
  rw [List.map_map, List.getElem?_map, List.getElem?_eq_getElem hi] at h1
  exact ⟨p, po, pn, _, _, Option.some.inj h1, pa⟩
/-- new tables, told by their addresses: goal, pair, old, new -/
def tabRs (T : List (Str × Addr × Addr × Addr)) : List (Str × V) := T.map fun t => (t.1, V.ref t.2.1)
theorem tabRs_keys (T : List (Str × Addr × Addr × Addr)) : (tabRs T).map (·.1) = T.map (·.1) := by
  unfold tabRs
  rw [List.map_map]
  rfl
structure TabsAt (H0 H : Hp) (D : Addr) (T : List (Str × Addr × Addr × Addr)) (ends dots : List Str) (o n : Str → List (Str × V)) : Prop where
  hd : H D = some (.dK (tkv (tabRs T)))
  ks : T.map (·.1) = ends
  pa : ∀ t ∈ T, PairAt H dots t.1 t.2.1 t.2.2.1 t.2.2.2 (o t.1) (n t.1) ∧ H0 t.2.1 = none ∧ H0 t.2.2.1 = none ∧ H0 t.2.2.2 = none
  nd : (D :: T.flatMap fun t => [t.2.2.1, t.2.2.2]).Nodup
theorem TabsAt.get {H0 H : Hp} {D : Addr} {T : List (Str × Addr × Addr × Addr)} {ends dots : List Str} {o n : Str → List (Str × V)} (h : TabsAt H0 H D T ends dots o n) (en : ends.Nodup) {t : Str × Addr × Addr × Addr} (ht : t ∈ T) : valV (tkv (tabRs T)) (Sum.inr t.1) = some (.ref t.2.1) := by
  have ks := h.ks
  clear h
  induction T generalizing ends with
  | nil => cases ht
  | cons u T ih =>
    subst ks
    obtain ⟨h1, h2⟩ := List.nodup_cons.mp en
    show valV ((Sum.inr u.1, V.ref u.2.1) :: tkv (tabRs T)) (Sum.inr t.1) = _
    rcases List.mem_cons.mp ht with rfl | ht
    · exact valV_pos (p := ((Sum.inr t.1 : Key), V.ref t.2.1)) rfl
    · rw [valV_neg (fun e => h1 (by have e' : u.1 = t.1 := Sum.inr.inj e; show u.1 ∈ T.map (·.1); rw [e']; exact List.mem_map_of_mem ht))]
      exact ih h2 ht rfl
theorem TabsAt.rows {H0 H : Hp} {D : Addr} {T : List (Str × Addr × Addr × Addr)} {ends dots : List Str} {o n : Str → List (Str × V)} (h : TabsAt H0 H D T ends dots o n) (en : ends.Nodup) : RowsAt H ends dots (tabRs T) o n := fun e he => by
  rw [← h.ks] at he
  obtain ⟨t, ht, rfl⟩ := List.mem_map.mp he
  exact ⟨_, _, _, h.get en ht, (h.pa t ht).1⟩
section
variable {P : Program} {w : World} {K : PySem.W.Frag} {mg : Str → Option Value} {base : Heap}
def spTabs (C : Addr) : Sp := fun vs H Q _ => ∃ (m : Addr) (ends dots ss ps : List Str) (o n : Str → List (Str × V)), vs = [.ref m] ∧ NetAt C H m ends dots ss ps o n ∧ 0 < ends.length ∧ ends.length ≤ 100 ∧ ends.Nodup ∧
  ∀ D T H', Evl.Ex H H' → H D = none → TabsAt H H' D T ends dots (fun e => canon dots (o e)) (fun e => canon dots (n e)) → Q (.ref D) H'
abbrev nTabs : List Str := ["self", "goal", "old", "new"]
theorem sc_tabs : FnScope nTabs ["self"] (defScope c_Net_tables) := ⟨rfl, rfl, rfl, by decide +kernel, rfl, by decide +kernel, by decide +kernel⟩
theorem ok_tabs {f C : Addr} {fd : FuncData} (F : Fun K "tables" "Net.tables" c_Net_tables f fd) (T : NetTxt K C) (mDict : mg "dict" = none) : FnOk P w K mg base CX0 1 f fd ["self"] (spTabs C) := by
  refine F.ok sc_tabs (fun vs H Q E h => ?_) (fun cdv A outer s H vs Q E hr h => ?_)
  · obtain ⟨m, ends, dots, ss, ps, o, n, rfl, _⟩ := h
    rfl
  · obtain ⟨m, ends, dots, ss, ps, o, n, rfl, N, e0, few, en, k⟩ := h
    have nd := sc_tabs.nd
    refine ⟨_, pss_one (ps_ret (pe_lock (pe_dc (own := [("goal", 1), ("old", 2), ("new", 3)]) (g := gTup K 2 (gCons (gName 1) (gCons (gTup K 2 (gCons (gName 2) (gCons (gName 3) gNil))) gNil))) (tt := tYes) (tk := tVar 1) rfl nd (pi_items (pe_fld (pv 0) rfl))
      (blkOk_by (own := [("goal", 1), ("old", 2), ("new", 3)]) (N := nTabs) (sc := defScope c_Net_tables) (by decide +kernel))
      (fun _ _ _ _ _ => pg_tup rfl (pgs_cons (pg_name (i := 1) nd rfl (Or.inl rfl)) (pgs_cons (pg_tup rfl (pgs_cons (pg_name (i := 2) nd rfl (Or.inl rfl)) (pgs_cons (pg_name (i := 3) nd rfl (Or.inl rfl)) pgs_nil))) pgs_nil)))
      (fun _ _ _ _ _ => pts_nil) (fun _ _ _ _ _ => pv 1)
      (fun _ _ _ _ _ => pe_tup (pa_cons (pe_callTy call_dictD (by rfl) mDict (by decide +kernel) (pa_cons (pv 2) pa_nil)) (pa_cons (pe_callTy call_dictD (by rfl) mDict (by decide +kernel) (pa_cons (pv 3) pa_nil)) pa_nil)))))), ?_⟩
    obtain ⟨dx, T', N', S, Po, rows, h1, h2, h3, h4, h5, h6, h7⟩ := N.ex
    have rl : rows.length = ends.length := by rw [← h6, List.length_map]
    have rne : rows ≠ [] := fun z => by rw [z] at rl; simp at rl; omega
    have ro := h7.ok h6 en
    refine ⟨T', .dK (tkv rows), h2, trivial, fun od => ?_⟩
    have locked : (upd H T' (.frz od (.dK (tkv rows)))) T' = some (.frz od (.dK (tkv rows))) := upd_same
    have up : ∀ {a : Addr} {u : HO}, H a = some u → a ≠ T' → (upd H T' (.frz od (.dK (tkv rows)))) a = some u := fun {a u} h ne => by rw [upd_ne ne]; exact h
    have back : ∀ {H4 : Hp}, Evl.Ex (upd H T' (.frz od (.dK (tkv rows)))) H4 → Evl.Ex H (upd H4 T' (.dK (tkv rows))) := fun {H4} e a u h => by
      by_cases q : a = T'
      · subst q
        rw [upd_same, ← h2, h]
      · rw [upd_ne q]
        exact e _ _ (by rw [upd_ne q]; exact h)
    generalize upd H T' (.frz od (.dK (tkv rows))) = HL at locked up back
    refine ⟨.ref m, rfl, m, C, dx, _, .ref T', rfl, up h1 (ne_of h1 h2 (by intro z; cases z)), T.cl, T.nT, nflds_tables _ _ _ _, T', od, _, rfl, locked, fun D hD => dc_it walk_items
      (fun i H' => i ≤ ends.length ∧ Evl.Ex HL H' ∧ ∃ rs : List (Str × Addr × Addr × Addr), H' D = some (.dK (tkv (tabRs rs))) ∧ rs.map (·.1) = ends.take i ∧
        (∀ q ∈ rs, PairAt H' dots q.1 q.2.1 q.2.2.1 q.2.2.2 (canon dots (o q.1)) (canon dots (n q.1)) ∧ HL q.2.1 = none ∧ HL q.2.2.1 = none ∧ HL q.2.2.2 = none) ∧ (D :: rs.flatMap fun t => [t.2.2.1, t.2.2.2]).Nodup)
      ⟨Nat.zero_le _, Evl.Ex.new hD, [], upd_same, rfl, (fun q hq => by cases hq), List.nodup_cons.mpr ⟨by simp, List.nodup_nil⟩⟩ (fun i H' _ h => h.2.1 _ _ locked) ?_ ?_⟩
    · rintro i x H4 H4' hi ⟨_, x4, rs, d4, hk, hpr, hnd⟩ ⟨Tt, xk, xv, rfl, hTt, rfl, hxk, hxv⟩
      rw [tkv_len, rl] at hi
      have gi : ends[i]? = some ends[i] := List.getElem?_eq_getElem hi
      obtain ⟨p, po, pn, hv, pa⟩ := h7 ends[i] (List.getElem_mem hi)
      have ev : xv = .ref p := by
        have z := tkv_at h6 en gi hv
        rw [List.getElem?_map] at z
        exact Option.some.inj (hxv.symm.trans z)
      have ek : xk = .str ends[i] := by
        have z : ((tkv rows).map fun kv => kV kv.1)[i]? = some (.str ends[i]) := by rw [tkv_keysV, h6, List.getElem?_map, gi]; rfl
        rw [List.getElem?_map] at z
        exact Option.some.inj (hxk.symm.trans z)
      subst ev ek
      have n1 : p ≠ T' := ne_of pa.hp h2 (by intro z; cases z)
      have n2 : po ≠ T' := tab_ne h2 ro rne pa.ho pa.o1
      have n3 : pn ≠ T' := tab_ne h2 ro rne pa.hn pa.o2
      have y1 : Evl.Ex H4 (upd H4 Tt (.tup [.str ends[i], .ref p])) := Evl.Ex.new hTt
      have t1 : (upd H4 Tt (.tup [.str ends[i], .ref p])) Tt = some (.tup [.str ends[i], .ref p]) := upd_same
      generalize upd H4 Tt (.tup [.str ends[i], .ref p]) = H5 at y1 t1
      have x5 := x4.trans y1
      have zn : ends[i] ∉ ends.take i := fun hm => by
        have q1 : (ends.take (i + 1)).Nodup := en.sublist (List.take_sublist _ _)
        rw [List.take_add_one, gi] at q1
        exact (List.nodup_append.mp q1).2.2 _ hm _ (List.mem_singleton.mpr rfl) rfl
      refine ⟨Tt, _, rfl, Evl.st_of t1, rfl, _, _, rfl, _, [], rfl, p, _, rfl, Evl.st_of (x5 _ _ (up pa.hp n1)), rfl, _, _, rfl, _, [], rfl, rfl, rfl, rfl, ?_⟩
      refine yes_if ?_
      refine ⟨.str ends[i], rfl, .ref po, rfl, po, _, rfl, .inl (x5 _ _ (up pa.ho n2)), fun po' hpo' => ?_⟩
      have y2 : Evl.Ex H5 (upd H5 po' (.dK (tkv (canon dots (o ends[i]))))) := Evl.Ex.new hpo'
      have q2 : (upd H5 po' (.dK (tkv (canon dots (o ends[i]))))) po' = some (.dK (tkv (canon dots (o ends[i])))) := upd_same
      have f2 : H4 po' = none := by
        cases z : H4 po' with
        | none => rfl
        | some u => rw [y1 _ _ z] at hpo'; cases hpo'
      generalize upd H5 po' (.dK (tkv (canon dots (o ends[i])))) = H6 at y2 q2
      refine ⟨.ref pn, rfl, pn, _, rfl, .inl ((x5.trans y2) _ _ (up pa.hn n3)), fun pn' hpn' => ⟨by show 2 ≤ sizeLine; decide, fun p' hp' => ?_⟩⟩
      have y3 : Evl.Ex H6 (upd (upd H6 pn' (.dK (tkv (canon dots (n ends[i]))))) p' (.tup [.ref po', .ref pn'])) := (Evl.Ex.new hpn').trans (Evl.Ex.new hp')
      have q3 : (upd (upd H6 pn' (.dK (tkv (canon dots (n ends[i]))))) p' (.tup [.ref po', .ref pn'])) pn' = some (.dK (tkv (canon dots (n ends[i])))) := Evl.Ex.new hp' _ _ upd_same
      have q1 : (upd (upd H6 pn' (.dK (tkv (canon dots (n ends[i]))))) p' (.tup [.ref po', .ref pn'])) p' = some (.tup [.ref po', .ref pn']) := upd_same
      have f3 : H4 pn' = none := by
        cases z : H4 pn' with
        | none => rfl
        | some u => rw [(y1.trans y2) _ _ z] at hpn'; cases hpn'
      generalize upd (upd H6 pn' (.dK (tkv (canon dots (n ends[i]))))) p' (.tup [.ref po', .ref pn']) = H7 at y3 q3 q1
      have x7 := x5.trans (y2.trans y3)
      have d7 := (y1.trans (y2.trans y3)) _ _ d4
      have q2' := y3 _ _ q2
      have l4 := x4 _ _ locked
      have back4 : ∀ {a : Addr}, H4 a = none → HL a = none := fun {a} h => by
        cases z : HL a with
        | none => rfl
        | some u => rw [x4 _ _ z] at h; cases h
      have f1 : H4 p' = none := by
        cases z : H4 p' with
        | none => rfl
        | some u =>
          have w6 : Evl.Ex H4 (upd H6 pn' (.dK (tkv (canon dots (n ends[i]))))) := (y1.trans y2).trans (Evl.Ex.new hpn')
          rw [w6 _ _ z] at hp'
          cases hp'
      have rsl : rs.length ≤ 100 := by
        have := congrArg List.length hk
        rw [List.length_map, List.length_take] at this
        omega
      -- what was made stands apart
      have apart : ∀ a ∈ D :: rs.flatMap (fun t => [t.2.2.1, t.2.2.2]), (H4 a).isSome = true := fun a ha => by
        rcases List.mem_cons.mp ha with rfl | ha
        · rw [d4]; rfl
        · obtain ⟨t, ht, ha⟩ := List.mem_flatMap.mp ha
          have pt := (hpr t ht).1
          rcases List.mem_cons.mp ha with rfl | ha
          · rw [pt.ho]; rfl
          · rw [List.mem_singleton.mp ha, pt.hn]; rfl
      have no_po : po' ∉ D :: rs.flatMap fun t => [t.2.2.1, t.2.2.2] := fun m => by
        have := apart _ m
        rw [f2] at this
        cases this
      have no_pn : pn' ∉ D :: rs.flatMap fun t => [t.2.2.1, t.2.2.2] := fun m => by
        have := apart _ m
        rw [f3] at this
        cases this
      have n_on : po' ≠ pn' := ne_of_none q2 hpn'
      have m1 : p' ≠ D := ne_of q1 d7 (by intro z; cases z)
      have m2 : po' ≠ D := (ne_of_none d4 f2).symm
      have m3 : pn' ≠ D := (ne_of_none d4 f3).symm
      have et : tabRs (rs ++ [(ends[i], p', po', pn')]) = tabRs rs ++ [(ends[i], V.ref p')] := by unfold tabRs; rw [List.map_append]; rfl
      have lenR : (tkv (tabRs rs)).length ≤ 100 := by rw [tkv_len]; unfold tabRs; rw [List.length_map]; exact rsl
      refine ⟨_, Sum.inr ends[i], rfl, d7, small1000 (by omega), hi, x7.mut hD, rs ++ [(ends[i], p', po', pn')], ?_, ?_, ?_, ?_⟩
      · rw [upd_same, tkv_new (by rw [tabRs_keys, hk]; exact zn), et]
      · rw [List.map_append, hk, List.take_add_one, gi]
        rfl
      · have keep : ∀ {a : Addr} {u : HO}, H7 a = some u → a ≠ D → (upd H7 D (.dK (putK (tkv (tabRs rs)) (Sum.inr ends[i]) (V.ref p')))) a = some u := fun {a u} h ne => by rw [upd_ne ne]; exact h
        intro q hq
        rcases List.mem_append.mp hq with hq | hq
        · obtain ⟨pa1, z1, z2, z3⟩ := hpr q hq
          have pw := pa1.ex (y1.trans (y2.trans y3))
          have ne2 : q.2.2.1 ≠ D := fun e => (List.nodup_cons.mp hnd).1 (e ▸ List.mem_flatMap.mpr ⟨q, hq, List.mem_cons_self⟩)
          have ne3 : q.2.2.2 ≠ D := fun e => (List.nodup_cons.mp hnd).1 (e ▸ List.mem_flatMap.mpr ⟨q, hq, List.mem_cons_of_mem _ List.mem_cons_self⟩)
          exact ⟨⟨keep pw.hp (ne_of pw.hp d7 (by intro z; cases z)), keep pw.ho ne2, keep pw.hn ne3, pw.o1, pw.o2⟩, z1, z2, z3⟩
        · rw [List.mem_singleton.mp hq]
          exact ⟨⟨keep q1 m1, keep q2' m2, keep q3 m3, pa.o1, pa.o2⟩, back4 f1, back4 f2, back4 f3⟩
      · rw [List.flatMap_append]
        show ((D :: rs.flatMap _) ++ [po', pn']).Nodup
        refine List.nodup_append.mpr ⟨hnd, List.nodup_cons.mpr ⟨by simpa using n_on, List.nodup_cons.mpr ⟨by simp, List.nodup_nil⟩⟩, fun a ha b hb e => ?_⟩
        subst e
        rcases List.mem_cons.mp hb with rfl | hb
        · exact no_po ha
        · rw [List.mem_singleton.mp hb] at ha
          exact no_pn ha
    · rintro H4 ⟨_, x4, rs, d4, hk, hpr, hnd⟩
      rw [tkv_len, rl, List.take_length] at hk
      refine ⟨x4 _ _ locked, ?_⟩
      have nDT : D ≠ T' := (ne_of_none locked hD).symm
      have old : ∀ {a : Addr}, HL a = none → H a = none := fun {a} h => by
        by_cases e : a = T'
        · rw [e, locked] at h; cases h
        · cases z : H a with
          | none => rfl
          | some u => rw [up z e] at h; cases h
      have offT : ∀ {a : Addr}, HL a = none → a ≠ T' := fun {a} h e => by rw [e, locked] at h; cases h
      refine k D rs _ (back x4) (old hD) ⟨by rw [upd_ne nDT]; exact d4, hk, fun t ht => ?_, hnd⟩
      obtain ⟨pa1, z1, z2, z3⟩ := hpr t ht
      exact ⟨⟨by rw [upd_ne (offT z1)]; exact pa1.hp, by rw [upd_ne (offT z2)]; exact pa1.ho, by rw [upd_ne (offT z3)]; exact pa1.hn, pa1.o1, pa1.o2⟩, old z1, old z2, old z3⟩
end
end Rw
end T_Y0

section T_W3
set_option Elab.async false
set_option linter.all false
set_option maxRecDepth 100000
set_option maxHeartbeats 4000000
/-! ways_at as it stands from 57648cc on: by the tables themselves -/
namespace Rw
open PySem L2 PyProof.Rows
section
variable {P : Program} {w : World} {K : PySem.W.Frag} {mg : Str → Option Value} {base : Heap}
theorem dgK {H : Hp} {a : Addr} {kvs : List (Key × V)} {k : Key} {v : V} (h : H a = some (.dK kvs)) (hv : valV kvs k = some v) : DGet H a (kV k) (some v) := by
  have := DGet.k (k := k) h
  rw [hv] at this
  exact this
def spWaysAt (C : Addr) : Sp := fun vs H Q _ => ∃ (m a b : Addr) (e : Str) (zs ys ends dots ss ps : List Str) (o n : Str → List (Str × V)), vs = [.ref m, .ref a, .ref b, .str e] ∧ NetAt C H m ends dots ss ps o n ∧ ends.length ≤ 100 ∧ ends.Nodup ∧ dots.length ≤ 100 ∧ dots.Nodup ∧ e ∈ ends ∧
  SqT K H a (zs.map V.str) ∧ SqT K H b (ys.map V.str) ∧ ∀ D H', Evl.Ex H H' → H D = none → H' D = some (.dK (tkv (nowTab dots (o e) (n e) (zs ++ ys)))) → Q (.ref D) H'
abbrev nWaysAt : List Str := ["net", "done", "changed", "goal", "old", "new", "node"]
theorem sc_ways_at : FnScope nWaysAt ["net", "done", "changed", "goal"] (defScope p_ways_at) := ⟨rfl, rfl, rfl, by decide +kernel, rfl, by decide +kernel, by decide +kernel⟩
theorem ok_ways_at {f C : Addr} {fd : FuncData} (F : Fun K "ways_at" "ways_at" p_ways_at f fd) (T : NetTxt K C) (P1 : Prp P w K mg base C 1 "tables" (spTabs C)) (Pg : Prp P w K mg base C 1 "nodes" (spDots C)) :
    FnOk P w K mg base CX0 3 f fd ["net", "done", "changed", "goal"] (spWaysAt (K := K) C) := by
  obtain ⟨p1, g1, fd1, at1, F1, b1⟩ := P1.ex
  obtain ⟨p2, g2, fd2, at2, F2, b2⟩ := Pg.ex
  refine F.ok sc_ways_at (fun vs H Q E h => ?_) (fun cdv A outer s H vs Q E hr h => ?_)
  · obtain ⟨m, a, b, e, zs, ys, ends, dots, ss, ps, o, n, rfl, _⟩ := h
    rfl
  · obtain ⟨m, a, b, e, zs, ys, ends, dots, ss, ps, o, n, rfl, N, few, en, few2, dn, he, ha, hb, k⟩ := h
    have nd := sc_ways_at.nd
    have hu := hu_of hr
    refine ⟨_, pss_cons (ps_asg (pe_dget hu (pe_prop (pv 0) T.cl at1 F1 hr b1 .nil pass0 rfl) (pv 3) (fun _ _ => rfl)) (pg_tup rfl (pgs_cons (pg_name (i := 4) nd rfl (.inr rfl)) (pgs_cons (pg_name (i := 5) nd rfl (.inr rfl)) pgs_nil))))
      (pss_one (ps_ret (pe_dc (own := [("node", 6)]) (g := gName 6) (tt := tYes) (tk := tVar 6)
          (tv := tIf (tOr (tTest (tOp (rIn K false) (tVar 6) (tVar 1))) (tTest (tOp (rIn K false) (tVar 6) (tVar 2)))) (tDGet (tVar 5) (tVar 6)) (tDGet (tVar 4) (tVar 6))) rfl nd (pi_tup (pe_prop (pv 0) T.cl at2 F2 hr b2 .nil pass0 rfl)) (blkOk_by (own := [("node", 6)]) (N := nWaysAt) (sc := defScope p_ways_at) (by decide +kernel))
        (fun _ _ _ _ _ => pg_name (i := 6) nd rfl (Or.inl rfl)) (fun _ _ _ _ _ => pts_nil) (fun _ _ _ _ _ => pv 6)
        (fun _ _ _ _ _ => pe_ifExp (PW.pt (pw_or (pt_cmpR op_in_seq (pv 6) (pv 1) rfl) (pw_or1 (pt_cmpR op_in_seq (pv 6) (pv 2) rfl)))) (pe_dget hu (pv 5) (pv 6) (fun _ _ => rfl)) (pe_dget hu (pv 4) (pv 6) (fun _ _ => rfl)))))), ?_⟩
    have N2 := N
    obtain ⟨dx, T', N', S, Po, rows, h1, h2, h3, h4, h5, h6, h7⟩ := N.ex
    have e0 : 0 < ends.length := List.length_pos_of_mem he
    refine ⟨.ref m, rfl, m, dx, _, rfl, h1, m, ends, dots, ss, ps, o, n, rfl, N2, e0, few, en, fun D0 Tb H0 x0 hD0 TA => ?_⟩
    obtain ⟨t, ht, et⟩ : ∃ t ∈ Tb, t.1 = e := by
      rw [← TA.ks] at he
      obtain ⟨t, ht, e2⟩ := List.mem_map.mp he
      exact ⟨t, ht, e2⟩
    obtain ⟨pa, _⟩ := TA.pa t ht
    have hv := TA.get en ht
    rw [et] at pa hv
    refine ⟨.str e, rfl, D0, _, rfl, dgK (k := Sum.inr e) TA.hd hv, t.2.1, _, rfl, Evl.st_of pa.hp, rfl, _, _, rfl, _, [], rfl, rfl, ?_⟩
    refine ⟨.ref m, rfl, m, dx, _, rfl, x0 _ _ h1, m, ends, dots, ss, ps, o, n, rfl, N2.to x0, fun q hq => ⟨q, rfl, ⟨_, Evl.st_of hq⟩, fun D hD => dc_tup (K := K) (a := q) (xs := dots.map V.str)
      (fun i H' => i ≤ dots.length ∧ Evl.Ex H0 H' ∧ H' D = some (.dK (tkv (nowTab (dots.take i) (o e) (n e) (zs ++ ys))))) ⟨Nat.zero_le _, Evl.Ex.new hD, upd_same⟩ (fun i H' _ h => Evl.st_of (h.2.1 _ _ hq)) ?_ ?_⟩⟩
    · rintro i x H1 hi ⟨_, x1, d1⟩
      obtain ⟨z, hz, rfl⟩ := str_at hi
      have hil : i < dots.length := (List.getElem?_eq_some_iff.mp hz).1
      have zd := List.mem_of_getElem? hz
      have et : dots.take (i + 1) = dots.take i ++ [z] := by rw [List.take_add_one, hz]; rfl
      have zn : z ∉ dots.take i := fun hm => by
        have h1 : (dots.take (i + 1)).Nodup := dn.sublist (List.take_sublist _ _)
        rw [et] at h1
        exact (List.nodup_append.mp h1).2.2 z hm z (List.mem_singleton.mpr rfl) rfl
      have c1 := look_ok pa.o1 zd
      have c2 := look_ok pa.o2 zd
      have go : DGet H1 t.2.2.1 (.str z) (some (look (o e) z)) := by
        have := dgK (k := Sum.inr z) (x1 _ _ pa.ho) c1.2
        rw [look_canon zd] at this
        exact this
      have gn : DGet H1 t.2.2.2 (.str z) (some (look (n e) z)) := by
        have := dgK (k := Sum.inr z) (x1 _ _ pa.hn) c2.2
        rw [look_canon zd] at this
        exact this
      refine ⟨rfl, ?_⟩
      refine yes_if ?_
      refine ⟨.str z, rfl, ?_⟩
      have fin : ∀ v : V, v = look (if z ∈ zs ++ ys then n e else o e) z → ∃ kvs k, V.str z = kV k ∧ H1 D = some (.dK kvs) ∧ kvs.length < sizeLine ∧
          (i + 1 ≤ dots.length ∧ Evl.Ex H0 (upd H1 D (.dK (putK kvs k v))) ∧ (upd H1 D (.dK (putK kvs k v))) D = some (.dK (tkv (nowTab (dots.take (i + 1)) (o e) (n e) (zs ++ ys))))) := by
        rintro v rfl
        refine ⟨_, Sum.inr z, rfl, d1, ?_, hil, x1.mut hD, ?_⟩
        · rw [tkv_len]
          unfold nowTab
          rw [List.length_map, List.length_take]
          exact small1000 (by omega)
        · rw [upd_same, tkv_new (by rw [nowTab_keys]; exact zn), et, nowTab_snoc]
      refine ⟨.str z, rfl, .ref a, rfl, a, zs.map V.str, rfl, .inr (Evl.ex_t (x0.trans x1) ha), rfl, flat_strs zs, ?_⟩
      rw [inV_str]
      by_cases m1 : z ∈ zs
      · rw [decide_eq_true m1]
        refine ⟨true, rfl, iteT (iteT ?_)⟩
        exact ⟨.ref t.2.2.2, rfl, .str z, rfl, t.2.2.2, _, rfl, gn, fin _ (by rw [if_pos (List.mem_append_left _ m1)])⟩
      · rw [decide_eq_false m1]
        refine ⟨false, rfl, iteF ?_⟩
        refine ⟨.str z, rfl, .ref b, rfl, b, ys.map V.str, rfl, .inr (Evl.ex_t (x0.trans x1) hb), rfl, flat_strs ys, ?_⟩
        rw [inV_str]
        by_cases m2 : z ∈ ys
        · rw [decide_eq_true m2]
          refine ⟨true, rfl, iteT ?_⟩
          exact ⟨.ref t.2.2.2, rfl, .str z, rfl, t.2.2.2, _, rfl, gn, fin _ (by rw [if_pos (List.mem_append_right _ m2)])⟩
        · rw [decide_eq_false m2]
          refine ⟨false, rfl, iteF ?_⟩
          exact ⟨.ref t.2.2.1, rfl, .str z, rfl, t.2.2.1, _, rfl, go, fin _ (by rw [if_neg (fun h => (List.mem_append.mp h).elim m1 m2)])⟩
    · rintro H1 ⟨_, x1, d1⟩
      rw [List.length_map, List.take_length] at d1
      exact k D _ (x0.trans x1) (ex_none x0 hD) d1
end
end Rw
end T_W3

section T_P1
set_option Elab.async false
set_option linter.all false
set_option maxRecDepth 100000
set_option maxHeartbeats 4000000
namespace Rw
open PySem L2 PyProof.Rows
section
variable {P : Program} {w : World} {K : PySem.W.Frag} {mg : Str → Option Value} {base : Heap}
/-! ### is_list -/
def spIsList (K : PySem.W.Frag) : Sp := fun vs H Q _ => ∃ (a : Addr) (xs : List V), vs = [.ref a] ∧ (SqL K H a xs ∨ SqT K H a xs) ∧ ∀ H', Evl.Ex H H' → Q (.bl true) H'
theorem sc_is_list : FnScope ["value"] ["value"] (defScope p_is_list) := ⟨rfl, rfl, rfl, by decide +kernel, rfl, by decide +kernel, by decide +kernel⟩
theorem ok_is_list {f : Addr} {fd : FuncData} (F : Fun K "is_list" "is_list" p_is_list f fd) (mIsi : mg "isinstance" = none) (mList : mg "list" = none) (mTup : mg "tuple" = none) : FnOk P w K mg base CX0 1 f fd ["value"] (spIsList K) := by
  refine F.ok sc_is_list (fun vs H Q E h => ?_) (fun cdv A outer s H vs Q E hr h => ?_)
  · obtain ⟨a, zs, rfl, _⟩ := h
    rfl
  · obtain ⟨a, zs, rfl, hS, k⟩ := h
    refine ⟨_, pss_one (ps_ret (pe_callB call_isiT (by rfl) mIsi (by decide +kernel) (pa_cons (pv 0) (pa_cons (pe_tup (pa_cons (pe_bltn (v := .ty "list") (by rfl) mList (by decide +kernel) rfl) (pa_cons (pe_bltn (v := .ty "tuple") (by rfl) mTup (by decide +kernel) rfl) pa_nil))) pa_nil)))), ?_⟩
    refine ⟨.ref a, rfl, by show 2 ≤ sizeLine; decide, fun t ht => ?_⟩
    have e := Evl.Ex.new (o := .tup [.ty "list", .ty "tuple"]) ht
    rcases hS with hS | hS
    · exact ⟨.ref a, t, _, .type "list", _, true, rfl, upd_same, .cons (.ty _) (.cons (.ty _) .nil), ty_sl (Evl.ex_l e hS), kitAny_cons (b := true) (kit_ty (by decide +kernel)) (fun z => by cases z) (fun _ => rfl), k _ e⟩
    · exact ⟨.ref a, t, _, .type "tuple", _, true, rfl, upd_same, .cons (.ty _) (.cons (.ty _) .nil), ty_st (Evl.ex_t e hS), kitAny_cons (b := false) (kit_ty (by decide +kernel)) (fun _ => kitAny_cons (b := true) (kit_ty (by decide +kernel)) (fun z => by cases z) (fun _ => rfl)) (fun z => by cases z), k _ e⟩
/-! ### is_name -/
def spIsName : Sp := fun vs H Q _ => ∃ z : Str, vs = [.str z] ∧ Nm z ∧ ∀ H', Evl.Ex H H' → Q (.bl true) H'
abbrev nIsName : List Str := ["value", "sign"]
theorem sc_is_name : FnScope nIsName ["value"] (defScope p_is_name) := ⟨rfl, rfl, rfl, by decide +kernel, rfl, by decide +kernel, by decide +kernel⟩
theorem ok_is_name {f : Addr} {fd : FuncData} {tk : Tok} (F : Fun K "is_name" "is_name" p_is_name f fd) (mIsi : mg "isinstance" = none) (mStr : mg "str" = none) (mLen : mg "len" = none) (mAll : mg "all" = none) (mMost : mg "MOST_LETTERS" = some (.int 6 tk)) :
    FnOk P w K mg base CX0 1 f fd ["value"] spIsName := by
  refine F.ok sc_is_name (fun vs H Q E h => ?_) (fun cdv A outer s H vs Q E hr h => ?_)
  · obtain ⟨z, rfl, _⟩ := h
    rfl
  · obtain ⟨z, rfl, hz, k⟩ := h
    have nd := sc_is_name.nd
    refine ⟨_, pss_cons (ps_if (PW.pt (pw_or (pt_not (pt_val (pe_callB call_isi (by rfl) mIsi (by decide +kernel) (pa_cons (pv 0) (pa_cons (pe_bltn (v := .ty "str") (by rfl) mStr (by decide +kernel) rfl) pa_nil)))))
          (pw_or1 (pt_not (pt_chain op_le op_le pe_int (pe_callB call_len (by rfl) mLen PySem.boot_len (pa_cons (pv 0) pa_nil)) (pe_glob (v := .int 6) (by rfl) mMost ⟨_, rfl⟩))))))
        (pss_one (ps_ret pe_bl)) pss_nil)
      (pss_one (ps_ret (pe_callB (cr_all rfl) (by rfl) mAll (by decide +kernel) (pa_cons (pe_lc (own := [("sign", 1)]) (g := gName 1) (tt := tYes) rfl nd (pi_str (pv 0)) (blkOk_by (own := [("sign", 1)]) (N := nIsName) (sc := defScope p_is_name) (by decide +kernel))
        (fun _ _ _ _ _ => pg_name (i := 1) nd rfl (Or.inl rfl)) (fun _ _ _ _ _ => pts_nil) (fun _ _ _ _ _ => pe_chain op_le_str op_le_str pe_str (pv 1) pe_str)) pa_nil)))), ?_⟩
    obtain ⟨l, rfl, h1, h2, h3⟩ := hz
    have hl : (SX.S l).length = l.length := SX.S_len l
    refine ⟨.str (SX.S l), rfl, .str (SX.S l), .ty "str", _, _, true, rfl, .ty _, .base (.str _), kit_ty (by decide +kernel), true, rfl, ?_⟩
    refine ⟨.str (SX.S l), rfl, .str (SX.S l), l.length, rfl, ⟨Nat.le_of_lt (small1000 (by omega)), hl.symm⟩, 1, (l.length : Int), rfl, rfl, true, ?_, ?_⟩
    · exact congrArg V.bl (decide_eq_true (show (1 : Int) ≤ (l.length : Int) by omega))
    · refine ⟨_, 6, rfl, rfl, true, ?_, ?_⟩
      · exact congrArg V.bl (decide_eq_true (show (l.length : Int) ≤ 6 by omega))
      · refine ⟨.str (SX.S l), rfl, _, rfl, fun D hD => lc_it walk_str (fun i H' => i ≤ l.length ∧ H' = upd H D (.lst ((List.replicate i true).map V.bl))) ⟨Nat.zero_le _, rfl⟩ (fun _ _ _ _ => trivial) ?_ ?_⟩
        · rintro i x H1 H1' hi ⟨_, rfl⟩ ⟨rfl, ch, hch, rfl⟩
          have hil : i < l.length := by simpa using hi
          have hm : ch ∈ l := by
            have z : l[i]? = some ch := by simpa using hch
            exact List.mem_of_getElem? z
          refine ⟨rfl, ?_⟩
          refine yes_if ?_
          have hb := h3 ch hm
          refine ⟨_, rfl, _, _, rfl, rfl, true, congrArg V.bl (sign_le hb.1), ?_⟩
          refine ⟨_, _, rfl, rfl, ?_⟩
          have e2 : (V.bl (!decide (([122] : List Nat) < [ch]))) = .bl true := congrArg V.bl (sign_le hb.2)
          refine ⟨_, upd_same, by rw [List.length_map, List.length_replicate]; exact small1000 (by omega), hil, ?_⟩
          rw [upd_upd, List.replicate_succ', List.map_append]
          show upd H D (.lst (_ ++ [V.bl (!decide (([122] : List Nat) < [ch]))])) = _
          rw [e2]
          rfl
        · rintro H1 ⟨_, rfl⟩
          refine ⟨D, _, rfl, Evl.sq_of upd_same, ?_⟩
          rw [all_trues]
          exact k _ (Evl.Ex.new hD)
end
end Rw
end T_P1

section T_P2
set_option Elab.async false
set_option linter.all false
set_option maxRecDepth 100000
set_option maxHeartbeats 4000000
namespace Rw
open PySem L2 PyProof.Rows
section
variable {P : Program} {w : World} {K : PySem.W.Frag} {mg : Str → Option Value} {base : Heap}
/-! ### is_place -/
def spPlace (K : PySem.W.Frag) : Sp := fun vs H Q _ => ∃ (v : V) (z e : Str) (a : Addr) (zs : List Str), vs = [v, .str z, .ref a, .str e] ∧ SqS K H a zs ∧ PlaceOk zs e z v ∧ ∀ H', Evl.Ex H H' → Q (.bl true) H'
theorem sc_is_place : FnScope ["value", "node", "nodes", "goal"] ["value", "node", "nodes", "goal"] (defScope p_is_place) := ⟨rfl, rfl, rfl, by decide +kernel, rfl, by decide +kernel, by decide +kernel⟩
theorem ok_is_place {f : Addr} {fd : FuncData} (F : Fun K "is_place" "is_place" p_is_place f fd) : FnOk P w K mg base CX0 1 f fd ["value", "node", "nodes", "goal"] (spPlace K) := by
  refine F.ok sc_is_place (fun vs H Q E h => ?_) (fun cdv A outer s H vs Q E hr h => ?_)
  · obtain ⟨v, z, e, a, zs, rfl, _⟩ := h
    rfl
  · obtain ⟨v, z, e, a, zs, rfl, hS, hv, k⟩ := h
    have k0 := k H (Evl.Ex.refl H)
    refine ⟨_, pss_one (ps_ret (pe_or (pe_cmpR op_isN (pv 0) pe_non (nomark _)) (pe_or (pe_cmpR op_eq (pv 0) (pv 3) (nomark _)) (pe_one (pe_and (pe_cmpR op_in_seq (pv 0) (pv 2) rfl) (pe_one (pe_cmpR op_ne (pv 0) (pv 1) (nomark _)))))))), ?_⟩
    rcases hv with rfl | rfl | ⟨y, hy, hne, rfl⟩
    · exact ⟨.non, rfl, rfl, true, rfl, k0⟩
    · refine ⟨.str e, rfl, rfl, false, rfl, ?_⟩
      refine ⟨.str e, rfl, .str e, rfl, rfl, true, congrArg V.bl (decide_eq_true rfl), k0⟩
    · refine ⟨.str y, rfl, rfl, false, rfl, ?_⟩
      refine ⟨.str y, rfl, .str e, rfl, rfl, _, rfl, ite2 (fun _ => k0) (fun _ => ?_)⟩
      refine ⟨.str y, rfl, .ref a, rfl, a, zs.map V.str, rfl, (hS.sq : SqL K H a _ ∨ SqT K H a _), rfl, flat_strs zs, true, ?_, ?_⟩
      · rw [inV_str]
        exact congrArg V.bl (decide_eq_true hy)
      · refine ⟨.str y, rfl, .str z, rfl, rfl, ?_⟩
        have e1 : (!decide (V.str y = V.str z)) = true := by rw [decide_eq_false (fun q => hne (V.str.inj q))]; rfl
        rw [e1]
        exact k0
/-! ### is_table -/
def spTable : Sp := fun vs H Q _ => ∃ (t a : Addr) (e : Str) (zs : List Str) (tb : List (Str × V)), vs = [.ref t, .ref a, .str e] ∧ H t = some (.dK (tkv tb)) ∧ H a = some (.lst (zs.map V.str)) ∧ TabOk zs e tb ∧ zs.length ≤ 100 ∧ ∀ H', Evl.Ex H H' → Q (.bl true) H'
abbrev nIsTable : List Str := ["table", "nodes", "goal", "node"]
theorem sc_is_table : FnScope nIsTable ["table", "nodes", "goal"] (defScope p_is_table) := ⟨rfl, rfl, rfl, by decide +kernel, rfl, by decide +kernel, by decide +kernel⟩
theorem ok_is_table {f fI : Addr} {fd fdI : FuncData} (F : Fun K "is_table" "is_table" p_is_table f fd) (I_ : FnOk P w K mg base CX0 1 fI fdI ["value", "node", "nodes", "goal"] (spPlace K)) (kI : PySem.W.keepIn K (.ref fI) = true) (bI : Binds K fdI ["value", "node", "nodes", "goal"] []) (gI : mg "is_place" = some (.ref fI))
    (mLen : mg "len" = none) (mAll : mg "all" = none) : FnOk P w K mg base CX0 2 f fd ["table", "nodes", "goal"] spTable := by
  refine F.ok sc_is_table (fun vs H Q E h => ?_) (fun cdv A outer s H vs Q E hr h => ?_)
  · obtain ⟨t, a, e, zs, tb, rfl, _⟩ := h
    rfl
  · obtain ⟨t, a, e, zs, tb, rfl, ht, ha, hT, hzl, k⟩ := h
    have nd := sc_is_table.nd
    have hu := hu_of hr
    refine ⟨_, pss_cons (ps_if (pt_cmpR op_ne (pe_callB call_lenD (by rfl) mLen PySem.boot_len (pa_cons (pv 0) pa_nil)) (pe_callB call_len (by rfl) mLen PySem.boot_len (pa_cons (pv 1) pa_nil)) (nomark _)) (pss_one (ps_ret pe_bl)) pss_nil)
      (pss_one (ps_ret (pe_callB (cr_all rfl) (by rfl) mAll (by decide +kernel) (pa_cons (pe_lc (own := [("node", 3)]) (g := gName 3) (tt := tYes) (te := tAndV (tDIn (tVar 3) (tVar 0)) (tCall (spPlace K) [] E0 (tCons (tDGet (tVar 0) (tVar 3)) (tCons (tVar 3) (tCons (tVar 1) (tCons (tVar 2) tNil)))))) rfl nd (pi_list (pv 1)) (blkOk_by (own := [("node", 3)]) (N := nIsTable) (sc := defScope p_is_table) (by decide +kernel))
        (fun _ _ _ _ _ => pg_name (i := 3) nd rfl (Or.inl rfl)) (fun _ _ _ _ _ => pts_nil)
        (fun _ _ _ _ _ => pe_and (pe_cmp (pc_din hu (pv 3) (pv 0)) rfl) (pe_one (pe_call I_ hr rfl gI kI bI .nil pass0 (pa_cons (pe_dget hu (pv 0) (pv 3) (fun _ _ => rfl)) (pa_cons (pv 3) (pa_cons (pv 1) (pa_cons (pv 2) pa_nil)))))))) pa_nil)))), ?_⟩
    refine ⟨.ref t, rfl, t, _, rfl, ht, .ref a, rfl, .ref a, (zs.map V.str).length, rfl, .inl ⟨_, Evl.sq_of ha, rfl⟩, rfl, _, rfl, ?_⟩
    have el : (tkv tb).length = (zs.map V.str).length := by rw [tkv_len, List.length_map, ← hT.ks.length_eq, List.length_map]
    refine iteNS (by rw [el]) ?_
    refine ⟨.ref a, rfl, a, rfl, ⟨_, Evl.sq_of ha⟩, fun D hD => lc_trues (Evl.sq_of ha) hD (by rw [List.length_map]; omega) (fun i x H1 Q1 R hi e1 go => ?_) (fun H1 e1 d1 => ?_)⟩
    · obtain ⟨z, hz, rfl⟩ := str_at hi
      obtain ⟨v, hv1, hv2⟩ := tkv_some (tb := tb) (z := z) (hT.ks.mem_iff.mpr (List.mem_of_getElem? hz))
      refine ⟨rfl, ?_⟩
      refine yes_if ?_
      have gt : DGet H1 t (.str z) (some v) := by
        have q := DGet.k (k := Sum.inr z) (e1 _ _ ht)
        rw [hv1] at q
        exact q
      refine ⟨.str z, rfl, .ref t, rfl, t, some v, rfl, gt, true, rfl, ?_⟩
      refine ⟨.ref t, rfl, .str z, rfl, t, v, rfl, gt, .str z, rfl, .ref a, rfl, .str e, rfl, v, z, e, a, zs, rfl, .inl (Evl.sq_of (e1 _ _ ha)), hT.ps (z, v) hv2, fun H2 e2 => go H2 e2⟩
    · refine ⟨D, _, rfl, Evl.sq_of d1, ?_⟩
      rw [all_trues]
      exact k _ e1
end
end Rw
end T_P2

section T_S4
set_option Elab.async false
set_option linter.all false
set_option maxRecDepth 100000
set_option maxHeartbeats 4000000
namespace Rw
open PySem PySem.Spec L2 PyProof.Rows
/-! ### sorted(a tuple of texts) -/
section
variable {prog : Program} {w : World} {A : Around} {E : Value → Shared → Prop} {s : Shared}
theorem gather_tup {p : Addr} {us : List Value} {Q : List Value → Shared → Prop} (tup : IsTup s.heap p us.toArray) (fits : us.length ≤ sizeLine)
    (go : Q us { s with heap := (s.heap.push (seqObj "list" #[] 0)).update s.heap.objs.size (Obj.mapSeq fun x => x ++ us.toArray) }) : wpAny (model prog w) A (collect (.ref p)) Q E s := by
  obtain ⟨ob, at_p, is_t, k, dat⟩ := id tup
  unfold collect; refine wpAny_bind (wpAny_runValue (codeAny_builtin entry_proto_collect' ?_))
  show wpAny (model prog w) _ (do again (.builtin "list.__iadd__" ⟨[← newList [], .ref p], []⟩)) _ E s
  refine wpAny_bind (wpAny_newList (wpAny_pure (And.intro (Code.quiet_builtin _ (by decide +kernel)) (codeAny_builtin entry_list_iadd' ?_))))
  show wpAny (model prog w) _ (Builtin.List.listExtendWith (.ref s.heap.objs.size) (.ref p) (.ref s.heap.objs.size)) _ E { s with heap := s.heap.push (seqObj "list" #[] 0) }
  unfold Builtin.List.listExtendWith
  have at_p2 : (s.heap.push (seqObj "list" #[] 0)).get? p = some ob := Heap.get?_push_of_some _ at_p
  have at_new : (s.heap.push (seqObj "list" #[] 0)).get? s.heap.objs.size = some (seqObj "list" #[] 0) := Heap.get?_push_size _ rfl
  refine wpAny_bind (wpAny_typeOf (T := "tuple") ⟨ob, at_p2, is_t⟩ ?_)
  rw [if_pos (by rw [show (Value.type "tuple" == Value.type "tuple") = true by rfl]; simp)]
  refine wpAny_bind (listItems_at at_p2 dat (wpAny_bind (listItems_at (xs := #[]) (n := 0) at_new rfl ?_)))
  rw [if_neg (by simp)]
  refine wpAny_bind (listUpdate_at (xs := #[]) (n := 0) at_new rfl ?_ (Nat.zero_le _) (by show (#[] ++ us.toArray).size ≤ _; simp only [Array.size_append, List.size_toArray, List.length_nil]; omega))
  refine wpAny_pure (wpAny_bind (wpAny_load (get?_update_seq at_new _) ?_))
  show wpAny (model prog w) A (pure ((#[] : Array Value) ++ us.toArray).toList) Q E _
  rw [show ((#[] : Array Value) ++ us.toArray).toList = us by simp]
  exact wpAny_pure go
end
section
variable {X : Cx}
def rSortedU (K : PySem.W.Frag) : List V → Hp → VK → Prop := fun vs H Q => ∃ (a : Addr) (ks : List Str), vs = [.ref a] ∧ SqT K H a (ks.map V.str) ∧ ks.length < 64 ∧
  ∀ (ys : List Str) (p : Addr), ys.Perm ks → sortedS ys = true → H p = none → Q (.ref p) (upd H p (.lst (ys.map V.str)))
theorem cr_sortedU : CallR X (.builtin "sorted") (rSortedU X.K) := by
  intro pins s σ H vs us Q I r reading
  obtain ⟨a, ks, rfl, ha, h64, q⟩ := reading
  rw [Vals.ref1 r]
  obtain ⟨out, rel, tup, hz⟩ := I.tuple ha
  have texts : StrsAre out ks := Vals.strs rel
  have len : out.length = ks.length := texts.len_eq
  refine Calls.call_function_entry kind_sorted plain_sorted entry_sorted (args_sorted1 _) ?_
  unfold Builtin.«sorted»; refine wpAny_bind (m := checkCount "sorted" 1 1 _) (wpAny_pure ?_)
  refine wpAny_bind (gather_tup tup (by rw [len, sizeLine_eq]; omega) ?_)
  have grown : ((s.heap.push (seqObj "list" #[] 0)).update s.heap.objs.size (Obj.mapSeq fun x => x ++ out.toArray)).objs.size = s.heap.objs.size + 1 := by rw [Heap.size_update, size_push']
  have keep : ∀ b u, s.heap.get? b = some u → ((s.heap.push (seqObj "list" #[] 0)).update s.heap.objs.size (Obj.mapSeq fun x => x ++ out.toArray)).get? b = some u := fun b u e => by
    rw [Heap.get?_update_ne _ _ _ _ (Nat.ne_of_lt (Heap.lt_size e))]
    exact Heap.get?_push_of_some _ e
  generalize (s.heap.push (seqObj "list" #[] 0)).update s.heap.objs.size (Obj.mapSeq fun x => x ++ out.toArray) = h1 at grown keep
  refine wpAny_bind (wpAny_newList ?_ (by rw [len, sizeLine_eq]; omega))
  have at_l : (h1.push (seqObj "list" out.toArray 0)).get? h1.objs.size = some (seqObj "list" out.toArray 0) := Heap.get?_push_size _ rfl
  refine wpAny_bind (wpAny_holding (wpAny_call_entry slot_list_sort ⟨_, at_l, rfl⟩ entry_list_sort
    (list_sort_treeK strKind_oneLt (s := { s with heap := h1.push (seqObj "list" out.toArray 0) }) at_l texts.keysOf (fun v₁ v₂ rest e => keyKind_strs (by rw [← e]; exact texts)) (by rw [len]; exact h64) fun st' hp hs => ⟨_, rfl, ?_⟩)
    (args_list_sort _)))
  obtain ⟨ys, g1, g2, g3⟩ := sorted_out_str texts hp hs
  obtain ⟨c, at_out⟩ := sortedHeap_at (vs := out) (out := (arrOf st').map (·.2)) at_l
  have lenys : (ys.map V.str).length ≤ sizeLine := by rw [List.length_map, g2.length_eq, sizeLine_eq]; omega
  have keep2 : ∀ b u, s.heap.get? b = some u → (sortedHeap (h1.push (seqObj "list" out.toArray 0)) h1.objs.size out ((arrOf st').map (·.2))).get? b = some u := fun b u e => by
    have e1 := keep b u e
    have lt := Heap.lt_size e1
    rw [sortedHeap_old (Nat.ne_of_lt lt) (by rw [size_push']; exact Nat.lt_succ_of_lt lt)]
    exact Heap.get?_push_of_some _ e1
  have grow : s.heap.objs.size ≤ h1.objs.size := by omega
  have fresh : H h1.objs.size = none := I.hok.fresh grow
  exact wpAny_pure ⟨_, rfl, .ref h1.objs.size, upd H h1.objs.size (.lst (ys.map V.str)), I.laid (t' := s.toks) keep2 grow ⟨lenys, ((arrOf st').map (·.2)).toList, c, vals_of_strs g1, by rw [Array.toArray_toList]; exact at_out⟩, rfl, q ys _ g2 g3 fresh⟩
/-- of a list or a tuple -/
def rSortedLU (K : PySem.W.Frag) : List V → Hp → VK → Prop := fun vs H Q => ∃ (a : Addr) (ks : List Str), vs = [.ref a] ∧ (SqL K H a (ks.map V.str) ∨ SqT K H a (ks.map V.str)) ∧ ks.length < 64 ∧
  ∀ (ys : List Str) (p : Addr), ys.Perm ks → sortedS ys = true → H p = none → Q (.ref p) (upd H p (.lst (ys.map V.str)))
theorem cr_sortedLU : CallR X (.builtin "sorted") (rSortedLU X.K) := by
  intro pins s σ H vs us Q I r reading
  obtain ⟨a, ks, rfl, ha, h64, q⟩ := reading
  rcases ha with ha | ha
  · exact cr_sortedS pins s σ H _ us Q I r ⟨a, ks, rfl, ha, h64, q⟩
  · exact cr_sortedU pins s σ H _ us Q I r ⟨a, ks, rfl, ha, h64, q⟩
end
end Rw
end T_S4

section T_P3
set_option Elab.async false
set_option linter.all false
set_option maxRecDepth 100000
set_option maxHeartbeats 4000000
namespace Rw
open PySem L2 PyProof.Rows
section
variable {P : Program} {w : World} {K : PySem.W.Frag} {mg : Str → Option Value} {base : Heap}
/-! ### are_different, of a list -/
def spDiff (K : PySem.W.Frag) : Sp := fun vs H Q _ => ∃ (a n : Addr) (ss zs : List Str), vs = [.ref a, .ref n] ∧ SqS K H a ss ∧ SqS K H n zs ∧ ss.Nodup ∧ (∀ z ∈ ss, z ∈ zs) ∧ ss.length ≤ 100 ∧ ∀ H', Evl.Ex H H' → Q (.bl true) H'
abbrev nDiff : List Str := ["value", "nodes", "item"]
theorem sc_diff : FnScope nDiff ["value", "nodes"] (defScope p_are_different) := ⟨rfl, rfl, rfl, by decide +kernel, rfl, by decide +kernel, by decide +kernel⟩
theorem ok_diff {f fI : Addr} {fd fdI : FuncData} (F : Fun K "are_different" "are_different" p_are_different f fd) (I_ : FnOk P w K mg base CX0 1 fI fdI ["value"] (spIsList K)) (kI : PySem.W.keepIn K (.ref fI) = true) (bI : Binds K fdI ["value"] []) (gI : mg "is_list" = some (.ref fI))
    (mLen : mg "len" = none) (mAll : mg "all" = none) (mSet : mg "set" = none) : FnOk P w K mg base CX0 2 f fd ["value", "nodes"] (spDiff K) := by
  refine F.ok sc_diff (fun vs H Q E h => ?_) (fun cdv A outer s H vs Q E hr h => ?_)
  · obtain ⟨a, n, ss, zs, rfl, _⟩ := h
    rfl
  · obtain ⟨a, n, ss, zs, rfl, ha, hn, hnd, hsub, hl, k⟩ := h
    have nd := sc_diff.nd
    rcases ha with ha | ha
    · refine ⟨_, pss_one (ps_ret (pe_and (pe_call I_ hr rfl gI kI bI .nil pass0 (pa_cons (pv 0) pa_nil))
        (pe_and (pe_callB (cr_all rfl) (by rfl) mAll (by decide +kernel) (pa_cons (pe_lc (own := [("item", 2)]) (g := gName 2) (tt := tYes) (te := tOp (rIn K false) (tVar 2) (tVar 1)) rfl nd (pi_list (pv 0)) (blkOk_by (own := [("item", 2)]) (N := nDiff) (sc := defScope p_are_different) (by decide +kernel))
            (fun _ _ _ _ _ => pg_name (i := 2) nd rfl (Or.inl rfl)) (fun _ _ _ _ _ => pts_nil) (fun _ _ _ _ _ => pe_cmpR op_in_seq (pv 2) (pv 1) rfl)) pa_nil))
          (pe_one (pe_cmpR op_eq (pe_callB cr_lenX (by rfl) mLen PySem.boot_len (pa_cons (pe_callTy (cr_setX rfl) (by rfl) mSet (by decide +kernel) (pa_cons (pv 0) pa_nil)) pa_nil)) (pe_callB call_len (by rfl) mLen PySem.boot_len (pa_cons (pv 0) pa_nil)) (nomark _)))))), ?_⟩
      refine ⟨.ref a, rfl, a, _, rfl, .inl ha, fun H1 e1 => ⟨true, rfl, ?_⟩⟩
      refine iteT ?_
      refine ⟨.ref a, rfl, a, rfl, ⟨_, Evl.ex_l e1 ha⟩, fun D hD => lc_trues (Evl.ex_l e1 ha) hD (by rw [List.length_map]; omega) (fun i x H2 Q1 R hi e2 go => ?_) (fun H2 e2 d2 => ?_)⟩
      · obtain ⟨z, hz, rfl⟩ := str_at hi
        refine ⟨rfl, ?_⟩
        refine yes_if ?_
        refine ⟨.str z, rfl, .ref n, rfl, n, zs.map V.str, rfl, (hn.ex (e1.trans e2)).sq, rfl, flat_strs zs, ?_⟩
        rw [inV_str, decide_eq_true (hsub z (List.mem_of_getElem? hz))]
        exact go _ (Evl.Ex.refl _)
      · refine ⟨D, _, rfl, Evl.sq_of d2, ?_⟩
        rw [all_trues]
        refine ⟨true, rfl, ?_⟩
        refine iteT ?_
        have e12 := e1.trans e2
        refine ⟨.ref a, rfl, a, ss, rfl, .inl (Evl.ex_l e12 ha), by omega, fun p hp => ?_⟩
        have e3 := Evl.Ex.new (o := SetXO w p (seen ss)) hp
        refine ⟨p, seen ss, rfl, upd_same, .ref a, rfl, .ref a, (ss.map V.str).length, rfl, .inl ⟨_, Evl.ex_l (e12.trans e3) ha, rfl⟩, rfl, ?_⟩
        rw [seen_len hnd, List.length_map, decide_eq_true rfl]
        exact k _ (e12.trans e3)
    · refine ⟨_, pss_one (ps_ret (pe_and (pe_call I_ hr rfl gI kI bI .nil pass0 (pa_cons (pv 0) pa_nil))
        (pe_and (pe_callB (cr_all rfl) (by rfl) mAll (by decide +kernel) (pa_cons (pe_lc (own := [("item", 2)]) (g := gName 2) (tt := tYes) (te := tOp (rIn K false) (tVar 2) (tVar 1)) rfl nd (pi_tup (pv 0)) (blkOk_by (own := [("item", 2)]) (N := nDiff) (sc := defScope p_are_different) (by decide +kernel))
            (fun _ _ _ _ _ => pg_name (i := 2) nd rfl (Or.inl rfl)) (fun _ _ _ _ _ => pts_nil) (fun _ _ _ _ _ => pe_cmpR op_in_seq (pv 2) (pv 1) rfl)) pa_nil))
          (pe_one (pe_cmpR op_eq (pe_callB cr_lenX (by rfl) mLen PySem.boot_len (pa_cons (pe_callTy (cr_setX rfl) (by rfl) mSet (by decide +kernel) (pa_cons (pv 0) pa_nil)) pa_nil)) (pe_callB call_len (by rfl) mLen PySem.boot_len (pa_cons (pv 0) pa_nil)) (nomark _)))))), ?_⟩
      refine ⟨.ref a, rfl, a, _, rfl, .inr ha, fun H1 e1 => ⟨true, rfl, ?_⟩⟩
      refine iteT ?_
      refine ⟨.ref a, rfl, a, rfl, ⟨_, Evl.ex_t e1 ha⟩, fun D hD => lc_truesT (Evl.ex_t e1 ha) hD (by rw [List.length_map]; omega) (fun i x H2 Q1 R hi e2 go => ?_) (fun H2 e2 d2 => ?_)⟩
      · obtain ⟨z, hz, rfl⟩ := str_at hi
        refine ⟨rfl, ?_⟩
        refine yes_if ?_
        refine ⟨.str z, rfl, .ref n, rfl, n, zs.map V.str, rfl, (hn.ex (e1.trans e2)).sq, rfl, flat_strs zs, ?_⟩
        rw [inV_str, decide_eq_true (hsub z (List.mem_of_getElem? hz))]
        exact go _ (Evl.Ex.refl _)
      · refine ⟨D, _, rfl, Evl.sq_of d2, ?_⟩
        rw [all_trues]
        refine ⟨true, rfl, ?_⟩
        refine iteT ?_
        have e12 := e1.trans e2
        refine ⟨.ref a, rfl, a, ss, rfl, .inr (Evl.ex_t e12 ha), by omega, fun p hp => ?_⟩
        have e3 := Evl.Ex.new (o := SetXO w p (seen ss)) hp
        refine ⟨p, seen ss, rfl, upd_same, .ref a, rfl, .ref a, (ss.map V.str).length, rfl, .inr ⟨_, Evl.ex_t (e12.trans e3) ha, rfl⟩, rfl, ?_⟩
        rw [seen_len hnd, List.length_map, decide_eq_true rfl]
        exact k _ (e12.trans e3)
/-! ### are_nodes -/
def spNodes : Sp := fun vs H Q _ => ∃ (a b : Addr) (zs es : List Str), vs = [.ref a, .ref b] ∧ H a = some (.lst (zs.map V.str)) ∧ H b = some (.lst (es.map V.str)) ∧ 1 ≤ zs.length ∧ zs.length ≤ 6 ∧ (∀ z ∈ zs, Nm z ∧ z ∉ es) ∧ ∀ H', Evl.Ex H H' → Q (.bl true) H'
abbrev nNodes : List Str := ["names", "goals", "name"]
theorem sc_nodes : FnScope nNodes ["names", "goals"] (defScope p_are_nodes) := ⟨rfl, rfl, rfl, by decide +kernel, rfl, by decide +kernel, by decide +kernel⟩
theorem ok_nodes {f fI : Addr} {fd fdI : FuncData} {tk : Tok} (F : Fun K "are_nodes" "are_nodes" p_are_nodes f fd) (I_ : FnOk P w K mg base CX0 1 fI fdI ["value"] spIsName) (kI : PySem.W.keepIn K (.ref fI) = true) (bI : Binds K fdI ["value"] []) (gI : mg "is_name" = some (.ref fI))
    (mLen : mg "len" = none) (mAll : mg "all" = none) (mMost : mg "MOST_NODES" = some (.int 6 tk)) : FnOk P w K mg base CX0 2 f fd ["names", "goals"] spNodes := by
  refine F.ok sc_nodes (fun vs H Q E h => ?_) (fun cdv A outer s H vs Q E hr h => ?_)
  · obtain ⟨a, b, zs, es, rfl, _⟩ := h
    rfl
  · obtain ⟨a, b, zs, es, rfl, ha, hb, h1, h6, hz, k⟩ := h
    have nd := sc_nodes.nd
    refine ⟨_, pss_one (ps_ret (pe_and (pe_chain op_le op_le pe_int (pe_callB call_len (by rfl) mLen PySem.boot_len (pa_cons (pv 0) pa_nil)) (pe_glob (v := .int 6) (by rfl) mMost ⟨_, rfl⟩))
      (pe_one (pe_callB (cr_all rfl) (by rfl) mAll (by decide +kernel) (pa_cons (pe_lc (own := [("name", 2)]) (g := gName 2) (tt := tYes) (te := tAndV (tCall spIsName [] E0 (tCons (tVar 2) tNil)) (tOp (rIn K true) (tVar 2) (tVar 1))) rfl nd (pi_list (pv 0)) (blkOk_by (own := [("name", 2)]) (N := nNodes) (sc := defScope p_are_nodes) (by decide +kernel))
          (fun _ _ _ _ _ => pg_name (i := 2) nd rfl (Or.inl rfl)) (fun _ _ _ _ _ => pts_nil) (fun _ _ _ _ _ => pe_and (pe_call I_ hr rfl gI kI bI .nil pass0 (pa_cons (pv 2) pa_nil)) (pe_one (pe_cmpR op_notIn_seq (pv 2) (pv 1) rfl)))) pa_nil))))), ?_⟩
    refine ⟨.ref a, rfl, .ref a, (zs.map V.str).length, rfl, .inl ⟨_, Evl.sq_of ha, rfl⟩, 1, ((zs.map V.str).length : Int), rfl, rfl, true, congrArg V.bl (decide_eq_true (show (1 : Int) ≤ ((zs.map V.str).length : Int) by rw [List.length_map]; omega)), ?_⟩
    refine iteT ?_
    refine ⟨_, 6, rfl, rfl, true, congrArg V.bl (decide_eq_true (show ((zs.map V.str).length : Int) ≤ 6 by rw [List.length_map]; omega)), ?_⟩
    refine iteT ?_
    refine ⟨.ref a, rfl, a, rfl, ⟨_, Evl.sq_of ha⟩, fun D hD => lc_trues (Evl.sq_of ha) hD (by rw [List.length_map]; omega) (fun i x H2 Q1 R hi e2 go => ?_) (fun H2 e2 d2 => ?_)⟩
    · obtain ⟨z, hz', rfl⟩ := str_at hi
      have hh := hz z (List.mem_of_getElem? hz')
      refine ⟨rfl, ?_⟩
      refine yes_if ?_
      refine ⟨.str z, rfl, z, rfl, hh.1, fun H3 e3 => ⟨true, rfl, ?_⟩⟩
      refine iteT ?_
      refine ⟨.str z, rfl, .ref b, rfl, b, es.map V.str, rfl, .inl (Evl.sq_of ((e2.trans e3) _ _ hb)), rfl, flat_strs es, ?_⟩
      rw [inV_str, decide_eq_false hh.2]
      exact go _ e3
    · refine ⟨D, _, rfl, Evl.sq_of d2, ?_⟩
      rw [all_trues]
      exact k _ e2
/-! ### is_pair_of_dicts -/
def spPairD : Sp := fun vs H Q _ => ∃ (p po pn : Addr) (k1 k2 : List (Key × V)), vs = [.ref p] ∧ H p = some (.tup [.ref po, .ref pn]) ∧ H po = some (.dK k1) ∧ H pn = some (.dK k2) ∧ ∀ H', Evl.Ex H H' → Q (.bl true) H'
abbrev nPairD : List Str := ["value", "part"]
theorem sc_pairD : FnScope nPairD ["value"] (defScope p_is_pair_of_dicts) := ⟨rfl, rfl, rfl, by decide +kernel, rfl, by decide +kernel, by decide +kernel⟩
theorem ok_pairD {f : Addr} {fd : FuncData} (F : Fun K "is_pair_of_dicts" "is_pair_of_dicts" p_is_pair_of_dicts f fd) (mIsi : mg "isinstance" = none) (mTup : mg "tuple" = none) (mDict : mg "dict" = none) (mLen : mg "len" = none) (mAll : mg "all" = none) : FnOk P w K mg base CX0 1 f fd ["value"] spPairD := by
  refine F.ok sc_pairD (fun vs H Q E h => ?_) (fun cdv A outer s H vs Q E hr h => ?_)
  · obtain ⟨p, po, pn, k1, k2, rfl, _⟩ := h
    rfl
  · obtain ⟨p, po, pn, k1, k2, rfl, hp, ho, hn, k⟩ := h
    have nd := sc_pairD.nd
    refine ⟨_, pss_one (ps_ret (pe_and (pe_callB call_isi (by rfl) mIsi (by decide +kernel) (pa_cons (pv 0) (pa_cons (pe_bltn (v := .ty "tuple") (by rfl) mTup (by decide +kernel) rfl) pa_nil)))
      (pe_and (pe_cmpR op_eq (pe_callB call_len (by rfl) mLen PySem.boot_len (pa_cons (pv 0) pa_nil)) pe_int (nomark _))
        (pe_one (pe_callB (cr_all rfl) (by rfl) mAll (by decide +kernel) (pa_cons (pe_lc (own := [("part", 1)]) (g := gName 1) (tt := tYes) (te := tCB (rIsi K) (tCons (tVar 1) (tCons (tC (.ty "dict")) tNil))) rfl nd (pi_tup (pv 0)) (blkOk_by (own := [("part", 1)]) (N := nPairD) (sc := defScope p_is_pair_of_dicts) (by decide +kernel))
          (fun _ _ _ _ _ => pg_name (i := 1) nd rfl (Or.inl rfl)) (fun _ _ _ _ _ => pts_nil) (fun _ _ _ _ _ => pe_callB call_isi (by rfl) mIsi (by decide +kernel) (pa_cons (pv 1) (pa_cons (pe_bltn (v := .ty "dict") (by rfl) mDict (by decide +kernel) rfl) pa_nil)))) pa_nil)))))), ?_⟩
    refine ⟨.ref p, rfl, .ref p, .ty "tuple", _, _, true, rfl, .ty _, .base (.tup hp), kit_ty (by decide +kernel), true, rfl, ?_⟩
    refine iteT ?_
    refine ⟨.ref p, rfl, .ref p, 2, rfl, .inr ⟨_, Evl.st_of hp, rfl⟩, rfl, true, rfl, ?_⟩
    refine iteT ?_
    refine ⟨.ref p, rfl, p, rfl, ⟨_, Evl.st_of hp⟩, fun D hD => lc_truesT (Evl.st_of hp) hD (by show 2 < 1000; decide) (fun i x H2 Q1 R hi e2 go => ?_) (fun H2 e2 d2 => ?_)⟩
    · refine ⟨rfl, ?_⟩
      refine yes_if ?_
      match i, hi with
      | 0, hi =>
        cases hi
        exact ⟨.ref po, rfl, .ref po, .ty "dict", _, _, true, rfl, .ty _, .base (.dK (e2 _ _ ho)), kit_ty (by decide +kernel), go _ (Evl.Ex.refl _)⟩
      | 1, hi =>
        cases hi
        exact ⟨.ref pn, rfl, .ref pn, .ty "dict", _, _, true, rfl, .ty _, .base (.dK (e2 _ _ hn)), kit_ty (by decide +kernel), go _ (Evl.Ex.refl _)⟩
      | n + 2, hi => simp at hi
    · refine ⟨D, _, rfl, Evl.sq_of d2, ?_⟩
      rw [all_trues]
      exact k _ e2
end
end Rw
end T_P3

section T_P4
set_option Elab.async false
set_option linter.all false
set_option maxRecDepth 100000
set_option maxHeartbeats 4000000
namespace Rw
open PySem L2 PyProof.Rows
section
variable {P : Program} {w : World} {K : PySem.W.Frag} {mg : Str → Option Value} {base : Heap}
/-! ### are_tables -/
def spTables : Sp := fun vs H Q _ => ∃ (t : Addr) (ends dots : List Str) (rows : List (Str × V)), vs = [.ref t] ∧ H t = some (.dK (tkv rows)) ∧ rows.map (·.1) = ends ∧ RowsOk H dots rows ∧ 0 < ends.length ∧ ends.length ≤ 2 ∧ (∀ z ∈ ends, Nm z) ∧
  0 < dots.length ∧ dots.length ≤ 6 ∧ (∀ z ∈ dots, Nm z ∧ z ∉ ends) ∧ ∀ H', Evl.Ex H H' → Q (.bl true) H'
abbrev nTables : List Str := ["value", "goals", "nodes", "goal", "table"]
theorem sc_tables : FnScope nTables ["value"] (defScope p_are_tables) := ⟨rfl, rfl, rfl, by decide +kernel, rfl, by decide +kernel, by decide +kernel⟩
theorem ok_tables {f f1 f2 f3 f4 : Addr} {fd fd1 fd2 fd3 fd4 : FuncData} {tk : Tok} (F : Fun K "are_tables" "are_tables" p_are_tables f fd)
    (F1 : FnOk P w K mg base CX0 1 f1 fd1 ["value"] spIsName) (k1 : PySem.W.keepIn K (.ref f1) = true) (b1 : Binds K fd1 ["value"] []) (g1 : mg "is_name" = some (.ref f1))
    (F2 : FnOk P w K mg base CX0 1 f2 fd2 ["value"] spPairD) (k2 : PySem.W.keepIn K (.ref f2) = true) (b2 : Binds K fd2 ["value"] []) (g2 : mg "is_pair_of_dicts" = some (.ref f2))
    (F3 : FnOk P w K mg base CX0 2 f3 fd3 ["names", "goals"] spNodes) (k3 : PySem.W.keepIn K (.ref f3) = true) (b3 : Binds K fd3 ["names", "goals"] []) (g3 : mg "are_nodes" = some (.ref f3))
    (F4 : FnOk P w K mg base CX0 2 f4 fd4 ["table", "nodes", "goal"] spTable) (k4 : PySem.W.keepIn K (.ref f4) = true) (b4 : Binds K fd4 ["table", "nodes", "goal"] []) (g4 : mg "is_table" = some (.ref f4))
    (mIsi : mg "isinstance" = none) (mDict : mg "dict" = none) (mList : mg "list" = none) (mLen : mg "len" = none) (mAll : mg "all" = none) (mMost : mg "MOST_GOALS" = some (.int 2 tk)) :
    FnOk P w K mg base CX0 3 f fd ["value"] spTables := by
  refine F.ok sc_tables (fun vs H Q E h => ?_) (fun cdv A outer s H vs Q E hr h => ?_)
  · obtain ⟨t, ends, dots, rows, rfl, _⟩ := h
    rfl
  · obtain ⟨t, ends, dots, rows, rfl, ht, hk, hro, e0, e2, he, d0, d6, hd, k⟩ := h
    have nd := sc_tables.nd
    have hu := hu_of hr
    have hr1 : Room 1 _ := hr.mono (by decide)
    refine ⟨_, pss_cons (ps_if (PW.pt (pw_or (pt_not (pt_val (pe_callB call_isi (by rfl) mIsi (by decide +kernel) (pa_cons (pv 0) (pa_cons (pe_bltn (v := .ty "dict") (by rfl) mDict (by decide +kernel) rfl) pa_nil)))))
          (pw_or1 (pt_not (pt_chain op_le op_le pe_int (pe_callB call_lenD (by rfl) mLen PySem.boot_len (pa_cons (pv 0) pa_nil)) (pe_glob (v := .int 2) (by rfl) mMost ⟨_, rfl⟩)))))) (pss_one (ps_ret pe_bl)) pss_nil)
      (pss_cons (ps_if (pt_not (pt_val (pe_callB (cr_all rfl) (by rfl) mAll (by decide +kernel) (pa_cons (pe_lock (pe_lc (own := [("goal", 3)]) (g := gName 3) (tt := tYes) (te := tAndV (tCall spIsName [] E0 (tCons (tVar 3) tNil)) (tCall spPairD [] E0 (tCons (tDGet (tVar 0) (tVar 3)) tNil))) rfl nd (pi_keys (pv 0)) (blkOk_by (own := [("goal", 3)]) (N := nTables) (sc := defScope p_are_tables) (by decide +kernel))
          (fun _ _ _ _ _ => pg_name (i := 3) nd rfl (Or.inl rfl)) (fun _ _ _ _ _ => pts_nil) (fun _ _ _ _ _ => pe_and (pe_call F1 hr1 rfl g1 k1 b1 .nil pass0 (pa_cons (pv 3) pa_nil)) (pe_one (pe_call F2 hr1 rfl g2 k2 b2 .nil pass0 (pa_cons (pe_dget hu (pv 0) (pv 3) (fun _ _ => rfl)) pa_nil)))))) pa_nil)))) (pss_one (ps_ret pe_bl)) pss_nil)
      (pss_cons (ps_set (i := 1) nd rfl (.inl rfl) (pe_callTy (call_listD rfl) (by rfl) mList (by decide +kernel) (pa_cons (pv 0) pa_nil)))
      (pss_cons (ps_set (i := 2) nd rfl (.inr rfl) (pe_callTy (call_listD rfl) (by rfl) mList (by decide +kernel) (pa_cons (pe_ix ix_tup (pe_dget hu (pv 0) (pe_ix ix_list (pv 1) pe_int (fun _ _ => rfl)) (fun _ _ => rfl)) pe_int (fun _ _ => rfl)) pa_nil)))
      (pss_cons (ps_if (pt_not (pt_val (pe_call F3 hr rfl g3 k3 b3 .nil pass0 (pa_cons (pv 2) (pa_cons (pv 1) pa_nil))))) (pss_one (ps_ret pe_bl)) pss_nil)
      (pss_one (ps_ret (pe_callB (cr_all rfl) (by rfl) mAll (by decide +kernel) (pa_cons
        (pe_lc2 (own := [("goal", 3), ("table", 4)]) (vs1 := [4]) (g := gName 3) (tt := tYes) (g1 := gName 4) (tt1 := tYes) (wi1 := iTup K (tDGet (tVar 0) (tVar 3))) (te := tCall spTable [] E0 (tCons (tVar 4) (tCons (tVar 2) (tCons (tVar 3) tNil)))) rfl nd (pi_list (pv 1)) (blkOk_by (own := [("goal", 3), ("table", 4)]) (N := nTables) (sc := defScope p_are_tables) (by decide +kernel)) (by decide)
          (fun _ _ _ _ _ => pg_name (i := 3) nd rfl (Or.inl rfl)) (fun _ _ _ _ _ => pts_nil) (fun _ _ _ _ _ => pi_tup (pe_dget hu (pv 0) (pv 3) (fun _ _ => rfl))) (fun _ _ _ _ _ => pg_name (i := 4) nd rfl (Or.inl rfl)) (fun _ _ _ _ _ => pts_nil)
          (fun _ _ _ _ _ => pe_call F4 hr rfl g4 k4 b4 .nil pass0 (pa_cons (pv 4) (pa_cons (pv 2) (pa_cons (pv 3) pa_nil))))) pa_nil)))))))), ?_⟩
    have rl : rows.length = ends.length := by rw [← hk, List.length_map]
    have rne : rows ≠ [] := fun z => by rw [z] at rl; simp at rl; omega
    have tl : (tkv rows).length = ends.length := by rw [tkv_len, rl]
    -- a row by its goal, where t may be locked
    have row : ∀ z ∈ ends, ∃ (p po pn : Addr) (t1 t2 : List (Str × V)), valV (tkv rows) (Sum.inr z) = some (.ref p) ∧ PairAt H dots z p po pn t1 t2 ∧ p ≠ t ∧ po ≠ t ∧ pn ≠ t := fun z hz => by
      obtain ⟨v, hv1, hv2⟩ := tkv_some (tb := rows) (z := z) (by rw [hk]; exact hz)
      obtain ⟨p, po, pn, t1, t2, e1, pa⟩ := hro _ hv2
      have e1' : v = .ref p := e1
      subst e1'
      exact ⟨p, po, pn, t1, t2, hv1, pa, ne_of pa.hp ht (by intro z; cases z), tab_ne ht hro rne pa.ho pa.o1, tab_ne ht hro rne pa.hn pa.o2⟩
    -- if not isinstance(value, dict) or not ..
    refine ⟨.ref t, rfl, .ref t, .ty "dict", _, _, true, rfl, .ty _, .base (.dK ht), kit_ty (by decide +kernel), true, rfl, ?_⟩
    refine ⟨.ref t, rfl, t, _, rfl, ht, 1, ((tkv rows).length : Int), rfl, rfl, true, congrArg V.bl (decide_eq_true (show (1 : Int) ≤ ((tkv rows).length : Int) by omega)), ?_⟩
    refine ⟨_, 2, rfl, rfl, true, congrArg V.bl (decide_eq_true (show ((tkv rows).length : Int) ≤ 2 by omega)), ?_⟩
    -- if not all([.. for goal in value])
    refine ⟨t, .dK (tkv rows), ht, trivial, fun od => ⟨.ref t, rfl, t, od, rfl, .inl ⟨tkv rows, upd_same, fun D hD => lc_truesW (Yx := fun i x => ∃ k v, (tkv rows)[i]? = some (k, v) ∧ x = kV k) walk_keys (fun H1 e1 => e1 _ _ upd_same) hD (by omega) (fun i x H1 Q1 R hi hx e1 go => ?_) (fun H1 e1 d1 => ?_)⟩⟩⟩
    · obtain ⟨kk, v, hkv, rfl⟩ := hx
      obtain ⟨z, rfl, hz⟩ : ∃ z : Str, kk = Sum.inr z ∧ z ∈ ends := by
        unfold tkv at hkv
        rw [List.getElem?_map] at hkv
        cases q : rows[i]? with
        | none => rw [q] at hkv; cases hkv
        | some q' =>
          rw [q] at hkv
          have := congrArg Prod.fst (Option.some.inj hkv)
          refine ⟨q'.1, this.symm, ?_⟩
          rw [← hk]
          exact List.mem_map_of_mem (List.mem_of_getElem? q)
      obtain ⟨p, po, pn, t1, t2, hv, pa, n1, n2, n3⟩ := row z hz
      refine ⟨rfl, ?_⟩
      refine yes_if ?_
      refine ⟨.str z, rfl, z, rfl, he z hz, fun H2 e2' => ⟨true, rfl, ?_⟩⟩
      refine iteT ?_
      have e12 := e1.trans e2'
      have gt : DGet H2 t (.str z) (some (.ref p)) := .inl ⟨tkv rows, Sum.inr z, .inr ⟨od, e12 _ _ upd_same⟩, rfl, hv.symm⟩
      have up : ∀ {a : Addr} {o : HO}, H a = some o → a ≠ t → H2 a = some o := fun {a o} h ne => e12 _ _ (by rw [upd_ne ne]; exact h)
      exact ⟨.ref t, rfl, .str z, rfl, t, .ref p, rfl, gt, p, po, pn, _, _, rfl, up pa.hp n1, up pa.ho n2, up pa.hn n3, fun H3 e3 => go H3 (e2'.trans e3)⟩
    · have ft : H1 t = some (.frz od (.dK (tkv rows))) := e1 _ _ upd_same
      have nDt : D ≠ t := (ne_of_none (show (upd H t (.frz od (.dK (tkv rows)))) t = some _ from upd_same) hD).symm
      refine ⟨ft, ?_⟩
      have x1 : Evl.Ex H (upd H1 t (.dK (tkv rows))) := fun a o h => by
        by_cases e : a = t
        · subst e
          rw [upd_same, ← ht, h]
        · rw [upd_ne e]
          exact e1 _ _ (by rw [upd_ne e]; exact h)
      have d2 : (upd H1 t (.dK (tkv rows))) D = some (.lst ((List.replicate (tkv rows).length true).map V.bl)) := by rw [upd_ne nDt]; exact d1
      generalize upd H1 t (.dK (tkv rows)) = H2 at x1 d2
      refine ⟨D, _, rfl, Evl.sq_of d2, ?_⟩
      rw [all_trues]
      refine ⟨true, rfl, ?_⟩
      -- goals = list(value)
      refine ⟨.ref t, rfl, t, _, rfl, .inl (x1 _ _ ht), fun gl hgl => ?_⟩
      rw [tkv_keysV, hk]
      have x2 : Evl.Ex H (upd H2 gl (.lst (ends.map V.str))) := x1.trans (Evl.Ex.new hgl)
      have eg : (upd H2 gl (.lst (ends.map V.str))) gl = some (.lst (ends.map V.str)) := upd_same
      generalize upd H2 gl (.lst (ends.map V.str)) = H3 at x2 eg
      -- nodes = list(value[goals[0]][0])
      obtain ⟨z0, r0, ez0⟩ : ∃ z0 r0, ends = z0 :: r0 := by
        cases q : ends with
        | nil => rw [q] at e0; simp at e0
        | cons z0 r0 => exact ⟨z0, r0, rfl⟩
      obtain ⟨p, po, pn, t1, t2, hv, pa, n1, n2, n3⟩ := row z0 (by rw [ez0]; exact List.mem_cons_self)
      have at0 : (ends.map V.str)[0]? = some (.str z0) := by rw [ez0]; rfl
      have dg : ∀ {Hx : Hp} {z : Str} {p : Addr}, Evl.Ex H Hx → valV (tkv rows) (Sum.inr z) = some (.ref p) → DGet Hx t (.str z) (some (.ref p)) := fun {Hx z p} x hv => by
        have q := DGet.k (k := Sum.inr z) (x _ _ ht)
        rw [hv] at q
        exact q
      refine ⟨.ref t, rfl, .ref gl, rfl, gl, _, 0, .str z0, rfl, rfl, Evl.sq_of eg, atI_nat (j := 0) at0, t, .ref p, rfl, dg x2 hv, p, _, 0, .ref po, rfl, rfl, Evl.st_of (x2 _ _ pa.hp), atI_nat (j := 0) rfl, po, _, rfl, .inl (x2 _ _ pa.ho), fun nl hnl => ?_⟩
      rw [tkv_keysV]
      have x3 : Evl.Ex H3 (upd H3 nl (.lst ((t1.map (·.1)).map V.str))) := Evl.Ex.new hnl
      have en : (upd H3 nl (.lst ((t1.map (·.1)).map V.str))) nl = some (.lst ((t1.map (·.1)).map V.str)) := upd_same
      generalize upd H3 nl (.lst ((t1.map (·.1)).map V.str)) = H4 at x3 en
      have pk := pa.o1.ks
      -- if not are_nodes(nodes, goals)
      refine ⟨.ref nl, rfl, .ref gl, rfl, nl, gl, t1.map (·.1), ends, rfl, en, x3 _ _ eg, by rw [pk.length_eq]; omega, by rw [pk.length_eq]; exact d6, fun z hz => hd z (pk.subset hz), fun H5 x4 => ⟨true, rfl, ?_⟩⟩
      have x5 : Evl.Ex H H5 := (x2.trans x3).trans x4
      have en5 := x4 _ _ en
      have eg5 := (x3.trans x4) _ _ eg
      -- the tables
      refine ⟨.ref gl, rfl, gl, rfl, ⟨_, Evl.sq_of eg5⟩, fun D2 hD2 => ⟨fun i m H6 => m = ends.length - i ∧ i ≤ ends.length ∧ Evl.Ex H5 H6 ∧ ∃ n, n ≤ 2 * i ∧ H6 D2 = some (.lst ((List.replicate n true).map V.bl)), ⟨ends.length, rfl, Nat.zero_le _, Evl.Ex.new hD2, 0, Nat.le_refl _, upd_same⟩, ?_⟩⟩
      rintro i m H6 ⟨rfl, hi, x6, n, hn, d6'⟩
      by_cases hlt : i < ends.length
      · have gi : (ends.map V.str)[i]? = some (.str ends[i]) := by rw [List.getElem?_map, List.getElem?_eq_getElem hlt]; rfl
        refine .inr ⟨⟨_, _, Evl.sq_of (x6 _ _ eg5), gi⟩, fun H' => i + 1 ≤ ends.length ∧ Evl.Ex H5 H' ∧ ∃ n, n ≤ 2 * (i + 1) ∧ H' D2 = some (.lst ((List.replicate n true).map V.bl)), fun H' h => ⟨ends.length - (i + 1), by omega, rfl, h⟩, fun x H' hy => ?_⟩
        obtain ⟨rfl, fv⟩ := hy
        have ex : x = .str ends[i] := Option.some.inj ((fv _ (Evl.sq_of (x6 _ _ eg5))).symm.trans gi)
        subst ex
        obtain ⟨p2, po2, pn2, t3, t4, hv2, pa2, m1, m2, m3⟩ := row ends[i] (List.getElem_mem hlt)
        have pa6 := pa2.ex x5
        refine ⟨rfl, ?_⟩
        refine yes_if ?_
        refine ⟨.ref t, rfl, .str ends[i], rfl, t, .ref p2, rfl, dg (x5.trans x6) hv2, p2, rfl, ⟨_, Evl.st_of (x6 _ _ pa6.hp)⟩, fun j k' H7 => k' = 2 - j ∧ j ≤ 2 ∧ Evl.Ex H5 H7 ∧ ∃ n, n ≤ 2 * i + j ∧ H7 D2 = some (.lst ((List.replicate n true).map V.bl)), ⟨2, rfl, Nat.zero_le _, x6, n, hn, d6'⟩, ?_⟩
        rintro j k' H7 ⟨rfl, hj, x7, n', hn', d7⟩
        by_cases hjl : j < 2
        · obtain ⟨tt, tbx, gj, htx, otx⟩ : ∃ (tt : Addr) (tbx : List (Str × V)), ([V.ref po2, V.ref pn2] : List V)[j]? = some (.ref tt) ∧ H7 tt = some (.dK (tkv tbx)) ∧ TabOk dots ends[i] tbx := by
            match j, hjl with
            | 0, _ => exact ⟨po2, t3, rfl, x7 _ _ pa6.ho, pa6.o1⟩
            | 1, _ => exact ⟨pn2, t4, rfl, x7 _ _ pa6.hn, pa6.o2⟩
          refine .inr ⟨⟨_, _, Evl.st_of (x7 _ _ pa6.hp), gj⟩, fun H8 => j + 1 ≤ 2 ∧ Evl.Ex H5 H8 ∧ ∃ n, n ≤ 2 * i + (j + 1) ∧ H8 D2 = some (.lst ((List.replicate n true).map V.bl)), fun H8 h => ⟨2 - (j + 1), by omega, rfl, h⟩, fun x H8 hy => ?_⟩
          obtain ⟨rfl, fv2⟩ := hy
          have ex2 : x = .ref tt := Option.some.inj ((fv2 _ (Evl.st_of (x7 _ _ pa6.hp))).symm.trans gj)
          subst ex2
          refine ⟨rfl, ?_⟩
          refine yes_if ?_
          refine ⟨.ref tt, rfl, .ref nl, rfl, .str ends[i], rfl, tt, nl, ends[i], t1.map (·.1), tbx, rfl, htx, x7 _ _ en5, otx.perm pk.symm, by rw [pk.length_eq]; omega, fun H9 x9 => ?_⟩
          refine ⟨_, x9 _ _ d7, by rw [List.length_map, List.length_replicate]; exact small1000 (by omega), by omega, (x7.trans x9).mut hD2, n' + 1, by omega, ?_⟩
          · rw [upd_same, List.replicate_succ', List.map_append]
            rfl
        · refine .inl ⟨⟨_, Evl.st_of (x7 _ _ pa6.hp), by show 2 ≤ j; omega⟩, by omega, x7, n', by omega, d7⟩
      · refine .inl ⟨⟨_, Evl.sq_of (x6 _ _ eg5), by rw [List.length_map]; omega⟩, D2, _, rfl, Evl.sq_of d6', ?_⟩
        rw [all_trues]
        exact k _ (x5.trans x6)
end
end Rw
end T_P4

section T_N1
set_option Elab.async false
set_option linter.all false
set_option maxRecDepth 100000
set_option maxHeartbeats 4000000
namespace Rw
open PySem L2 PyProof.Rows
section
variable {P : Program} {w : World} {K : PySem.W.Frag} {mg : Str → Option Value} {base : Heap}
abbrev nInit : List Str := ["self", "tables", "sources", "posts", "first_old", "_", "nodes", "goal", "old", "new", "node"]
theorem sc_init : FnScope nInit ["self", "tables", "sources", "posts"] (defScope c_Net_init) := ⟨rfl, rfl, rfl, by decide +kernel, rfl, by decide +kernel, by decide +kernel⟩
theorem ok_init {f f1 f2 C : Addr} {fd fd1 fd2 : FuncData} {tk : Tok} {dvs : List V} (F : FunD K "__init__" "Net.__init__" (defArgs c_Net_init) (defBody c_Net_init) (defScope c_Net_init) dvs [] f fd) (T : NetTxt K C)
    (F1 : FnOk P w K mg base CX0 3 f1 fd1 ["value"] spTables) (k1 : PySem.W.keepIn K (.ref f1) = true) (b1 : Binds K fd1 ["value"] []) (g1 : mg "are_tables" = some (.ref f1))
    (F2 : FnOk P w K mg base CX0 2 f2 fd2 ["value", "nodes"] (spDiff K)) (k2 : PySem.W.keepIn K (.ref f2) = true) (b2 : Binds K fd2 ["value", "nodes"] []) (g2 : mg "are_different" = some (.ref f2))
    (mList : mg "list" = none) (mTup : mg "tuple" = none) (mSorted : mg "sorted" = none) (mLen : mg "len" = none) (mMost : mg "MOST_POSTS" = some (.int 2 tk)) :
    FnOk P w K mg base CX0 4 f fd ["self", "tables", "sources", "posts"] (spInit C) := by
  refine F.ok sc_init (fun vs H Q E h => ?_) (fun cdv A outer s H vs Q E hr h => ?_)
  · obtain ⟨Hb, m, dx, t, s, p, ends, dots, ss, ps, rows, o, n, rfl, _⟩ := h
    rfl
  · obtain ⟨Hb, m, dx, t, s', p, ends, dots, ss, ps, rows, o, n, rfl, hm0, x0, hm, ht, hk, hro, hra, hs, hp, ok, k⟩ := h
    have nd := sc_init.nd
    have hu := hu_of hr
    have hr2 : Room 2 _ := hr.mono (by decide)
    refine ⟨_, PSs.nox (pss_cons (ps_if (pt_not (pt_val (pe_call F1 hr rfl g1 k1 b1 .nil pass0 (pa_cons (pv 1) pa_nil)))) (pss_one ps_never) pss_nil)
      (pss_cons (ps_asg (pe_ix ix_list (pe_listVals rfl (pv 1) (by rfl) mList) pe_int (fun _ _ => rfl)) (pg_tup rfl (pgs_cons (pg_name (i := 4) nd rfl (.inl rfl)) (pgs_cons (pg_name (i := 5) nd rfl (.inl rfl)) pgs_nil))))
      (pss_cons (ps_set (i := 6) nd rfl (.inl rfl) (pe_callTy call_tuple_of (by rfl) mTup (by decide +kernel) (pa_cons (pe_callB (call_sortedD rfl) (by rfl) mSorted (by decide +kernel) (pa_cons (pv 4) pa_nil)) pa_nil)))
      (pss_cons (ps_if (pt_not (pt_val (pe_call F2 hr2 rfl g2 k2 b2 .nil pass0 (pa_cons (pv 2) (pa_cons (pv 6) pa_nil))))) (pss_one ps_never) pss_nil)
      (pss_cons (ps_if (PW.pt (pw_or (pt_not (pt_val (pe_call F2 hr2 rfl g2 k2 b2 .nil pass0 (pa_cons (pv 3) (pa_cons (pv 6) pa_nil))))) (pw_or1 (pt_cmpR op_gt (pe_callB call_len (by rfl) mLen PySem.boot_len (pa_cons (pv 3) pa_nil)) (pe_glob (v := .int 2) (by rfl) mMost ⟨_, rfl⟩) (nomark _))))) (pss_one ps_never) pss_nil)
      (pss_cons (ps_fld (pv 0) pe_dnewK rfl)
      (pss_cons (ps_for PassesOwn.never rfl (pi_list (pe_callB (call_sortedD rfl) (by rfl) mSorted (by decide +kernel) (pa_cons (pv 1) pa_nil))) (pg_name (i := 7) nd rfl (.inl rfl))
        (pss_cons (ps_asg (pe_dget hu (pv 1) (pv 7) (fun _ _ => rfl)) (pg_tup rfl (pgs_cons (pg_name (i := 8) nd rfl (.inr rfl)) (pgs_cons (pg_name (i := 9) nd rfl (.inr rfl)) pgs_nil))))
        (pss_one (ps_dput hu (pe_fld (pv 0) rfl) (pv 7) (pe_tup (pa_cons
            (pe_dc (own := [("node", 10)]) (g := gName 10) (tt := tYes) (tk := tVar 10) (tv := tDGet (tVar 8) (tVar 10)) rfl nd (pi_tup (pv 6)) (blkOk_by (own := [("node", 10)]) (N := nInit) (sc := defScope c_Net_init) (by decide +kernel)) (fun _ _ _ _ _ => pg_name (i := 10) nd rfl (Or.inl rfl)) (fun _ _ _ _ _ => pts_nil) (fun _ _ _ _ _ => pv 10) (fun _ _ _ _ _ => pe_dget hu (pv 8) (pv 10) (fun _ _ => rfl)))
            (pa_cons (pe_dc (own := [("node", 10)]) (g := gName 10) (tt := tYes) (tk := tVar 10) (tv := tDGet (tVar 9) (tVar 10)) rfl nd (pi_tup (pv 6)) (blkOk_by (own := [("node", 10)]) (N := nInit) (sc := defScope c_Net_init) (by decide +kernel)) (fun _ _ _ _ _ => pg_name (i := 10) nd rfl (Or.inl rfl)) (fun _ _ _ _ _ => pts_nil) (fun _ _ _ _ _ => pv 10) (fun _ _ _ _ _ => pe_dget hu (pv 9) (pv 10) (fun _ _ => rfl))) pa_nil))) rfl))))
      (pss_cons (ps_fld (pv 0) (pv 6) rfl)
      (pss_cons (ps_fld (pv 0) (pe_callTy call_tuple_of (by rfl) mTup (by decide +kernel) (pa_cons (pe_callB cr_sortedLU (by rfl) mSorted (by decide +kernel) (pa_cons (pv 2) pa_nil)) pa_nil)) rfl)
      (pss_one (ps_fld (pv 0) (pe_callTy call_tuple_of (by rfl) mTup (by decide +kernel) (pa_cons (pv 3) pa_nil)) rfl))))))))))), ?_⟩
    have rl : rows.length = ends.length := by rw [← hk.length_eq, List.length_map]
    have rne : rows ≠ [] := fun z => by
      have := ok.e0
      rw [z] at rl
      simp at rl
      omega
    have d6 := ok.d6
    have e2 := ok.e2
    -- if not are_tables(tables)
    refine ⟨.ref t, rfl, t, rows.map (·.1), dots, rows, rfl, x0 _ _ ht, rfl, hro.ex x0, by rw [hk.length_eq]; exact ok.e0, by rw [hk.length_eq]; exact ok.e2, fun z hz => ok.em z (hk.mem_iff.mp hz), ok.d0, ok.d6, fun z hz => ⟨ok.dm z hz, fun he => ok.ed z (hk.mem_iff.mp he) hz⟩, fun H1 x1 => ⟨true, rfl, ?_⟩⟩
    have y1 := x0.trans x1
    have hm1 := x1 _ _ hm
    -- first_old, _ = list(tables.values())[0]
    refine ⟨.ref t, rfl, t, tkv rows, rfl, .inl (y1 _ _ ht), fun l hl => ?_⟩
    obtain ⟨q0, r0, er⟩ : ∃ q0 r0, rows = q0 :: r0 := by
      cases q : rows with
      | nil => exact absurd q rne
      | cons q0 r0 => exact ⟨q0, r0, rfl⟩
    obtain ⟨p0, po0, pn0, t1, t2, eq0, pa0⟩ := hro q0 (by rw [er]; exact List.mem_cons_self)
    have at0 : ((tkv rows).map (·.2))[0]? = some (.ref p0) := by rw [er, ← eq0]; rfl
    have x2 : Evl.Ex H1 (upd H1 l (.lst ((tkv rows).map (·.2)))) := Evl.Ex.new hl
    have el : (upd H1 l (.lst ((tkv rows).map (·.2)))) l = some (.lst ((tkv rows).map (·.2))) := upd_same
    generalize upd H1 l (.lst ((tkv rows).map (·.2))) = H2 at x2 el
    have y2 := y1.trans x2
    refine ⟨l, _, 0, .ref p0, rfl, rfl, Evl.sq_of el, atI_nat (j := 0) at0, p0, _, rfl, Evl.st_of (y2 _ _ pa0.hp), rfl, _, _, rfl, _, [], rfl, rfl, ?_⟩
    -- nodes = tuple(sorted(first_old))
    refine ⟨.ref po0, rfl, po0, tkv t1, t1.map (·.1), rfl, .inl (y2 _ _ pa0.ho), ?_, ?_, fun ys sl hys hsort hsl => ⟨sl, ys.map V.str, rfl, .inl ⟨Evl.sq_of upd_same, fun N hN => ?_⟩⟩⟩
    · unfold tkv
      rw [List.map_map, List.map_map]
      rfl
    · rw [pa0.o1.ks.length_eq]
      omega
    have eys : ys = dots := sorted_uniq hsort ok.ds (hys.trans pa0.o1.ks)
    subst eys
    have x3 : Evl.Ex H2 (upd (upd H2 sl (.lst (ys.map V.str))) N (.tup (ys.map V.str))) := (Evl.Ex.new hsl).trans (Evl.Ex.new hN)
    have eN : (upd (upd H2 sl (.lst (ys.map V.str))) N (.tup (ys.map V.str))) N = some (.tup (ys.map V.str)) := upd_same
    have fN : Hb N = none := by
      cases q : Hb N with
      | none => rfl
      | some o => rw [Evl.Ex.new hsl _ _ (y2 _ _ q)] at hN; cases hN
    generalize upd (upd H2 sl (.lst (ys.map V.str))) N (.tup (ys.map V.str)) = H3 at x3 eN
    have y3 := y2.trans x3
    have lss : ss.length ≤ ys.length := nodup_le ss ys ok.sn ok.sd
    have lps : ps.length ≤ ys.length := nodup_le ps ys ok.pn ok.pd
    -- if not are_different(sources, nodes)
    refine ⟨.ref s', rfl, .ref N, rfl, s', N, ss, ys, rfl, (hs.ex y3).k, .inr (Evl.st_of eN), ok.sn, ok.sd, by omega, fun H4 x4 => ⟨true, rfl, ?_⟩⟩
    have y4 := y3.trans x4
    -- if not are_different(posts, nodes) or ..
    refine ⟨.ref p, rfl, .ref N, rfl, p, N, ps, ys, rfl, (hp.ex y4).k, .inr (Evl.st_of (x4 _ _ eN)), ok.pn, ok.pd, by omega, fun H5 x5 => ⟨true, rfl, ?_⟩⟩
    have y5 := y4.trans x5
    have hp2 := ok.p2
    refine ⟨.ref p, rfl, .ref p, (ps.map V.str).length, rfl, (hp.ex y5).elim (fun q => .inl ⟨_, Evl.sq_of q, rfl⟩) (fun q => .inr ⟨_, Evl.st_of q, rfl⟩), ((ps.map V.str).length : Int), 2, rfl, rfl, false, congrArg V.bl (decide_eq_false (show ¬ (2 : Int) < ((ps.map V.str).length : Int) by rw [List.length_map]; omega)), ?_⟩
    have hm5 : H5 m = some (.ins C dx []) := (((x2.trans x3).trans x4).trans x5) _ _ hm1
    have eN5 : H5 N = some (.tup (ys.map V.str)) := (x4.trans x5) _ _ eN
    -- self._tables = {}
    refine fun T' hT => ⟨.ref m, rfl, m, C, dx, [], rfl, Evl.Ex.new hT _ _ hm5, T.cl, T.nT, by decide, ?_⟩
    rw [nf1]
    have nTm : T' ≠ m := (ne_of_none hm5 hT).symm
    have nNm : N ≠ m := ne_of eN5 hm5 (by intro z; cases z)
    have fT : Hb T' = none := by
      cases q : Hb T' with
      | none => rfl
      | some o => rw [y5 _ _ q] at hT; cases hT
    have y6 : Evl.Ex Hb (upd (upd H5 T' (.dK [])) m (.ins C dx [("_tables", .ref T')])) := (y5.trans (Evl.Ex.new hT)).mut hm0
    have hm6 : (upd (upd H5 T' (.dK [])) m (.ins C dx [("_tables", .ref T')])) m = some (.ins C dx [("_tables", .ref T')]) := upd_same
    have hT6 : (upd (upd H5 T' (.dK [])) m (.ins C dx [("_tables", .ref T')])) T' = some (.dK (tkv [])) := by rw [upd_ne nTm, upd_same]; rfl
    have hN6 : (upd (upd H5 T' (.dK [])) m (.ins C dx [("_tables", .ref T')])) N = some (.tup (ys.map V.str)) := by rw [upd_ne nNm]; exact Evl.Ex.new hT _ _ eN5
    generalize upd (upd H5 T' (.dK [])) m (.ins C dx [("_tables", .ref T')]) = H6 at y6 hm6 hT6 hN6
    -- for goal in sorted(tables)
    refine ⟨.ref t, rfl, t, tkv rows, rows.map (·.1), rfl, .inl (y6 _ _ ht), ?_, by rw [hk.length_eq]; omega, fun ys2 gl hys2 hsort2 hgl => ⟨gl, rfl, ⟨_, Evl.sq_of upd_same⟩, ?_⟩⟩
    · unfold tkv
      rw [List.map_map, List.map_map]
      rfl
    have eys2 : ys2 = ends := sorted_uniq hsort2 ok.es (hys2.trans hk)
    subst eys2
    have x7 : Evl.Ex H6 (upd H6 gl (.lst (ys2.map V.str))) := Evl.Ex.new hgl
    refine for_list (K := K) (a := gl) (xs := ys2.map V.str)
      (fun i σ H' => ∃ (x7 x8 x9 : Option V) (nr : List (Str × V)), σ = [some (.ref m), some (.ref t), some (.ref s'), some (.ref p), some (.ref po0), some (.ref pn0), some (.ref N), x7, x8, x9, none] ∧ nr.map (·.1) = ys2.take i ∧
        (∀ e ∈ ys2.take i, ∃ q qo qn : Addr, valV (tkv nr) (Sum.inr e) = some (.ref q) ∧ PairAt H' ys e q qo qn (canon ys (o e)) (canon ys (n e)) ∧ Hb q = none ∧ Hb qo = none ∧ Hb qn = none ∧ qo ≠ T' ∧ qn ≠ T') ∧
        H' m = some (.ins C dx [("_tables", .ref T')]) ∧ H' T' = some (.dK (tkv nr)) ∧ H' N = some (.tup (ys.map V.str)) ∧ H' gl = some (.lst (ys2.map V.str)) ∧ Evl.Ex Hb H')
      ⟨none, none, none, [], rfl, rfl, (fun e he => by cases he), x7 _ _ hm6, x7 _ _ hT6, x7 _ _ hN6, upd_same, y6.trans x7⟩ (fun i σ H' _ ⟨_, _, _, _, _, _, _, _, _, _, h, _⟩ => Evl.sq_of h) ?_ ?_
    · rintro i x σ H7 hi ⟨x7', x8', x9', nr, rfl, hnr, hpr, hm7, hT7, hN7, hg7, y7⟩
      obtain ⟨z, hz, rfl⟩ := str_at hi
      have hil : i < ys2.length := (List.getElem?_eq_some_iff.mp hz).1
      have hzm := List.mem_of_getElem? hz
      have etake : ys2.take (i + 1) = ys2.take i ++ [z] := by rw [List.take_add_one, hz]; rfl
      have zn : z ∉ ys2.take i := fun hm => by
        have h1 : (ys2.take (i + 1)).Nodup := ok.en.sublist (List.take_sublist _ _)
        rw [etake] at h1
        exact (List.nodup_append.mp h1).2.2 z hm z (List.mem_singleton.mpr rfl) rfl
      obtain ⟨p1, po1, pn1, hv1, pa1⟩ := hra z hzm
      have gt : DGet H7 t (.str z) (some (.ref p1)) := by
        have q := DGet.k (k := Sum.inr z) (y7 _ _ ht)
        rw [hv1] at q
        exact q
      -- old, new = tables[goal]
      refine ⟨.ref t, rfl, .str z, rfl, t, .ref p1, rfl, gt, p1, _, rfl, Evl.st_of (y7 _ _ pa1.hp), rfl, _, _, rfl, _, [], rfl, rfl, ?_⟩
      -- the two new dicts
      refine ⟨.ref N, rfl, N, rfl, ⟨_, Evl.st_of hN7⟩, fun D1 hD1 => dc_canon (e := z) hN7 (y7 _ _ pa1.ho) pa1.o1 ok.dn (by omega) hD1 (fun _ => rfl) (fun _ => rfl) (fun _ => rfl) ?_⟩
      have w1 : Evl.Ex H7 (upd H7 D1 (.dK (tkv (canon ys (o z))))) := Evl.Ex.new hD1
      have d1 : (upd H7 D1 (.dK (tkv (canon ys (o z))))) D1 = some (.dK (tkv (canon ys (o z)))) := upd_same
      have fr : ∀ {a : Addr}, H7 a = none → Hb a = none := fun {a} h => by
        cases q : Hb a with
        | none => rfl
        | some o => rw [y7 _ _ q] at h; cases h
      have fD1 := fr hD1
      have nD1 : D1 ≠ T' := (ne_of_none hT7 hD1).symm
      generalize upd H7 D1 (.dK (tkv (canon ys (o z)))) = H8 at w1 d1
      refine ⟨.ref N, rfl, N, rfl, ⟨_, Evl.st_of (w1 _ _ hN7)⟩, fun D2 hD2 => dc_canon (e := z) (w1 _ _ hN7) (w1 _ _ (y7 _ _ pa1.hn)) pa1.o2 ok.dn (by omega) hD2 (fun _ => rfl) (fun _ => rfl) (fun _ => rfl) ?_⟩
      have w2 : Evl.Ex H8 (upd H8 D2 (.dK (tkv (canon ys (n z))))) := Evl.Ex.new hD2
      have d2 : (upd H8 D2 (.dK (tkv (canon ys (n z))))) D2 = some (.dK (tkv (canon ys (n z)))) := upd_same
      have fr8 : ∀ {a : Addr}, H8 a = none → Hb a = none := fun {a} h => by
        cases q : Hb a with
        | none => rfl
        | some o => rw [w1 _ _ (y7 _ _ q)] at h; cases h
      have fD2 := fr8 hD2
      have nD2 : D2 ≠ T' := (ne_of_none (w1 _ _ hT7) hD2).symm
      generalize upd H8 D2 (.dK (tkv (canon ys (n z)))) = H9 at w2 d2
      have w12 := w1.trans w2
      refine ⟨by show 2 ≤ sizeLine; decide, fun q hq => ?_⟩
      have w3 : Evl.Ex H9 (upd H9 q (.tup [.ref D1, .ref D2])) := Evl.Ex.new hq
      have d3 : (upd H9 q (.tup [.ref D1, .ref D2])) q = some (.tup [.ref D1, .ref D2]) := upd_same
      have fq : Hb q = none := by
        cases q' : Hb q with
        | none => rfl
        | some o => rw [w12 _ _ (y7 _ _ q')] at hq; cases hq
      generalize upd H9 q (.tup [.ref D1, .ref D2]) = H10 at w3 d3
      have w := w12.trans w3
      have hT10 := w _ _ hT7
      have nrl : nr.length ≤ 2 := by
        have := congrArg List.length hnr
        rw [List.length_map, List.length_take] at this
        omega
      refine ⟨.ref m, rfl, m, C, dx, _, _, rfl, w _ _ hm7, T.cl, T.nT, nf1_get T', .str z, rfl, T', _, rfl, DPut.k (k := Sum.inr z) hT10 (by rw [tkv_len]; exact small1000 (by omega)), ?_⟩
      rw [tkv_new (by rw [hnr]; exact zn)]
      have keep : ∀ {a : Addr} {u : HO}, H10 a = some u → a ≠ T' → (upd H10 T' (.dK (tkv (nr ++ [(z, V.ref q)])))) a = some u := fun {a u} h ne => by rw [upd_ne ne]; exact h
      have mT : m ≠ T' := nTm.symm
      have gT : gl ≠ T' := ne_of hg7 hT7 (by intro z; cases z)
      have NT : N ≠ T' := ne_of hN7 hT7 (by intro z; cases z)
      refine ⟨_, _, _, nr ++ [(z, .ref q)], rfl, ?_, ?_, keep (w _ _ hm7) mT, upd_same, keep (w _ _ hN7) NT, keep (w _ _ hg7) gT, (y7.trans w).mut fT⟩
      · rw [List.map_append, hnr, etake]
        rfl
      · intro e he
        rw [etake] at he
        have vget : ∀ e', valV (tkv (nr ++ [(z, V.ref q)])) (Sum.inr e') = if (Sum.inr e' : Key) = Sum.inr z then some (.ref q) else valV (tkv nr) (Sum.inr e') := fun e' => by
          have h1 := tkv_none (tb := nr) (z := z) (by rw [hnr]; exact zn)
          have h2 := valV_snoc (Sum.inr z : Key) (Sum.inr e') (V.ref q) (tkv nr) h1
          unfold tkv at h2 ⊢
          rw [List.map_append]
          exact h2
        rcases List.mem_append.mp he with he | he
        · obtain ⟨q', qo, qn, v1, pa, f1, f2, f3, n2, n3⟩ := hpr e he
          have ne : e ≠ z := fun w => zn (w ▸ he)
          have pw := pa.ex w
          refine ⟨q', qo, qn, by rw [vget, if_neg (fun w => ne (Sum.inr.inj w))]; exact v1, ⟨keep pw.hp (ne_of pw.hp hT10 (by intro z; cases z)), keep pw.ho n2, keep pw.hn n3, pw.o1, pw.o2⟩, f1, f2, f3, n2, n3⟩
        · rw [List.mem_singleton.mp he]
          refine ⟨q, D1, D2, by rw [vget, if_pos rfl], ⟨keep d3 (ne_of d3 hT10 (by intro z; cases z)), keep (w3 _ _ (w2 _ _ d1)) nD1, keep (w3 _ _ d2) nD2, canon_ok pa1.o1, canon_ok pa1.o2⟩, fq, fD1, fD2, nD1, nD2⟩
    · rintro σ H7 ⟨x7', x8', x9', nr, rfl, hnr, hpr, hm7, hT7, hN7, hg7, y7⟩
      rw [List.length_map, List.take_length] at hnr hpr
      -- self._nodes = nodes
      refine ⟨.ref N, rfl, .ref m, rfl, m, C, dx, _, rfl, hm7, T.cl, T.nN, by show 1 < 1000; decide, ?_⟩
      rw [nf2]
      have up : ∀ {Hx : Hp} {a : Addr} {u v : HO}, Hx a = some u → a ≠ m → (upd Hx m v) a = some u := fun {Hx a u v} h ne => by rw [upd_ne ne]; exact h
      have y8 : Evl.Ex Hb (upd H7 m (.ins C dx [("_tables", .ref T'), ("_nodes", .ref N)])) := y7.mut hm0
      -- self._sources = tuple(sorted(sources))
      refine ⟨.ref s', rfl, s', ss, rfl, (hs.ex y8).k, by omega, fun ys3 sl3 hys3 hsort3 hsl3 => ⟨sl3, ys3.map V.str, rfl, .inl ⟨Evl.sq_of upd_same, fun S hS => ?_⟩⟩⟩
      have eys3 : ys3 = ss := sorted_uniq hsort3 ok.sss hys3
      subst eys3
      have w4 : Evl.Ex (upd H7 m (.ins C dx [("_tables", .ref T'), ("_nodes", .ref N)])) (upd (upd (upd H7 m (.ins C dx [("_tables", .ref T'), ("_nodes", .ref N)])) sl3 (.lst (ys3.map V.str))) S (.tup (ys3.map V.str))) := (Evl.Ex.new hsl3).trans (Evl.Ex.new hS)
      have hS8 : (upd (upd (upd H7 m (.ins C dx [("_tables", .ref T'), ("_nodes", .ref N)])) sl3 (.lst (ys3.map V.str))) S (.tup (ys3.map V.str))) S = some (.tup (ys3.map V.str)) := upd_same
      have fS : Hb S = none := by
        cases q : Hb S with
        | none => rfl
        | some o => rw [Evl.Ex.new hsl3 _ _ (y8 _ _ q)] at hS; cases hS
      have hm8 := w4 _ _ upd_same
      have old8 : ∀ {a : Addr} {u : HO}, H7 a = some u → a ≠ m → (upd (upd (upd H7 m (.ins C dx [("_tables", .ref T'), ("_nodes", .ref N)])) sl3 (.lst (ys3.map V.str))) S (.tup (ys3.map V.str))) a = some u := fun {a u} h ne => w4 _ _ (up h ne)
      have y9 := y8.trans w4
      generalize upd (upd (upd H7 m (.ins C dx [("_tables", .ref T'), ("_nodes", .ref N)])) sl3 (.lst (ys3.map V.str))) S (.tup (ys3.map V.str)) = H9 at hS8 hm8 old8 y9
      have nSm : S ≠ m := ne_of hS8 hm8 (by intro z; cases z)
      refine ⟨.ref m, rfl, m, C, dx, _, rfl, hm8, T.cl, T.nS, by show 2 < 1000; decide, ?_⟩
      rw [nf3]
      have y10 : Evl.Ex Hb (upd H9 m (.ins C dx [("_tables", .ref T'), ("_nodes", .ref N), ("_sources", .ref S)])) := y9.mut hm0
      -- self._posts = tuple(posts)
      have last : ∀ (Po : Addr) (H11 : Hp), Evl.Ex (upd H9 m (.ins C dx [("_tables", .ref T'), ("_nodes", .ref N), ("_sources", .ref S)])) H11 → H11 Po = some (.tup (ps.map V.str)) → (Hb Po = none ∨ (Po = p ∧ Hb p = some (.tup (ps.map V.str)))) →
          H11 m = some (.ins C dx [("_tables", .ref T'), ("_nodes", .ref N), ("_sources", .ref S)]) ∧ Q .non (upd H11 m (.ins C dx (nflds T' N S Po))) := by
        intro Po H11 w5 hP10 src
        have hm10 := w5 _ _ upd_same
        have old10 : ∀ {a : Addr} {u : HO}, H9 a = some u → a ≠ m → H11 a = some u := fun {a u} h ne => w5 _ _ (up h ne)
        have y11 := y10.trans w5
        have nPm : Po ≠ m := ne_of hP10 hm10 (by intro z; cases z)
        refine ⟨hm10, ?_⟩
        have y12 : Evl.Ex Hb (upd H11 m (.ins C dx (nflds T' N S Po))) := y11.mut hm0
        have fin : ∀ {a : Addr} {u : HO}, H7 a = some u → a ≠ m → Hb a = none → rest Hb (upd H11 m (.ins C dx (nflds T' N S Po))) a = some u := fun {a u} h ne f => rest_of f (up (old10 (old8 h ne) ne) ne)
        refine k _ y12 fun Hz xz pz => ⟨dx, T', N, S, Po, nr, xz _ _ (rest_of hm0 upd_same), xz _ _ (fin hT7 nTm fT), xz _ _ (fin hN7 nNm fN), xz _ _ (rest_of fS (up (old10 hS8 nSm) nSm)), ?_, hnr, fun e he => ?_⟩
        · rcases src with f | ⟨rfl, f⟩
          · exact xz _ _ (rest_of f (up hP10 nPm))
          · exact pz f
        · obtain ⟨q, qo, qn, v1, pa, f1, f2, f3, n2, n3⟩ := hpr e he
          exact ⟨q, qo, qn, v1, ⟨xz _ _ (fin pa.hp (ne_of pa.hp hm7 (by intro z; cases z)) f1), xz _ _ (fin pa.ho (ne_of pa.ho hm7 (by intro z; cases z)) f2), xz _ _ (fin pa.hn (ne_of pa.hn hm7 (by intro z; cases z)) f3), pa.o1, pa.o2⟩⟩
      rcases hp with hp | hp
      · refine ⟨.ref p, rfl, p, ps.map V.str, rfl, .inl ⟨Evl.sq_of (y10 _ _ hp), fun Po hPo => ?_⟩⟩
        have fP : Hb Po = none := by
          cases q : Hb Po with
          | none => rfl
          | some o => rw [y10 _ _ q] at hPo; cases hPo
        obtain ⟨h1, h2⟩ := last Po _ (Evl.Ex.new hPo) upd_same (.inl fP)
        refine ⟨.ref m, rfl, m, C, dx, _, rfl, h1, T.cl, T.nP, by show 3 < 1000; decide, ?_⟩
        rw [nf4]
        exact h2
      · refine ⟨.ref p, rfl, p, ps.map V.str, rfl, .inr ⟨Evl.st_of (y10 _ _ hp), ?_⟩⟩
        obtain ⟨h1, h2⟩ := last p _ (Evl.Ex.refl _) (y10 _ _ hp) (.inr ⟨rfl, hp⟩)
        refine ⟨.ref m, rfl, m, C, dx, _, rfl, h1, T.cl, T.nP, by show 3 < 1000; decide, ?_⟩
        rw [nf4]
        exact h2
end
end Rw
end T_N1

section T_MA
set_option Elab.async false
set_option linter.all false
set_option maxRecDepth 100000
set_option maxHeartbeats 4000000
namespace Rw
open PySem L2 PyProof.Rows
/-! ### the models of the second stage's laws -/
def mkS (nb tb sb pb : Addr) : List (Key × V) := [(.inr "nodes", .ref nb), (.inr "tables", .ref tb), (.inr "starts", .ref sb), (.inr "marks", .ref pb)]
theorem mkS_nodes (nb tb sb pb : Addr) : valV (mkS nb tb sb pb) (.inr "nodes") = some (.ref nb) := by kernel_rfl
theorem mkS_tables (nb tb sb pb : Addr) : valV (mkS nb tb sb pb) (.inr "tables") = some (.ref tb) := by kernel_rfl
theorem mkS_starts (nb tb sb pb : Addr) : valV (mkS nb tb sb pb) (.inr "starts") = some (.ref sb) := by kernel_rfl
theorem mkS_marks (nb tb sb pb : Addr) : valV (mkS nb tb sb pb) (.inr "marks") = some (.ref pb) := by kernel_rfl
structure ModelS (H : Hp) (m nb tb sb pb : Addr) (ends dots ss ps : List Str) (rows : List (Str × V)) (o n : Str → List (Str × V)) : Prop where
  hm : H m = some (.dK (mkS nb tb sb pb))
  hn : H nb = some (.lst (dots.map V.str))
  ht : H tb = some (.dK (tkv rows))
  hs : H sb = some (.lst (ss.map V.str))
  hp : H pb = some (.lst (ps.map V.str))
  rk : (rows.map (·.1)).Perm ends
  ra : RowsAt H ends dots rows o n
  ok : ModelOk ends dots ss ps
theorem ModelS.to {H H' : Hp} {m nb tb sb pb : Addr} {ends dots ss ps : List Str} {rows : List (Str × V)} {o n : Str → List (Str × V)} (h : ModelS H m nb tb sb pb ends dots ss ps rows o n) (x : Evl.Ex H H') : ModelS H' m nb tb sb pb ends dots ss ps rows o n :=
  ⟨x _ _ h.hm, x _ _ h.hn, x _ _ h.ht, x _ _ h.hs, x _ _ h.hp, h.rk, h.ra.ex x, h.ok⟩
theorem RowsAt.okP {H : Hp} {ends dots : List Str} {rows : List (Str × V)} {o n : Str → List (Str × V)} (h : RowsAt H ends dots rows o n) (hk : (rows.map (·.1)).Perm ends) (nd : ends.Nodup) : RowsOk H dots rows := by
  have h' : RowsAt H (rows.map (·.1)) dots rows o n := fun e he => h e (hk.mem_iff.mp he)
  exact h'.ok rfl (hk.nodup_iff.mpr nd)
theorem rest_less2 {H Hb H' : Hp} (x : Evl.Ex H Hb) : Evl.Ex (rest Hb H') (rest H H') := fun a o h => by
  have h' := rest_ex Hb H' a o h
  refine rest_of ?_ h'
  cases q : H a with
  | none => rfl
  | some u =>
    have := x _ _ q
    unfold rest at h
    rw [this] at h
    cases h
section
variable {P : Program} {w : World} {K : PySem.W.Frag} {mg : Str → Option Value} {base : Heap}
def spMade (C : Addr) : Sp := fun vs H Q _ => ∃ (m nb tb sb pb : Addr) (ends dots ss ps : List Str) (rows : List (Str × V)) (o n : Str → List (Str × V)), vs = [.ref m] ∧ ModelS H m nb tb sb pb ends dots ss ps rows o n ∧
  ∀ x H', Evl.Ex H H' → H x = none → NetAt C (rest H H') x ends dots ss ps o n → Q (.ref x) H'
abbrev nMade : List Str := ["model", "tables", "target", "pair"]
theorem sc_made : FnScope nMade ["model"] (defScope s_made) := ⟨rfl, rfl, rfl, by decide +kernel, rfl, by decide +kernel, by decide +kernel⟩
theorem ok_made {f C fi : Addr} {fd fdi : FuncData} (F : Fun K "_law_made" "_law_made" s_made f fd) (M : Mk K C fi) (I_ : FnOk P w K mg base CX0 4 fi fdi ["self", "tables", "sources", "posts"] (spInit C)) (bi : Binds K fdi ["self", "tables", "sources", "posts"] []) (mNet : mg "Net" = some (.ref C))
    (mDict : mg "dict" = none) (mList : mg "list" = none) :
    FnOk P w K mg base CX0 6 f fd ["model"] (spMade C) := by
  refine F.ok sc_made (fun vs H Q E h => ?_) (fun cdv A outer s H vs Q E hr h => ?_)
  · obtain ⟨m, nb, tb, sb, pb, ends, dots, ss, ps, rows, o, n, rfl, _⟩ := h
    rfl
  · obtain ⟨m, nb, tb, sb, pb, ends, dots, ss, ps, rows, o, n, rfl, MS, k⟩ := h
    have hu := hu_of hr
    have nd := sc_made.nd
    refine ⟨_, pss_cons (ps_set (i := 1) nd rfl (.inl rfl) (pe_lock (pe_callTy (call_dictP rfl) (by rfl) mDict (by decide +kernel) (pa_cons
        (pe_lc (own := [("target", 2), ("pair", 3)]) (g := gTup K 2 (gCons (gName 2) (gCons (gName 3) gNil))) (tt := tYes) (te := tTup (tCons (tVar 2) (tCons (tTup (tCons (tCB (fun xs H Q => ∃ (a : Addr) (kvs : List (Key × V)), xs = [.ref a] ∧ Rd H a (.dK kvs) ∧ ∀ p, H p = none → Q (.ref p) (upd H p (.dK kvs))) (tCons (tOp (rIxT K) (tVar 3) (tC (.int 0))) tNil)) (tCons (tCB (fun xs H Q => ∃ (a : Addr) (kvs : List (Key × V)), xs = [.ref a] ∧ Rd H a (.dK kvs) ∧ ∀ p, H p = none → Q (.ref p) (upd H p (.dK kvs))) (tCons (tOp (rIxT K) (tVar 3) (tC (.int 1))) tNil)) tNil))) tNil))) rfl nd (pi_items (pe_dget hu (pv 0) pe_str (fun _ _ => rfl))) (blkOk_by (own := [("target", 2), ("pair", 3)]) (N := nMade) (sc := defScope s_made) (by decide +kernel))
          (fun _ _ _ _ _ => pg_tup rfl (pgs_cons (pg_name (i := 2) nd rfl (Or.inl rfl)) (pgs_cons (pg_name (i := 3) nd rfl (Or.inl rfl)) pgs_nil))) (fun _ _ _ _ _ => pts_nil)
          (fun _ _ _ _ _ => pe_tup (pa_cons (pv 2) (pa_cons (pe_tup (pa_cons (pe_callTy call_dictD (by rfl) mDict (by decide +kernel) (pa_cons (pe_ix ix_tup (pv 3) pe_int (fun _ _ => rfl)) pa_nil)) (pa_cons (pe_callTy call_dictD (by rfl) mDict (by decide +kernel) (pa_cons (pe_ix ix_tup (pv 3) pe_int (fun _ _ => rfl)) pa_nil)) pa_nil))) pa_nil)))) pa_nil))))
      (pss_one (ps_ret (pe_make M I_ hr rfl mNet bi .nil pass0 (pa_cons (pv 1) (pa_cons (pe_callTy call_list_of (by rfl) mList (by decide +kernel) (pa_cons (pe_dget hu (pv 0) pe_str (fun _ _ => rfl)) pa_nil)) (pa_cons (pe_callTy call_list_of (by rfl) mList (by decide +kernel) (pa_cons (pe_dget hu (pv 0) pe_str (fun _ _ => rfl)) pa_nil)) pa_nil)))))), ?_⟩
    have ok := MS.ok
    have en : (rows.map (·.1)).Nodup := MS.rk.nodup_iff.mpr ok.en
    have rl : rows.length ≤ 2 := by
      have := MS.rk.length_eq
      rw [List.length_map] at this
      have := ok.e2
      omega
    have ro := MS.ra.okP MS.rk ok.en
    have rne : rows ≠ [] := fun z => by
      have q := MS.rk.length_eq
      rw [z] at q
      have := ok.e0
      simp at q
      omega
    have h2 := MS.ht
    refine ⟨tb, .dK (tkv rows), h2, trivial, fun od => ?_⟩
    have locked : (upd H tb (.frz od (.dK (tkv rows)))) tb = some (.frz od (.dK (tkv rows))) := upd_same
    have up : ∀ {a : Addr} {u : HO}, H a = some u → a ≠ tb → (upd H tb (.frz od (.dK (tkv rows)))) a = some u := fun {a u} h ne => by rw [upd_ne ne]; exact h
    have back : ∀ {H4 : Hp}, Evl.Ex (upd H tb (.frz od (.dK (tkv rows)))) H4 → Evl.Ex H (upd H4 tb (.dK (tkv rows))) := fun {H4} e a u h => by
      by_cases q : a = tb
      · subst q
        rw [upd_same, ← h2, h]
      · rw [upd_ne q]
        exact e _ _ (by rw [upd_ne q]; exact h)
    have mne : m ≠ tb := fun z => by
      have q := MS.hm
      rw [z, h2] at q
      have q2 := HO.dK.inj (Option.some.inj q)
      have q3 := congrArg List.length q2
      rw [tkv_len] at q3
      have q4 : (mkS nb tb sb pb).length = 4 := rfl
      omega
    generalize upd H tb (.frz od (.dK (tkv rows))) = HL at locked up back
    refine ⟨.ref m, rfl, m, _, rfl, dgK (up MS.hm mne) (mkS_tables _ _ _ _), tb, od, _, rfl, locked, fun D hD => lc_it walk_items
      (fun i H' => i ≤ rows.length ∧ Evl.Ex HL H' ∧ ∃ (T : List (Str × Addr × Addr × Addr)) (as : List Addr), H' D = some (.lst (as.map V.ref)) ∧ Paired (fun p kv => H' p = some (.tup [kV kv.1, kv.2])) as (tkv (tabRs T)) ∧ T.map (·.1) = (rows.map (·.1)).take i ∧ ∀ t ∈ T, PairAt H' dots t.1 t.2.1 t.2.2.1 t.2.2.2 (o t.1) (n t.1))
      ⟨Nat.zero_le _, Evl.Ex.new hD, [], [], upd_same, .nil, rfl, fun t ht => nomatch ht⟩ (fun i H' _ h => h.2.1 _ _ locked) ?_ ?_⟩
    · rintro i x H4 H4' hi ⟨_, x4, T, as, d4, pr, hk, hpa⟩ ⟨Tt, xk, xv, rfl, hTt, rfl, hxk, hxv⟩
      rw [tkv_len] at hi
      have hi' : i < (rows.map (·.1)).length := by rw [List.length_map]; exact hi
      obtain ⟨e, he⟩ : ∃ e, e = (rows.map (·.1))[i] := ⟨_, rfl⟩
      have gi : (rows.map (·.1))[i]? = some e := by rw [he]; exact List.getElem?_eq_getElem hi'
      have em : e ∈ ends := MS.rk.mem_iff.mp (List.mem_of_getElem? gi)
      obtain ⟨p, po, pn, hv, pa⟩ := MS.ra e em
      have ev : xv = .ref p := by
        have z := tkv_at rfl en gi hv
        rw [List.getElem?_map] at z
        exact Option.some.inj (hxv.symm.trans z)
      have ek : xk = .str e := by
        have z : ((tkv rows).map fun kv => kV kv.1)[i]? = some (.str e) := by rw [tkv_keysV, List.getElem?_map, gi]; rfl
        rw [List.getElem?_map] at z
        exact Option.some.inj (hxk.symm.trans z)
      subst ev ek
      have n1 : p ≠ tb := ne_of pa.hp h2 (by intro z; cases z)
      have n2 : po ≠ tb := tab_ne h2 ro rne pa.ho pa.o1
      have n3 : pn ≠ tb := tab_ne h2 ro rne pa.hn pa.o2
      have y1 : Evl.Ex H4 (upd H4 Tt (.tup [.str e, .ref p])) := Evl.Ex.new hTt
      have t1 : (upd H4 Tt (.tup [.str e, .ref p])) Tt = some (.tup [.str e, .ref p]) := upd_same
      generalize upd H4 Tt (.tup [.str e, .ref p]) = H5 at y1 t1
      have x5 := x4.trans y1
      refine ⟨Tt, _, rfl, Evl.st_of t1, rfl, _, _, rfl, _, [], rfl, rfl, rfl, ?_⟩
      refine yes_if ?_
      refine ⟨.str e, rfl, .ref p, rfl, p, _, 0, .ref po, rfl, rfl, Evl.st_of (x5 _ _ (up pa.hp n1)), rfl, po, _, rfl, .inl (x5 _ _ (up pa.ho n2)), fun c1 hc1 => ?_⟩
      have y2 : Evl.Ex H5 (upd H5 c1 (.dK (tkv (o e)))) := Evl.Ex.new hc1
      have q2 : (upd H5 c1 (.dK (tkv (o e)))) c1 = some (.dK (tkv (o e))) := upd_same
      generalize upd H5 c1 (.dK (tkv (o e))) = H6 at y2 q2
      have x6 := x5.trans y2
      refine ⟨.ref p, rfl, p, _, 1, .ref pn, rfl, rfl, Evl.st_of (x6 _ _ (up pa.hp n1)), rfl, pn, _, rfl, .inl (x6 _ _ (up pa.hn n3)), fun c2 hc2 => ?_⟩
      have y3 : Evl.Ex H6 (upd H6 c2 (.dK (tkv (n e)))) := Evl.Ex.new hc2
      have q3 : (upd H6 c2 (.dK (tkv (n e)))) c2 = some (.dK (tkv (n e))) := upd_same
      generalize upd H6 c2 (.dK (tkv (n e))) = H7 at y3 q3
      refine ⟨by show 2 ≤ sizeLine; decide, fun c3 hc3 => ?_⟩
      have y4 : Evl.Ex H7 (upd H7 c3 (.tup [.ref c1, .ref c2])) := Evl.Ex.new hc3
      have q4 : (upd H7 c3 (.tup [.ref c1, .ref c2])) c3 = some (.tup [.ref c1, .ref c2]) := upd_same
      generalize upd H7 c3 (.tup [.ref c1, .ref c2]) = H8 at y4 q4
      refine ⟨by show 2 ≤ sizeLine; decide, fun c4 hc4 => ?_⟩
      have y5 : Evl.Ex H8 (upd H8 c4 (.tup [.str e, .ref c3])) := Evl.Ex.new hc4
      have q5 : (upd H8 c4 (.tup [.str e, .ref c3])) c4 = some (.tup [.str e, .ref c3]) := upd_same
      generalize upd H8 c4 (.tup [.str e, .ref c3]) = H9 at y5 q5
      have z59 := (y2.trans y3).trans (y4.trans y5)
      have z49 := y1.trans z59
      have x9 := x4.trans z49
      have d9 := z49 _ _ d4
      have asl : as.length ≤ 2 := by
        have h1 := congrArg List.length hk
        have h3 := pr.length
        rw [tkv_len] at h3
        unfold tabRs at h3
        rw [List.length_map] at h1 h3
        rw [List.length_take, List.length_map] at h1
        omega
      have d0 : HL D = none := hD
      have stay : ∀ {a : Addr} {u : HO}, H9 a = some u → (∀ xs, u ≠ .lst xs) → (upd H9 D (.lst (as.map V.ref ++ [.ref c4]))) a = some u := fun {a u} h ne => by
        rw [upd_ne (fun z => by rw [z, d9] at h; exact ne _ (Option.some.inj h).symm)]
        exact h
      refine ⟨as.map V.ref, d9, by rw [List.length_map]; exact small1000 (by omega), hi, x9.mut d0, T ++ [(e, c3, c1, c2)], as ++ [c4], ?_, ?_, ?_, ?_⟩
      · rw [upd_same, List.map_append]
        rfl
      · have e1 : tkv (tabRs (T ++ [(e, c3, c1, c2)])) = tkv (tabRs T) ++ [(.inr e, .ref c3)] := by
          unfold tabRs tkv
          rw [List.map_append, List.map_append]
          rfl
        rw [e1]
        refine Paired.snoc (L2.Paired.mapP pr fun a kv h => stay (z49 _ _ h) fun xs z => by cases z) ?_
        exact stay q5 fun xs z => by cases z
      · rw [List.map_append, hk, List.take_add_one, gi]
        rfl
      · intro t ht
        have move : ∀ {t : Str × Addr × Addr × Addr}, PairAt H9 dots t.1 t.2.1 t.2.2.1 t.2.2.2 (o t.1) (n t.1) → PairAt (upd H9 D (.lst (as.map V.ref ++ [.ref c4]))) dots t.1 t.2.1 t.2.2.1 t.2.2.2 (o t.1) (n t.1) := fun h =>
          ⟨stay h.hp fun xs z => (by cases z), stay h.ho fun xs z => (by cases z), stay h.hn fun xs z => (by cases z), h.o1, h.o2⟩
        rcases List.mem_append.mp ht with ht | ht
        · exact move ((hpa t ht).ex z49)
        · rw [List.mem_singleton.mp ht]
          exact move (t := (e, c3, c1, c2)) ⟨y5 _ _ q4, (y3.trans (y4.trans y5)) _ _ q2, (y4.trans y5) _ _ q3, pa.o1, pa.o2⟩
    · rintro H4 ⟨_, x4, T, as, d4, pr, hk, hpa⟩
      rw [tkv_len, List.take_of_length_le (by rw [List.length_map]; exact Nat.le_refl _)] at hk
      have tk : (tabRs T).map (·.1) = rows.map (·.1) := by rw [tabRs_keys, hk]
      refine ⟨D, as, tkv (tabRs T), rfl, Evl.sq_of d4, L2.Paired.mapP pr fun a kv h => Evl.st_of h, fun q hq => ?_⟩
      rw [merge_tkv (by rw [tk]; exact en)]
      have y1 : Evl.Ex H4 (upd H4 q (.dK (tkv (tabRs T)))) := Evl.Ex.new hq
      have q1 : (upd H4 q (.dK (tkv (tabRs T)))) q = some (.dK (tkv (tabRs T))) := upd_same
      generalize upd H4 q (.dK (tkv (tabRs T))) = H5 at y1 q1
      have x5 := x4.trans y1
      have qn : q ≠ tb := (ne_of_none (x4 _ _ locked) hq).symm
      refine ⟨x5 _ _ locked, ?_⟩
      have x6 := back x5
      have q6 : (upd H5 tb (.dK (tkv rows))) q = some (.dK (tkv (tabRs T))) := by rw [upd_ne qn]; exact q1
      have ra6 : RowsAt (upd H5 tb (.dK (tkv rows))) ends dots (tabRs T) o n := fun e he => by
        have hm : e ∈ T.map (·.1) := by rw [hk]; exact MS.rk.mem_iff.mpr he
        obtain ⟨t, ht, et⟩ := List.mem_map.mp hm
        subst et
        have pt := (hpa t ht).ex y1
        have lk := x5 _ _ locked
        refine ⟨t.2.1, t.2.2.1, t.2.2.2, tkv_val (by rw [tk]; exact en) (List.mem_map.mpr ⟨t, ht, rfl⟩), ?_, ?_, ?_, pt.o1, pt.o2⟩
        · rw [upd_ne (ne_of pt.hp lk (by intro z; cases z))]; exact pt.hp
        · rw [upd_ne (ne_of pt.ho lk (by intro z; cases z))]; exact pt.ho
        · rw [upd_ne (ne_of pt.hn lk (by intro z; cases z))]; exact pt.hn
      generalize upd H5 tb (.dK (tkv rows)) = HB at x6 q6 ra6
      have M6 := MS.to x6
      refine ⟨.ref q, rfl, .ref m, rfl, m, _, rfl, dgK M6.hm (mkS_starts _ _ _ _), sb, _, rfl, .inl (Evl.sq_of M6.hs), fun s1 hs1 => ?_⟩
      have y2 : Evl.Ex HB (upd HB s1 (.lst (ss.map V.str))) := Evl.Ex.new hs1
      have q2 : (upd HB s1 (.lst (ss.map V.str))) s1 = some (.lst (ss.map V.str)) := upd_same
      generalize upd HB s1 (.lst (ss.map V.str)) = HC at y2 q2
      refine ⟨.ref m, rfl, m, _, rfl, dgK (y2 _ _ M6.hm) (mkS_marks _ _ _ _), pb, _, rfl, .inl (Evl.sq_of (y2 _ _ M6.hp)), fun p1 hp1 => ?_⟩
      have y3 : Evl.Ex HC (upd HC p1 (.lst (ps.map V.str))) := Evl.Ex.new hp1
      have q3 : (upd HC p1 (.lst (ps.map V.str))) p1 = some (.lst (ps.map V.str)) := upd_same
      generalize upd HC p1 (.lst (ps.map V.str)) = HD at y3 q3
      have y23 := y2.trans y3
      have x9 := x6.trans y23
      refine fun x dx hx hdx ne => ?_
      have nb : (upd HD dx (.own x)) x = none := by rw [upd_ne ne.symm]; exact hx
      have xb : Evl.Ex HD (upd HD dx (.own x)) := Evl.Ex.new hdx
      have xa := x9.trans xb
      have ra9 : RowsAt (upd HD dx (.own x)) ends dots (tabRs T) o n := (ra6.ex y23).ex xb
      refine ⟨upd HD dx (.own x), x, dx, q, s1, p1, ends, dots, ss, ps, tabRs T, o, n, rfl, nb, Evl.Ex.new nb, upd_same, (y23.trans xb) _ _ q6, by rw [tk]; exact MS.rk, ra9.okP (by rw [tk]; exact MS.rk) ok.en, ra9, .inl ((y3.trans xb) _ _ q2), .inl (xb _ _ q3), ok, fun H' x' N => ⟨rfl, ?_⟩⟩
      have hx0 : H x = none := ex_none x9 hx
      exact k x H' (xa.trans x') hx0 (N _ (rest_less2 xa) fun z => by rw [xb _ _ q3] at z; cases z)
end
end Rw
end T_MA

section T_NA
set_option Elab.async false
set_option linter.all false
set_option maxRecDepth 100000
set_option maxHeartbeats 4000000
namespace Rw
open PySem L2 PyProof.Rows
def words8 : List Str := ["a", "b", "aa", "home", "lost", "round", "zzzzzz", "goal"]
theorem words8_nm : ∀ z ∈ words8, Nm z := fun z hz => by
  have h : ∀ z ∈ words8, decide (1 ≤ z.cps.toList.length ∧ z.cps.toList.length ≤ 6 ∧ ∀ x ∈ z.cps.toList, 97 ≤ x ∧ x ≤ 122) = true := by decide +kernel
  exact nm_by (h z hz)
/-- while names are made: those made at f -/
structure StN (H H' : Hp) (d g c f : Addr) (zs : List Str) : Prop where
  hf : H' f = some (.lst (zs.map V.str))
  dr : DrawAt H' d g c
  ex : Evl.Ex (off d g H) (off d g H')
  n1 : f ≠ d
  n2 : f ≠ g
theorem StN.call {H H1 H2 : Hp} {d g c f : Addr} {zs : List Str} (h : StN H H1 d g c f zs) (D : DrawAt H2 d g c) (e : Evl.Ex (off d g H1) (off d g H2)) : StN H H2 d g c f zs :=
  ⟨ex_off d g H2 _ _ (e _ _ (off_of h.hf h.n1 h.n2)), D, h.ex.trans e, h.n1, h.n2⟩
theorem StN.new {H H1 : Hp} {d g c f p : Addr} {o : HO} {zs : List Str} (h : StN H H1 d g c f zs) (hp : H1 p = none) : StN H (upd H1 p o) d g c f zs :=
  h.call (h.dr.new hp) (off_ex (Evl.Ex.new hp))
theorem StN.mut {H H1 : Hp} {d g c f p : Addr} {o : HO} {zs : List Str} (h : StN H H1 d g c f zs) (h0 : H p = none) (nf : p ≠ f) (nd : p ≠ d) (ng : p ≠ g) (nc : p ≠ c) : StN H (upd H1 p o) d g c f zs :=
  ⟨by rw [upd_ne nf.symm]; exact h.hf, h.dr.mut nd ng nc, off_mut h.ex (off_free h0), h.n1, h.n2⟩
theorem StN.free {H H1 : Hp} {d g c f p : Addr} {zs : List Str} (h : StN H H1 d g c f zs) (hp : H1 p = none) : H p = none ∧ p ≠ f ∧ p ≠ d ∧ p ≠ g ∧ p ≠ c := by
  obtain ⟨a1, a2, a3⟩ := h.dr.ned hp
  refine ⟨?_, (ne_of_none h.hf hp).symm, a1, a2, a3⟩
  cases e : H p with
  | none => rfl
  | some o =>
    have z := ex_off d g H1 _ _ (h.ex _ _ (off_of e a1 a2))
    rw [hp] at z
    cases z
section
variable {P : Program} {w : World} {K : PySem.W.Frag} {mg : Str → Option Value} {base : Heap}
abbrev nNames : List Str := ["draw", "size", "found", "letters", "k", "word", "near", "spot", "letter", "name"]
theorem sc_names : FnScope nNames ["draw", "size"] (defScope s_names) := ⟨rfl, rfl, rfl, by decide +kernel, rfl, by decide +kernel, by decide +kernel⟩
theorem ok_names {f fT fP : Addr} {fd fdT fdP : FuncData} (F : Fun K "_law_names" "_law_names" s_names f fd)
    (T : FnOk P w K mg base CX0 2 fT fdT ["draw", "size"] spTake) (kT : PySem.W.keepIn K (.ref fT) = true) (bT : Binds K fdT ["draw", "size"] []) (gT : mg "_law_take" = some (.ref fT))
    (PL : FnOk P w K mg base CX0 3 fP fdP ["draw", "some"] (spPickL K)) (PS_ : FnOk P w K mg base CX0 3 fP fdP ["draw", "some"] spPickS) (kP : PySem.W.keepIn K (.ref fP) = true) (bP : Binds K fdP ["draw", "some"] []) (gP : mg "_law_pick" = some (.ref fP))
    (mRange : mg "range" = none) :
    FnOk P w K mg base CX0 4 f fd ["draw", "size"] (spWords K) := by
  refine F.ok sc_names (fun vs H Q E h => ?_) (fun cdv A outer s H vs Q E hr h => ?_)
  · obtain ⟨d, g, c, n, rfl, _⟩ := h
    rfl
  · obtain ⟨d, g, c, n, rfl, D, hn, k⟩ := h
    have nd := sc_names.nd
    have hr2 : Room 2 _ := hr.mono (by decide)
    refine ⟨_, pss_cons (ps_asg (pe_tup (pa_cons (pe_lst pa_nil) (pa_cons pe_str pa_nil))) (pg_tup rfl (pgs_cons (pg_name (i := 2) nd rfl (.inr rfl)) (pgs_cons (pg_name (i := 3) nd rfl (.inr rfl)) pgs_nil))))
      (pss_cons (ps_for PassesOwn.never rfl (pi_range1 (by rfl) mRange (pa_cons (pv 1) pa_nil)) (pg_name (i := 4) nd rfl (.inl rfl))
        (pss_cons (ps_set (i := 5) nd rfl (.inr rfl) (pe_call PL hr rfl gP kP bP .nil pass0 (pa_cons (pv 0) (pa_cons (pe_lst (pa_cons pe_str (pa_cons pe_str (pa_cons pe_str (pa_cons pe_str (pa_cons pe_str (pa_cons pe_str (pa_cons pe_str (pa_cons pe_str pa_nil))))))))) pa_nil))))
        (C8.pss_cut (ps_if (pt_cmpR op_eq (pe_call T hr2 rfl gT kT bT .nil pass0 (pa_cons (pv 0) (pa_cons pe_int pa_nil))) pe_int (nomark _))
          (pss_one (ps_set (i := 5) nd rfl (.inr rfl) (pe_join pe_str
            (pe_lc (own := [("spot", 7)]) (g := gName 7) (tt := tYes) rfl nd (pi_range1 (by rfl) mRange (pa_cons (pe_op op_add pe_int (pe_call T hr2 rfl gT kT bT .nil pass0 (pa_cons (pv 0) (pa_cons pe_int pa_nil)))) pa_nil)) (blkOk_by (own := [("spot", 7)]) (N := nNames) (sc := defScope s_names) (by decide +kernel))
              (fun _ _ _ _ _ => pg_name (i := 7) nd rfl (Or.inl rfl)) (fun _ _ _ _ _ => pts_nil) (fun _ _ _ _ _ => pe_call PS_ hr rfl gP kP bP .nil pass0 (pa_cons (pv 0) (pa_cons (pv 3) pa_nil))))))) pss_nil)
        (pss_cons (ps_set (i := 6) nd rfl (.inl rfl) (pe_op op_cat (pe_lst (pa_cons (pv 5) pa_nil))
            (pe_lc (own := [("letter", 8)]) (g := gName 8) (tt := tYes) rfl nd (pi_str (pv 3)) (blkOk_by (own := [("letter", 8)]) (N := nNames) (sc := defScope s_names) (by decide +kernel))
              (fun _ _ _ _ _ => pg_name (i := 8) nd rfl (Or.inl rfl)) (fun _ _ _ _ _ => pts_nil) (fun _ _ _ _ _ => pe_op op_add_str (pe_slice sl_str (pv 5) po_none (po_some pe_int)) (pv 8)))))
        (pss_one (ps_expr (pe_bm PySem.F.plainAttrs_list PySem.F.slot_list_append PySem.F.type_list_append mt_append (pv 2)
          (pa_cons (pe_ix ix_list (pe_lc (own := [("name", 9)]) (g := gName 9) (tt := tTest (tOp (rIn K true) (tVar 9) (tVar 2))) rfl nd (pi_list (pv 6)) (blkOk_by (own := [("name", 9)]) (N := nNames) (sc := defScope s_names) (by decide +kernel))
              (fun _ _ _ _ _ => pg_name (i := 9) nd rfl (Or.inl rfl)) (fun _ _ _ _ _ => pts_one (pt_cmpR op_notIn_seq (pv 9) (pv 2) rfl)) (fun _ _ _ _ _ => pv 9)) pe_int (fun _ _ => rfl)) pa_nil))))))))
      (pss_one (ps_ret (pv 2)))), ?_⟩
    have hz26 : (Str.ofString "abcdefghijklmnopqrstuvwxyz") = z26 := rfl
    refine ⟨Nat.zero_le _, fun f hf => ⟨by show 2 ≤ sizeLine; decide, fun t ht => ⟨t, _, rfl, Evl.st_of upd_same, rfl, _, _, rfl, _, [], rfl, rfl, ?_⟩⟩⟩
    have nf := D.ned hf
    have D1 : DrawAt (upd (upd H f (.lst [])) t (.tup [.ref f, .str z26])) d g c := (D.new hf).new ht
    have S0 : StN H (upd (upd H f (.lst [])) t (.tup [.ref f, .str z26])) d g c f [] :=
      ⟨Evl.Ex.new ht _ _ upd_same, D1, (off_ex (Evl.Ex.new hf)).trans (off_ex (Evl.Ex.new ht)), nf.1, nf.2.1⟩
    -- for k in range(size)
    refine ⟨.int (n : Int), rfl, (n : Int), rfl, by omega, by omega, for_range (lo := 0) (n := (n : Int).toNat)
      (fun i σ H' => ∃ (x4 x5 x6 : Option V) (zs : List Str), σ = [some (.ref d), some (.int (n : Int)), some (.ref f), some (.str z26), x4, x5, x6, none, none, none] ∧ zs.length = i ∧ zs.Nodup ∧ (∀ z ∈ zs, Nm z) ∧ StN H H' d g c f zs)
      ⟨none, none, none, [], rfl, rfl, List.nodup_nil, (fun z hz => by cases hz), S0⟩ ?_ ?_⟩
    · rintro i σ H1 hi ⟨x4, x5, x6, zs, rfl, hlen, hnd, hnm, S1⟩
      rw [Int.toNat_natCast] at hi
      -- word = _law_pick(draw, [..])
      refine ⟨.ref d, rfl, by show 8 ≤ sizeLine; decide, fun sm hsm => ?_⟩
      have S1' := S1.new (o := .lst (words8.map V.str)) hsm
      have nsm := S1.dr.ned hsm
      have hs8 : off d g (upd H1 sm (.lst (words8.map V.str))) sm = some (.lst (words8.map V.str)) := off_of upd_same nsm.1 nsm.2.1
      refine ⟨d, g, c, sm, words8.map V.str, rfl, S1'.dr, Evl.sq_of hs8, by decide, by decide, fun i1 v H2 hv D2 e2 => ?_⟩
      have S2 := S1'.call D2 e2
      obtain ⟨w0, rfl, hw0⟩ : ∃ w0 : Str, v = V.str w0 ∧ Nm w0 := by
        obtain ⟨z, hz, e⟩ := List.mem_map.mp (List.mem_of_getElem? hv)
        exact ⟨z, e.symm, words8_nm z hz⟩
      -- if _law_take(draw, 2) == 0
      refine ⟨fun σ' H' => ∃ (w1 : Str), Nm w1 ∧ σ' = [some (.ref d), some (.int (n : Int)), some (.ref f), some (.str z26), some (.int (0 + (i : Int))), some (.str w1), x6, none, none, none] ∧ StN H H' d g c f zs, ?_, ?_⟩
      · refine ⟨.ref d, rfl, d, g, c, 2, rfl, by decide, by decide, D2, fun q H3 q0 q1 D3 e3 => ?_⟩
        have S3 := S2.call D3 e3
        refine ⟨rfl, _, rfl, ite2 (fun _ => ?_) (fun _ => ⟨w0, hw0, rfl, S3⟩)⟩
        -- word = ''.join([..])
        refine ⟨⟨_, rfl⟩, .ref d, rfl, d, g, c, 3, rfl, by decide, by decide, D3, fun r H6 r0 r1 D6 e6 => ?_⟩
        have S6 := S3.call D6 e6
        refine ⟨1, r, rfl, rfl, 1 + r, rfl, by omega, by omega, fun D hD => lc_range (lo := 0) (n := (1 + r).toNat)
          (fun j H' => ∃ cs : List Nat, cs.length = j ∧ (∀ x ∈ cs, 97 ≤ x ∧ x ≤ 122) ∧ H' D = some (.lst (cs.map fun x => V.str (SX.S [x]))) ∧ StN H H' d g c f zs) ⟨[], rfl, (fun x hx => by cases hx), upd_same, S6.new hD⟩ ?_ ?_⟩
        · rintro j H7 hj ⟨cs, hcl, hcs, hD7, S7⟩
          refine ⟨rfl, ?_⟩
          refine yes_if ?_
          refine ⟨.ref d, rfl, .str z26, rfl, d, g, c, z26, rfl, S7.dr, by decide +kernel, by decide +kernel, fun i3 ch H8 hch D8 e8 => ?_⟩
          have S8 := S7.call D8 e8
          have fD := S6.free hD
          have hD8 : H8 D = some (.lst (cs.map fun x => V.str (SX.S [x]))) := ex_off d g H8 _ _ (e8 _ _ (off_of hD7 fD.2.2.1 fD.2.2.2.1))
          refine ⟨_, hD8, by rw [List.length_map]; exact small1000 (by omega), cs ++ [ch], by simp [hcl], fun x hx => ?_, ?_, S8.mut fD.1 fD.2.1 fD.2.2.1 fD.2.2.2.1 fD.2.2.2.2⟩
          · rcases List.mem_append.mp hx with hx | hx
            · exact hcs x hx
            · rw [List.mem_singleton.mp hx]
              have z := List.mem_of_getElem? hch
              rw [z26_eq] at z
              obtain ⟨y, hy, rfl⟩ := List.mem_map.mp z
              have := List.mem_range.mp hy
              omega
          · rw [upd_same, List.map_append]
            rfl
        · rintro H7 ⟨cs, hcl, hcs, hD7, S7⟩
          have el : (cs.map fun x => V.str (SX.S [x])) = (cs.map fun x => SX.S [x]).map V.str := by rw [List.map_map]; rfl
          rw [el] at hD7
          have hsum : ((cs.map fun x => SX.S [x]).map (·.length)).sum = cs.length := by
            clear hD7 el hcs hcl S7
            induction cs with
            | nil => rfl
            | cons x r ih =>
              show (SX.S [x]).length + ((r.map fun x => SX.S [x]).map (·.length)).sum = r.length + 1
              rw [ih, SX.S_len]
              show 1 + r.length = r.length + 1
              omega
          refine ⟨_, D, cs.map fun x => SX.S [x], rfl, rfl, .inl (Evl.sq_of hD7), ?_, ?_⟩
          · rw [hsum, List.length_map]
            show cs.length + cs.length * 0 ≤ 16777216
            omega
          · rw [show Txt.join (Str.ofString "") (cs.map fun x => SX.S [x]) = SX.S cs from join_signs cs]
            exact ⟨SX.S cs, ⟨cs, rfl, by omega, by omega, hcs⟩, rfl, S7⟩
      · rintro σ' H3 ⟨w1, ⟨lw, rfl, hw1, hw2, hw3⟩, rfl, S3⟩
        have lenw : (SX.S lw).length ≤ 6 := by rw [SX.S_len]; exact hw2
        -- near = [word] + [..]
        refine ⟨.str (SX.S lw), rfl, by show 1 ≤ sizeLine; decide, fun q hq => ?_⟩
        have S4 := S3.new (o := .lst [.str (SX.S lw)]) hq
        have hq4 : (upd H3 q (.lst [.str (SX.S lw)])) q = some (.lst [.str (SX.S lw)]) := upd_same
        generalize upd H3 q (.lst [.str (SX.S lw)]) = H4 at S4 hq4
        refine ⟨.str z26, rfl, z26, rfl, fun D hD => lc_it walk_str (fun j H' => H' = upd H4 D (.lst ((((List.range 26).take j).map fun k => SX.S (lw.take 5 ++ [97 + k])).map V.str))) rfl (fun _ _ _ _ => trivial) ?_ ?_⟩
        · rintro j x H5 H5' hj rfl ⟨rfl, ch, hch, rfl⟩
          refine ⟨rfl, ?_⟩
          refine yes_if ?_
          have hj' : j < 26 := hj
          have ech : ch = 97 + j := by
            have z : z26.cps.toList[j]? = some ch := by rw [Array.getElem?_toList]; exact hch
            rw [z26_eq, List.getElem?_map, List.getElem?_range hj'] at z
            exact (Option.some.inj z).symm
          subst ech
          refine ⟨.str (SX.S lw), rfl, 5, rfl, SX.S lw, rfl, Nat.le_of_lt (small1000 (by omega)), .str (SX.S [97 + j]), rfl, cutS (SX.S lw) none (some 5), SX.S [97 + j], rfl, rfl, ?_, ?_⟩
          · rw [cut5, SX.S_len, SX.S_len, List.length_take]
            show min 5 lw.length + 1 ≤ sizeLine
            exact Nat.le_of_lt (small1000 (by omega))
          · rw [cut5, SX.S_cat]
            refine ⟨_, upd_same, ?_, ?_⟩
            · rw [List.length_map, List.length_map, List.length_take, List.length_range]
              exact small1000 (by omega)
            · show upd (upd H4 D _) D _ = _
              rw [upd_upd, List.take_add_one (i := j) (l := List.range 26), List.getElem?_range hj', List.map_append, List.map_append]
              rfl
        · rintro H5 rfl
          have hDq : q ≠ D := ne_of_none hq4 hD
          have S5 := S4.new (o := .lst ((((List.range 26).take z26.cps.size).map fun k => SX.S (lw.take 5 ++ [97 + k])).map V.str)) hD
          refine ⟨q, D, _, _, rfl, rfl, by rw [upd_ne hDq]; exact hq4, upd_same, ?_, fun p hp => ?_⟩
          · rw [List.length_map, List.length_map, List.length_take, List.length_range]
            show 1 + min z26.cps.size 26 ≤ sizeLine
            exact Nat.le_of_lt (small1000 (by omega))
          · have en : ([V.str (SX.S lw)] ++ (((List.range 26).take z26.cps.size).map fun k => SX.S (lw.take 5 ++ [97 + k])).map V.str) = (near lw).map V.str := by
              rw [show z26.cps.size = 26 by decide +kernel, show (List.range 26).take 26 = List.range 26 by decide]
              rfl
            rw [en]
            have S6 := S5.new (o := .lst ((near lw).map V.str)) hp
            have hp6 : (upd (upd H4 D (.lst ((((List.range 26).take z26.cps.size).map fun k => SX.S (lw.take 5 ++ [97 + k])).map V.str))) p (.lst ((near lw).map V.str))) p = some (.lst ((near lw).map V.str)) := upd_same
            generalize upd (upd H4 D (.lst ((((List.range 26).take z26.cps.size).map fun k => SX.S (lw.take 5 ++ [97 + k])).map V.str))) p (.lst ((near lw).map V.str)) = H6 at S6 hp6
            -- found.append([..][0])
            refine ⟨.ref f, rfl, .inl ⟨rfl, _, Evl.sq_of S6.hf⟩, .ref p, rfl, p, rfl, ⟨_, Evl.sq_of hp6⟩, fun D2 hD2 => lc_list (K := K) (a := p) (xs := (near lw).map V.str)
              (fun j H' => H' = upd H6 D2 (.lst ((((near lw).take j).filter fun z => decide (z ∉ zs)).map V.str))) rfl (fun j H' _ h => by rw [h]; exact Evl.ex_l (Evl.Ex.new hD2) (Evl.sq_of hp6)) ?_ ?_⟩
            · rintro j x H7 hj rfl
              obtain ⟨z, hz, rfl⟩ : ∃ z, (near lw)[j]? = some z ∧ x = V.str z := by
                rw [List.getElem?_map] at hj
                cases e : (near lw)[j]? with
                | none => rw [e] at hj; cases hj
                | some z => rw [e] at hj; exact ⟨z, rfl, (Option.some.inj hj).symm⟩
              have hjl : j < (near lw).length := (List.getElem?_eq_some_iff.mp hz).1
              have hnl : (near lw).length = 27 := by simp [near]
              refine ⟨rfl, _, rfl, .ref f, rfl, f, _, rfl, .inl (Evl.ex_l (Evl.Ex.new hD2) (Evl.sq_of S6.hf)), rfl, flat_strs zs, _, rfl, ?_⟩
              rw [inV_str]
              have etake : (near lw).take (j + 1) = (near lw).take j ++ [z] := by rw [List.take_add_one, hz]; rfl
              by_cases hin : z ∈ zs
              · rw [decide_eq_true hin]
                show upd H6 D2 _ = _
                rw [etake, List.filter_append, List.filter_cons_of_neg (by simp [hin]), List.filter_nil, List.append_nil]
              · rw [decide_eq_false hin]
                refine ⟨_, rfl, _, upd_same, ?_, ?_⟩
                · rw [List.length_map]
                  refine small1000 (Nat.le_trans (List.length_filter_le _ _) ?_)
                  rw [List.length_take]
                  omega
                · show upd (upd H6 D2 _) D2 _ = _
                  rw [upd_upd, etake, List.filter_append, List.filter_cons_of_pos (by simp [hin]), List.filter_nil, List.map_append]
                  rfl
            · rintro H7 rfl
              rw [List.length_map, List.take_length]
              obtain ⟨z, rest, ez⟩ := near_some lw zs (by omega)
              rw [ez]
              have hzm : z ∈ (near lw).filter fun z => decide (z ∉ zs) := by rw [ez]; exact List.mem_cons_self
              have hz1 := List.mem_filter.mp hzm
              have S7 := S6.new (o := .lst ((z :: rest).map V.str)) hD2
              refine ⟨D2, _, 0, .str z, rfl, rfl, Evl.sq_of upd_same, atI_nat (j := 0) rfl, f, _, .str z, rfl, rfl, S7.hf, ?_, ?_⟩
              · rw [List.length_map]
                exact small1000 (by omega)
              · have nf2 := nf
                refine ⟨_, _, _, zs ++ [z], rfl, by simp [hlen], ?_, fun y hy => ?_, ?_⟩
                · exact List.nodup_append.mpr ⟨hnd, (by simp), fun a ha b hb e => of_decide_eq_true hz1.2 (List.mem_singleton.mp hb ▸ e ▸ ha)⟩
                · rcases List.mem_append.mp hy with hy | hy
                  · exact hnm y hy
                  · rw [List.mem_singleton.mp hy]
                    exact near_nm hw1 hw2 hw3 z hz1.1
                · refine ⟨by rw [upd_same, List.map_append]; rfl, S7.dr.mut nf2.1 nf2.2.1 nf2.2.2, off_mut S7.ex (off_free hf), S7.n1, S7.n2⟩
    · rintro σ H1 ⟨x4, x5, x6, zs, rfl, hlen, hnd, hnm, S1⟩
      rw [Int.toNat_natCast] at hlen
      exact ⟨.ref f, rfl, k f zs H1 hlen hnd hnm S1.dr S1.ex hf (off_of S1.hf S1.n1 S1.n2)⟩
end
end Rw
end T_NA

section T_BB
set_option Elab.async false
set_option linter.all false
set_option maxRecDepth 100000
set_option maxHeartbeats 8000000
namespace Rw
open PySem L2 PyProof.Rows
/-! ### the model of the second stage's laws -/
theorem cut_take (xs : List V) (n : Nat) : cutV xs none (some (n : Int)) = xs.take n := by
  unfold cutV
  rw [show HT.sIx xs.length 0 none = 0 from rfl, HT.sIx_nat, List.drop_zero, Nat.sub_zero]
  by_cases h : n ≤ xs.length
  · rw [Nat.min_eq_left h]
  · rw [Nat.min_eq_right (by omega), List.take_length, List.take_of_length_le (by omega)]
theorem cut_drop (xs : List V) (n : Nat) : cutV xs (some (n : Int)) none = xs.drop n := by
  unfold cutV
  rw [HT.sIx_nat, HT.sIx_none]
  by_cases h : n ≤ xs.length
  · rw [Nat.min_eq_left h]
    exact List.take_of_length_le (by rw [List.length_drop]; exact Nat.le_refl _)
  · rw [Nat.min_eq_right (by omega), Nat.sub_self, List.take_zero, List.drop_of_length_le (by omega)]
theorem sorted_sub {l m : List Str} (h : l.Sublist m) (s : sortedS m = true) : sortedS l = true := by
  have h1 := (sorted_pair s).sublist h
  refine sortedS_of_pairwise _ (h1.imp fun {a b} hab => ?_)
  rw [ltCps_eq]
  exact decide_eq_false (List.not_lt.mpr hab)
end Rw
end T_BB

section T_BC
set_option Elab.async false
set_option linter.all false
set_option maxRecDepth 100000
set_option maxHeartbeats 8000000
namespace Rw
open PySem L2 PyProof.Rows
/-- a model, the dict of its tables perhaps walked -/
structure ModelR (H : Hp) (m nb tb sb pb : Addr) (ends dots ss ps : List Str) (rows : List (Str × V)) (o n : Str → List (Str × V)) : Prop where
  hm : H m = some (.dK (mkS nb tb sb pb))
  hn : H nb = some (.lst (dots.map V.str))
  ht : Rd H tb (.dK (tkv rows))
  hs : H sb = some (.lst (ss.map V.str))
  hp : H pb = some (.lst (ps.map V.str))
  ra : RowsAt H ends dots rows o n
  ok : ModelOk ends dots ss ps
theorem rdx {H H' : Hp} {a : Addr} {o : HO} (h : Rd H a o) (x : Evl.Ex H H') : Rd H' a o := by
  rcases h with h | ⟨d, h⟩
  · exact .inl (x _ _ h)
  · exact .inr ⟨d, x _ _ h⟩
theorem ModelR.to {H H' : Hp} {m nb tb sb pb : Addr} {ends dots ss ps : List Str} {rows : List (Str × V)} {o n : Str → List (Str × V)} (h : ModelR H m nb tb sb pb ends dots ss ps rows o n) (x : Evl.Ex H H') : ModelR H' m nb tb sb pb ends dots ss ps rows o n :=
  ⟨x _ _ h.hm, x _ _ h.hn, rdx h.ht x, x _ _ h.hs, x _ _ h.hp, h.ra.ex x, h.ok⟩
theorem ModelS.r {H : Hp} {m nb tb sb pb : Addr} {ends dots ss ps : List Str} {rows : List (Str × V)} {o n : Str → List (Str × V)} (h : ModelS H m nb tb sb pb ends dots ss ps rows o n) : ModelR H m nb tb sb pb ends dots ss ps rows o n :=
  ⟨h.hm, h.hn, .inl h.ht, h.hs, h.hp, h.ra, h.ok⟩
theorem dgR {H : Hp} {a : Addr} {kvs : List (Key × V)} {k : Key} {v : V} (h : Rd H a (.dK kvs)) (e : valV kvs k = some v) : DGet H a (kV k) (some v) := .inl ⟨kvs, k, h, rfl, e.symm⟩
/-! ### the nodes that change, as the law tells them -/
section
variable {P : Program} {w : World} {K : PySem.W.Frag} {mg : Str → Option Value} {base : Heap}
def spMovedS : Sp := fun vs H Q _ => ∃ (m nb tb sb pb : Addr) (ends dots ss ps : List Str) (rows : List (Str × V)) (o n : Str → List (Str × V)), vs = [.ref m] ∧ ModelR H m nb tb sb pb ends dots ss ps rows o n ∧ (rows.map (·.1)).Perm ends ∧
  ∀ p H', Evl.Ex H H' → H p = none → H' p = some (.lst ((moving ends dots o n).map V.str)) → Q (.ref p) H'
abbrev nMovedS : List Str := ["model", "pairs", "target", "node", "first", "later"]
abbrev scMovedO : Scope := { kind := .function, names := [(".0", .local), ("node", .cell), ("pairs", .cell)], isGenerator := false, isCoroutine := false }
theorem sc_movedS : FnScope nMovedS ["model"] (defScope s_moved) := ⟨rfl, rfl, rfl, by decide +kernel, rfl, by decide +kernel, by decide +kernel⟩
theorem ok_movedS {f : Addr} {fd : FuncData} (F : Fun K "_law_moved" "_law_moved" s_moved f fd) (mSorted : mg "sorted" = none) : FnOk P w K mg base CX0 1 f fd ["model"] spMovedS := by
  refine F.ok sc_movedS (fun vs H Q E h => ?_) (fun cdv A outer s H vs Q E hr h => ?_)
  · obtain ⟨m, nb, tb, sb, pb, ends, dots, ss, ps, rows, o, n, rfl, _⟩ := h
    rfl
  · obtain ⟨m, nb, tb, sb, pb, ends, dots, ss, ps, rows, o, n, rfl, MS, mrk, k⟩ := h
    have nd := sc_movedS.nd
    have hu := hu_of hr
    refine ⟨_, pss_cons (ps_set (i := 1) nd rfl (.inr rfl) (pe_lc (own := [("target", 2)]) (g := gName 2) (tt := tYes) (te := tDGet (tDGet (tVar 0) (tC (.str "tables"))) (tVar 2)) rfl nd (pi_list (pe_callB (call_sortedD rfl) (by rfl) mSorted (by decide +kernel) (pa_cons (pe_dget hu (pv 0) pe_str (fun _ _ => rfl)) pa_nil))) (blkOk_by (own := [("target", 2)]) (N := nMovedS) (sc := defScope s_moved) (by decide +kernel))
          (fun _ _ _ _ _ => pg_name (i := 2) nd rfl (Or.inl rfl)) (fun _ _ _ _ _ => pts_nil) (fun _ _ _ _ _ => pe_dget hu (pe_dget hu (pv 0) pe_str (fun _ _ => rfl)) (pv 2) (fun _ _ => rfl))))
      (pss_one (ps_ret (pe_lc (own := [("node", 3)]) (g := gName 3) (tt := tTest (tOp (rNeD K) (tLc (iList K (tVar 1)) (gTup K 2 (gCons (gName 4) (gCons (gName 5) gNil))) (tTest (tOp rNe (tDGet (tVar 4) (tVar 3)) (tDGet (tVar 5) (tVar 3)))) (tC (.int 1)) [4, 5]) (tLst tNil))) (te := tVar 3) rfl nd (pi_list (pe_dget hu (pv 0) pe_str (fun _ _ => rfl))) (blkOk_by (own := [("node", 3)]) (N := nMovedS) (sc := defScope s_moved) (by decide +kernel))
          (fun _ _ _ _ _ => pg_name (i := 3) nd rfl (Or.inr rfl))
          (fun _ _ _ _ _ => pts_one (pt_cmpR (op_neD hr.units) (pe_lc (own := [("first", 4), ("later", 5)]) (g := gTup K 2 (gCons (gName 4) (gCons (gName 5) gNil))) (tt := tTest (tOp rNe (tDGet (tVar 4) (tVar 3)) (tDGet (tVar 5) (tVar 3)))) (te := tC (.int 1)) rfl nd (pi_list (pv 1)) (by
              have q : ∀ {sc : Scope}, blkC nMovedS scMovedO sc [("first", 4), ("later", 5)] = true → BlkOk nMovedS scMovedO sc [("first", 4), ("later", 5)] := fun h => blkOk_by h
              refine q ?_
              decide +kernel)
              (fun _ _ _ _ _ => pg_tup rfl (pgs_cons (pg_name (i := 4) nd rfl (Or.inl rfl)) (pgs_cons (pg_name (i := 5) nd rfl (Or.inl rfl)) pgs_nil))) (fun _ _ _ _ _ => pts_one (pt_cmpR op_ne (pe_dget hu (pv 4) (pv 3) (fun _ _ => rfl)) (pe_dget hu (pv 5) (pv 3) (fun _ _ => rfl)) (nomark _))) (fun _ _ _ _ _ => pe_int)) (pe_lst pa_nil) (nomark _)))
          (fun _ _ _ _ _ => pv 3)))), ?_⟩
    have ok := MS.ok
    have e2 := ok.e2
    have d6 := ok.d6
    have rl : rows.length = ends.length := by
      have := mrk.length_eq
      rwa [List.length_map] at this
    have en : (rows.map (·.1)).Nodup := mrk.nodup_iff.mpr ok.en
    -- the pairs
    obtain ⟨pr, hpr⟩ : ∃ pr : Str → V, ∀ e ∈ ends, valV (tkv rows) (Sum.inr e) = some (pr e) ∧ ∃ p po pn : Addr, pr e = .ref p ∧ PairAt H dots e p po pn (o e) (n e) :=
      ⟨fun e => (valV (tkv rows) (Sum.inr e)).getD .non, fun e he => by
        obtain ⟨p, po, pn, hv, pa⟩ := MS.ra e he
        have ev : (valV (tkv rows) (Sum.inr e)).getD .non = .ref p := by rw [hv]; rfl
        exact ⟨hv.trans (congrArg some ev.symm), p, po, pn, ev, pa⟩⟩
    refine ⟨.ref m, rfl, m, _, rfl, dgK MS.hm (mkS_tables _ _ _ _), tb, _, rows.map (·.1), rfl, MS.ht, tkv_keys rows, by rw [List.length_map]; omega, fun es sl hes hsort hsl => ?_⟩
    have ees : es = ends := sorted_uniq hsort ok.es (hes.trans mrk)
    subst ees
    have x1 : Evl.Ex H (upd H sl (.lst (es.map V.str))) := Evl.Ex.new hsl
    have s1 : (upd H sl (.lst (es.map V.str))) sl = some (.lst (es.map V.str)) := upd_same
    generalize upd H sl (.lst (es.map V.str)) = H1 at x1 s1
    refine ⟨sl, rfl, ⟨_, Evl.sq_of s1⟩, fun D hD => lc_list (K := K) (a := sl) (xs := es.map V.str)
      (fun i H' => Evl.Ex H1 H' ∧ H' D = some (.lst ((es.take i).map pr))) ⟨Evl.Ex.new hD, upd_same⟩ (fun i H' _ h => Evl.sq_of (h.1 _ _ s1)) ?_ ?_⟩
    · rintro i y H2 hi ⟨x2, d2⟩
      obtain ⟨e, he, rfl⟩ := str_at hi
      have hil := (List.getElem?_eq_some_iff.mp he).1
      obtain ⟨hv, p, po, pn, ep, pa⟩ := hpr e (List.mem_of_getElem? he)
      refine ⟨rfl, yes_if ?_⟩
      refine ⟨.ref m, rfl, m, _, rfl, dgK (x2 _ _ (x1 _ _ MS.hm)) (mkS_tables _ _ _ _), .str e, rfl, tb, _, rfl, dgR (k := Sum.inr e) (rdx MS.ht (x1.trans x2)) hv, _, d2, by rw [List.length_map, List.length_take]; exact small1000 (by omega), x2.mut hD, ?_⟩
      rw [upd_same, List.take_add_one, he, List.map_append]
      rfl
    rintro H2 ⟨x2, d2⟩
    rw [List.length_map, List.take_length] at d2
    have x02 := x1.trans x2
    -- the nodes
    refine ⟨.ref m, rfl, m, _, rfl, dgK (x02 _ _ MS.hm) (mkS_nodes _ _ _ _), nb, rfl, ⟨_, Evl.sq_of (x02 _ _ MS.hn)⟩, fun L hL => lc_list (K := K) (a := nb) (xs := dots.map V.str)
      (fun i H' => Evl.Ex H2 H' ∧ H' L = some (.lst ((moving es (dots.take i) o n).map V.str))) ⟨Evl.Ex.new hL, upd_same⟩ (fun i H' _ h => Evl.sq_of (h.1 _ _ (x02 _ _ MS.hn))) ?_ ?_⟩
    · rintro i y H3 hi ⟨x3, l3⟩
      obtain ⟨z, hz, rfl⟩ := str_at hi
      have zd := List.mem_of_getElem? hz
      have et : moving es (dots.take (i + 1)) o n = moving es (dots.take i) o n ++ if (diffB es o n z).any id then [z] else [] := by
        unfold moving
        rw [List.take_add_one, hz, List.filter_append]
        show _ ++ List.filter _ [z] = _
        rw [List.filter_cons]
        rfl
      have dl : (moving es (dots.take i) o n).length ≤ 100 := Nat.le_trans (List.length_filter_le _ _) (by rw [List.length_take]; omega)
      have x03 := x02.trans x3
      refine ⟨rfl, .ref D, rfl, D, rfl, ⟨_, Evl.sq_of (x3 _ _ d2)⟩, fun B hB => lc_list (K := K) (a := D) (xs := es.map pr)
        (fun j H' => Evl.Ex H3 H' ∧ ∃ ns : List Int, H' B = some (.lst (ns.map V.int)) ∧ ns.length ≤ j ∧ ns.isEmpty = !(diffB (es.take j) o n z).any id) ⟨Evl.Ex.new hB, [], upd_same, Nat.le_refl _, rfl⟩ (fun j H' _ h => Evl.sq_of (h.1 _ _ (x3 _ _ d2))) ?_ ?_⟩
      · rintro j y H4 hj ⟨x4, ns, b4, nl, ne4⟩
        rw [List.getElem?_map] at hj
        cases q : es[j]? with
        | none => rw [q] at hj; cases hj
        | some e =>
          rw [q] at hj
          cases hj
          have hjl := (List.getElem?_eq_some_iff.mp q).1
          obtain ⟨hv, p, po, pn, ep, pa⟩ := hpr e (List.mem_of_getElem? q)
          have pa4 := pa.ex (x03.trans x4)
          have c1 := look_ok pa4.o1 zd
          have c2 := look_ok pa4.o2 zd
          have et2 : diffB (es.take (j + 1)) o n z = diffB (es.take j) o n z ++ [!decide (look (o e) z = look (n e) z)] := by
            rw [List.take_add_one, q]
            exact diffB_snoc _ _ _ _ _
          rw [ep]
          refine ⟨p, _, rfl, Evl.st_of pa4.hp, rfl, _, _, rfl, _, [], rfl, rfl, rfl, ?_⟩
          refine ⟨.ref po, rfl, .str z, rfl, po, _, rfl, dgK (k := Sum.inr z) pa4.ho c1.2, .ref pn, rfl, .str z, rfl, pn, _, rfl, dgK (k := Sum.inr z) pa4.hn c2.2, scal_place c1.1 c2.1, _, rfl, ?_⟩
          by_cases q : look (o e) z = look (n e) z
          · rw [decide_eq_true q] at et2 ⊢
            refine iteF ⟨x4, ns, b4, by omega, ?_⟩
            rw [et2, ne4, List.any_append]
            simp
          · rw [decide_eq_false q] at et2 ⊢
            refine iteT ⟨_, b4, by rw [List.length_map]; exact small1000 (by omega), x4.mut hB, ns ++ [1], ?_, by simp; omega, ?_⟩
            · rw [upd_same, List.map_append]
              rfl
            · rw [et2, List.any_append]
              simp
      · rintro H4 ⟨x4, ns, b4, nl, ne4⟩
        rw [List.length_map, List.take_length] at ne4
        rw [List.length_map] at nl
        refine ⟨Nat.zero_le _, fun p hp => ?_⟩
        have x5 : Evl.Ex H4 (upd H4 p (.lst [])) := Evl.Ex.new hp
        obtain ⟨dd, g1, g2, g3⟩ := data_list (K := K) (Evl.sq_of (x5 _ _ b4)) fun v hv => by
          obtain ⟨i, _, rfl⟩ := List.mem_map.mp hv
          exact ⟨.int i, .int i, rfl, Nat.zero_le _⟩
        refine ⟨dd, .list [], g1, .lst (Evl.sq_of upd_same) .nil, g2, by rfl, _, rfl, ?_⟩
        rw [g3, show (ns.map V.int).isEmpty = ns.isEmpty by cases ns <;> rfl, ne4, Bool.not_not]
        have x45 := x4.trans x5
        have l5 := x45 _ _ l3
        generalize upd H4 p (.lst []) = H5 at x45 l5
        by_cases q : (diffB es o n z).any id = true
        · rw [q] at et ⊢
          refine iteT ?_
          refine ⟨.str z, rfl, _, l5, by rw [List.length_map]; exact small1000 (by omega), (x3.trans x45).mut hL, ?_⟩
          rw [upd_same, et, List.map_append]
          rfl
        · have q' : (diffB es o n z).any id = false := by cases h : (diffB es o n z).any id with | true => exact absurd h q | false => rfl
          rw [q'] at et ⊢
          refine iteF ⟨x3.trans x45, ?_⟩
          rw [l5, et]
          simp
    · rintro H3 ⟨x3, l3⟩
      rw [List.length_map, List.take_length] at l3
      exact k L H3 (x02.trans x3) (ex_none x02 hL) l3
end
end Rw
end T_BC

section T_JO
set_option Elab.async false
set_option linter.all false
set_option maxRecDepth 100000
set_option maxHeartbeats 4000000
namespace Rw
open PySem L2 PyProof.Rows
section
variable {P : Program} {w : World} {K : PySem.W.Frag} {mg : Str → Option Value} {base : Heap}
/-! ### joined -/
def spJoined : Sp := fun vs H Q _ => ∃ (a b : Addr) (zs ys : List Str), vs = [.ref a, .ref b] ∧ SqT K H a (zs.map V.str) ∧ SqT K H b (ys.map V.str) ∧ zs.length + ys.length ≤ 60 ∧
  ∀ (p : Addr) (H' : Hp) (js : List Str), Evl.Ex H H' → H p = none → H' p = some (.tup (js.map V.str)) → js.Perm (zs ++ ys) → sortedS js = true → Q (.ref p) H'
abbrev nJoined : List Str := ["lot", "other"]
theorem sc_joined : FnScope nJoined ["lot", "other"] (defScope p_joined) := ⟨rfl, rfl, rfl, by decide +kernel, rfl, by decide +kernel, by decide +kernel⟩
theorem ok_joined {f : Addr} {fd : FuncData} (F : Fun K "joined" "joined" p_joined f fd) (mTup : mg "tuple" = none) (mSorted : mg "sorted" = none) : FnOk P w K mg base CX0 1 f fd ["lot", "other"] (spJoined (K := K)) := by
  refine F.ok sc_joined (fun vs H Q E h => ?_) (fun cdv A outer s H vs Q E hr h => ?_)
  · obtain ⟨a, b, zs, ys, rfl, _⟩ := h
    rfl
  · obtain ⟨a, b, zs, ys, rfl, ha, hb, few, k⟩ := h
    have nd := sc_joined.nd
    refine ⟨_, pss_one (ps_ret (pe_callTy call_tuple_of (by rfl) mTup (by decide +kernel) (pa_cons (pe_callB cr_sortedS (by rfl) mSorted (by decide +kernel) (pa_cons (pe_lst (StX.pa_star (pv 0) (StX.pa_star (pv 1) pa_nil))) pa_nil)) pa_nil))), ?_⟩
    refine ⟨.ref a, rfl, a, _, rfl, .inl ha, .ref b, rfl, b, _, rfl, .inl hb, ?_⟩
    have e0 : zs.map V.str ++ (ys.map V.str ++ []) = (zs ++ ys).map V.str := by rw [List.append_nil, List.map_append]
    refine ⟨by show (zs.map V.str ++ (ys.map V.str ++ [])).length ≤ sizeLine; rw [e0, List.length_map, List.length_append]; exact Nat.le_of_lt (small1000 (by omega)), fun l hl => ?_⟩
    refine ⟨l, zs ++ ys, rfl, Evl.sq_of (by rw [← e0]; exact upd_same), by rw [List.length_append]; omega, fun js r hp hs hr' => ?_⟩
    refine ⟨r, _, rfl, .inl ⟨Evl.sq_of upd_same, fun t ht => ?_⟩⟩
    have x := ((Evl.Ex.new (H := H) hl).trans (Evl.Ex.new (o := HO.lst (js.map V.str)) hr')).trans (Evl.Ex.new (o := HO.tup (js.map V.str)) ht)
    exact k t _ js x (ex_none ((Evl.Ex.new hl).trans (Evl.Ex.new hr')) ht) upd_same hp hs
end
end Rw
end T_JO

section T_S3
set_option Elab.async false
set_option linter.all false
set_option maxRecDepth 100000
set_option maxHeartbeats 4000000
namespace Rw
open PySem PySem.Spec PyProof.Rows
/-! ### rows of texts, one ahead of another -/
def lexS : List Str → List Str → Bool
  | [], [] => false
  | [], _ :: _ => true
  | _ :: _, [] => false
  | x :: r, y :: q => if x = y then lexS r q else decide (x.cps.toList < y.cps.toList)
theorem lexS_step (x y : Str) (r q : List Str) : lexS (x :: r) (y :: q) = if x = y then lexS r q else decide (x.cps.toList < y.cps.toList) := rfl
theorem txt_anti {x y : Str} (h1 : ¬ x.cps.toList < y.cps.toList) (h2 : ¬ y.cps.toList < x.cps.toList) : x = y := by
  have e : x.cps.toList = y.cps.toList := List.le_antisymm h2 h1
  cases x
  cases y
  exact congrArg Str.mk (Array.toList_inj.mp e)
theorem lexS_self : ∀ r : List Str, lexS r r = false
  | [] => rfl
  | x :: r => by rw [lexS_step, if_pos rfl]; exact lexS_self r
theorem lexS_no : ∀ {r q : List Str}, lexS r q = true → lexS q r = false
  | [], [], h => nomatch h
  | [], _ :: _, _ => rfl
  | _ :: _, [], h => nomatch h
  | x :: r, y :: q, h => by
    rw [lexS_step] at h ⊢
    by_cases e : x = y
    · rw [if_pos e] at h
      rw [if_pos e.symm]
      exact lexS_no h
    · rw [if_neg e, decide_eq_true_eq] at h
      rw [if_neg (fun z => e z.symm)]
      exact decide_eq_false fun z => List.lt_irrefl _ (List.lt_trans h z)
theorem lexS_tr : ∀ {r q p : List Str}, lexS q r = false → lexS p q = false → lexS p r = false
  | [], [], [], _, _ => rfl
  | [], [], _ :: _, _, _ => rfl
  | [], _ :: _, [], _, h => nomatch h
  | [], _ :: _, _ :: _, _, _ => rfl
  | _ :: _, [], _, h, _ => nomatch h
  | _ :: _, _ :: _, [], _, h => nomatch h
  | x :: r, y :: q, z :: p, h1, h2 => by
    rw [lexS_step] at h1 h2 ⊢
    by_cases e1 : y = x
    · subst e1
      rw [if_pos rfl] at h1
      by_cases e2 : z = y
      · subst e2
        rw [if_pos rfl] at h2 ⊢
        exact lexS_tr h1 h2
      · rw [if_neg e2] at h2 ⊢
        exact h2
    · rw [if_neg e1, decide_eq_false_iff_not] at h1
      by_cases e2 : z = y
      · subst e2
        rw [if_neg e1]
        exact decide_eq_false h1
      · rw [if_neg e2, decide_eq_false_iff_not] at h2
        by_cases e3 : z = x
        · subst e3
          exact absurd (txt_anti h1 h2) e1
        · rw [if_neg e3]
          exact decide_eq_false fun h3 => List.le_trans (show x.cps.toList ≤ y.cps.toList from h1) (show y.cps.toList ≤ z.cps.toList from h2) h3
theorem lexS_tot : ∀ {r q : List Str}, lexS r q = false → lexS q r = false → r = q
  | [], [], _, _ => rfl
  | [], _ :: _, h, _ => nomatch h
  | _ :: _, [], _, h => nomatch h
  | x :: r, y :: q, h1, h2 => by
    rw [lexS_step] at h1 h2
    by_cases e : x = y
    · subst e
      rw [if_pos rfl] at h1 h2
      rw [lexS_tot h1 h2]
    · rw [if_neg e, decide_eq_false_iff_not] at h1
      rw [if_neg (fun z => e z.symm), decide_eq_false_iff_not] at h2
      exact absurd (txt_anti h1 h2) e
/-- first by the number, then by the row -/
def numRow (p q : Int × List Str) : Bool := if p.1 = q.1 then lexS p.2 q.2 else decide (p.1 < q.1)
theorem numRow_swo {α : Type} (k : α → Int × List Str) : SrtO.Swo fun a b => numRow (k a) (k b) := by
  refine ⟨fun a b h => ?_, fun a b c h1 h2 => ?_⟩
  · unfold numRow at h ⊢
    by_cases e : (k a).1 = (k b).1
    · rw [if_pos e] at h
      rw [if_pos e.symm]
      exact lexS_no h
    · rw [if_neg e, decide_eq_true_eq] at h
      rw [if_neg (fun z => e z.symm)]
      exact decide_eq_false (by omega)
  · unfold numRow at h1 h2 ⊢
    by_cases e1 : (k b).1 = (k a).1
    · rw [if_pos e1] at h1
      by_cases e2 : (k c).1 = (k b).1
      · rw [if_pos e2] at h2
        rw [if_pos (e2.trans e1)]
        exact lexS_tr h1 h2
      · rw [if_neg e2, decide_eq_false_iff_not] at h2
        rw [if_neg (fun z => e2 (z.trans e1.symm))]
        exact decide_eq_false (by omega)
    · rw [if_neg e1, decide_eq_false_iff_not] at h1
      by_cases e2 : (k c).1 = (k b).1
      · rw [if_neg (fun z => e1 (e2.symm.trans z))]
        exact decide_eq_false (by omega)
      · rw [if_neg e2, decide_eq_false_iff_not] at h2
        rw [if_neg (by omega)]
        exact decide_eq_false (by omega)
/-! ### tuples of texts: < -/
section
open PySem.SeqAt
open PySem.AutoSeq1 (wpAny_loadPart')
open PySem.MeetsSeq PySem.MeetsSeq2 PySem.MeetsSeq3
theorem tupS_lt (p q : Addr) (us vs : Array Value) (k1 k2 : Nat) (d1 d2 : Option Addr) (z1 z2 : Array (Option Value)) (xs ys : List Str) (hx : StrsAre us.toList xs) (hy : StrsAre vs.toList ys) :
    Meets (Builtin.«tuple.__lt__» ⟨[.ref p, .ref q], []⟩)
      (fun _ R s => s.heap.get? p = some { cls := .type "tuple", dict := d1, data := .seq us k1, slots := z1 } ∧ s.heap.get? q = some { cls := .type "tuple", dict := d2, data := .seq vs k2, slots := z2 } ∧ R (.ok (.ret (.bool (lexS xs ys)))) s) :=
  .of_wp fun prog w A R s h => by
    obtain ⟨hp, gs, dr, tk, os⟩ := s
    obtain ⟨at_p, at_q, fin⟩ := h
    have sub := AutoSeq1.sub_tuple_tuple
    have l1 : us.size = xs.length := by rw [← hx.len_eq, Array.length_toList]
    have l2 : vs.size = ys.length := by rw [← hy.len_eq, Array.length_toList]
    wp_walk using wpAny_loadPart' at_p, wpAny_loadPart' at_q, wpAny_forIn_list _ (fun more b t => b.1 = none ∧ t = ⟨hp, gs, dr, tk, os⟩ ∧ ∃ (as bs : List Value) (xs' ys' : List Str), more = as.zip bs ∧
      StrsAre as xs' ∧ StrsAre bs ys' ∧ xs'.length + vs.size = ys'.length + us.size ∧ R (.ok (.ret (.bool (lexS xs' ys')))) ⟨hp, gs, dr, tk, os⟩) _
    case turn =>
      rintro ⟨u, v⟩ more b t ⟨b0, rfl, as, bs, xs', ys', em, ha, hb, hl, hR⟩
      cases ha with
      | nil => rw [List.zip_nil_left] at em; cases em
      | cons x t1 ha2 =>
        cases hb with
        | nil => rw [List.zip_nil_right] at em; cases em
        | cons y t2 hb2 =>
          rw [List.zip_cons_cons] at em
          injection em with e1 e2
          injection e1 with e3 e4
          subst e3 e4
          rw [lexS_step] at hR
          simp only [List.length_cons] at hl
          have same := SeqAt.EqAt.str_str (A := A.in1) (s := ⟨hp, gs, dr, tk, os⟩) x t1 y t2
          refine wpAny_bind (same prog w _ _ ?_)
          by_cases e : x = y
          · rw [show (x == y) = true from beq_iff_eq.mpr e]
            rw [if_pos e] at hR
            wp_walk
            exact ⟨rfl, rfl, _, _, _, _, e2, ha2, hb2, by omega, hR⟩
          · rw [show (x == y) = false from beq_eq_false_iff_ne.mpr e]
            rw [if_neg e] at hR
            have less := DT.rcLt_str A.in1 ⟨hp, gs, dr, tk, os⟩ x t1 y t2 prog w
            wp_walk using less
            exact ⟨_, rfl, by simpa using hR⟩
    case fin =>
      rintro ⟨c1, c2⟩ t ⟨b0, rfl, as, bs, xs', ys', em, ha, hb, hl, hR⟩
      simp only at b0
      subst b0
      have ev : lexS xs' ys' = decide (us.size < vs.size) := by
        cases ha with
        | nil =>
          cases hb with
          | nil =>
            simp only [List.length_nil] at hl
            exact (decide_eq_false (by omega)).symm
          | cons y t2 hb2 =>
            simp only [List.length_nil, List.length_cons] at hl
            exact (decide_eq_true (by omega)).symm
        | cons x t1 ha2 =>
          cases hb with
          | nil =>
            simp only [List.length_nil, List.length_cons] at hl
            exact (decide_eq_false (by omega)).symm
          | cons y t2 hb2 =>
            rw [List.zip_cons_cons] at em
            cases em
      rw [ev] at hR
      wp_walk
      exact ⟨_, rfl, by simpa [Builtin.Tuple.tupleCompareSizes] using hR⟩
    case h =>
      exact ⟨rfl, rfl, us.toList, vs.toList, xs, ys, rfl, hx, hy, by omega, fin⟩
end
section
variable {prog : Program} {w : World} {A : Around} {E : Value → Shared → Prop} {s : Shared}
theorem less_tupS {p q : Addr} {us vs : Array Value} {xs ys : List Str} {Q : Value → Shared → Prop} (hp : IsTup s.heap p us) (hq : IsTup s.heap q vs) (hx : StrsAre us.toList xs) (hy : StrsAre vs.toList ys) (room : A.units < cLine)
    (h : Q (.bool (lexS xs ys)) s) : wpAny (model prog w) A (compareOp .Lt (.ref p) (.ref q)) Q E s := by
  obtain ⟨⟨c1, e1, t1, z1⟩, at_p, x1, k1, y1⟩ := id hp
  obtain ⟨⟨c2, e2, t2, z2⟩, at_q, x2, k2, y2⟩ := id hq
  simp only at x1 y1 x2 y2
  subst x1 y1 x2 y2
  exact richCompare_meets_room (op := .Lt) ⟨_, at_p, rfl⟩ ⟨_, at_q, rfl⟩ PySem.F.slot_tuple_lt PySem.F.entry_tuple_lt (PySem.F.args_tuple_lt_2 _ _) (tupS_lt p q us vs k1 k2 e1 e2 z1 z2 xs ys hx hy)
    ⟨at_p, at_q, show Value.bool (lexS xs ys) ≠ Value.notImplemented ∧ Q (.bool (lexS xs ys)) s from ⟨(fun z => nomatch z), h⟩⟩ room
/-- a tuple of a number and a tuple of texts -/
def IsNR (h : Heap) (v : Value) (k : Int × List Str) : Prop := ∃ (a b : Addr) (t : Tok) (us : Array Value), v = .ref a ∧ IsTup h a #[.int k.1 t, .ref b] ∧ IsTup h b us ∧ StrsAre us.toList k.2
theorem IsNR.on {h h' : Heap} {v : Value} {k : Int × List Str} (x : IsNR h v k) (keep : ∀ b o, h.get? b = some o → o.cls = .type "tuple" → h'.get? b = some o) : IsNR h' v k := by
  obtain ⟨a, b, t, us, e, ⟨o, h1, h2, h3⟩, ⟨o2, g1, g2, g3⟩, r⟩ := x
  exact ⟨a, b, t, us, e, ⟨o, keep _ _ h1 h2, h2, h3⟩, ⟨o2, keep _ _ g1 g2, g2, g3⟩, r⟩
theorem key_row {h : Heap} {b : Addr} {us : Array Value} {xs : List Str} (hb : IsTup h b us) (hx : StrsAre us.toList xs) : IsTupleKey (L2.mixKind prog w) h (xs.map Sum.inr) b := by
  obtain ⟨o, h1, h2, n, h3⟩ := hb
  refine ⟨o, us, n, h1, h2, h3, ?_⟩
  have go : ∀ {vs : List Value} {zs : List Str}, StrsAre vs zs → ItemsAre (L2.mixKind prog w) (zs.map Sum.inr) vs := by
    intro vs zs q
    induction q with
    | nil => exact .nil
    | cons y t _ ih => exact .cons (L2.mixKind_str prog w y t) ih
  exact go hx
theorem nr_cmp {vs : List Value} {k : Value → Int × List Str} (room : A.units < cLine) (hp : ∀ v ∈ vs, IsNR s.heap v (k v)) : SrtO.Cmp prog w A s (tuples' true) (fun p => p.1 ∈ vs) (SrtO.lt2 fun v u => numRow (k v) (k u)) := by
  intro p q m1 m2
  have h1 := hp _ m1
  have h2 := hp _ m2
  show wpAny (model prog w) A (keyLt' (tuples' true) p.1 q.1) (fun r t => t = s ∧ r = numRow (k p.1) (k q.1)) (fun _ _ => False) s
  generalize k p.1 = kp at h1 ⊢
  generalize k q.1 = kq at h2 ⊢
  obtain ⟨i, xs⟩ := kp
  obtain ⟨j, ys⟩ := kq
  obtain ⟨a, b, t, us, ep, ⟨o, g1, g2, n, g3⟩, tb, rs⟩ := h1
  obtain ⟨a', b', t', us', eq, ⟨o', g1', g2', n', g3'⟩, tb', rs'⟩ := h2
  rw [ep, eq]
  refine PySem.W.kat_lt g1 g3 g1' g3' ?_
  show PySem.W.KatLex prog w A true (decide (2 < 2)) _ [(.int i t, .int j t'), (.ref b, .ref b')] 0 s
  refine PySem.W.kat_cons (SeqAt.EqAt.int_int i t j t' prog w _ _ ?_)
  refine PySem.W.kat_go (fun e1 => ?_) (fun e1 => ?_)
  · have ei : i = j := by simpa using e1
    refine PySem.W.kat_yes (PySem.W.kat_cons (wpAny_eqBool_tuple (knd := L2.mixKind prog w) room (key_row tb rs) (key_row tb' rs') ?_))
    have val : numRow (i, xs) (j, ys) = lexS xs ys := by unfold numRow; exact if_pos ei
    refine PySem.W.kat_go (fun e2 => ?_) (fun e2 => ?_)
    · have e3 : xs = ys := (List.map_inj_right (fun _ _ z => Sum.inr.inj z)).mp (of_decide_eq_true e2)
      exact PySem.W.kat_yes (PySem.W.kat_nil ⟨rfl, by rw [val, e3, lexS_self]; rfl⟩)
    · refine PySem.W.kat_no (PySem.W.kat_one _ _ (less_tupS tb tb' rs rs' room ?_))
      exact (show s = s ∧ lexS xs ys = numRow (i, xs) (j, ys) from ⟨rfl, val.symm⟩)
  · have ei : ¬ i = j := by simpa using e1
    have val : numRow (i, xs) (j, ys) = decide (i < j) := by unfold numRow; exact if_neg ei
    exact PySem.W.kat_no (oneLt_int ⟨rfl, val.symm⟩)
theorem nr_firsts {h : Heap} {k : Value → Int × List Str} : ∀ {vs : List Value}, (∀ v ∈ vs, IsNR h v (k v)) → ∃ fs : List Value, PySem.W.KatTups h vs fs ∧ fs.length = vs.length ∧ ∀ f ∈ fs, ∃ i t, f = Value.int i t
  | [], _ => ⟨[], PySem.W.KatTups.nil, rfl, fun _ z => nomatch z⟩
  | v :: vs, hp => by
    obtain ⟨fs, g1, g2, g3⟩ := nr_firsts (vs := vs) fun u hu => hp u (List.mem_cons_of_mem _ hu)
    obtain ⟨a, b, t, us, rfl, ⟨o, h1, h2, n, h3⟩, _⟩ := hp v List.mem_cons_self
    refine ⟨.int (k (.ref a)).1 t :: fs, PySem.W.KatTups.cons h1 h2 h3 rfl g1, congrArg (· + 1) g2, fun f hf => ?_⟩
    rcases List.mem_cons.mp hf with rfl | hf
    · exact ⟨_, t, rfl⟩
    · exact g3 f hf
theorem nr_sortable {a : Addr} {vs : List Value} {k : Value → Int × List Str} (room : A.units < cLine) (h0 : 0 < vs.length) (hp : ∀ v ∈ vs, IsNR s.heap v (k v)) (ha : ∀ o, s.heap.get? a = some o → o.cls ≠ .type "tuple") : SrtO.SortableO prog w A s a vs fun v u => numRow (k v) (k u) := by
  intro h' keep
  have hp' : ∀ v ∈ vs, IsNR h' v (k v) := fun v hv => (hp v hv).on fun b o e c => keep b o (fun z => by subst z; exact ha o e c) e
  obtain ⟨fs, g1, g2, g3⟩ := nr_firsts hp'
  refine ⟨tuples' true, fun Q E hq => ?_, nr_cmp (s := { s with heap := h' }) room hp'⟩
  refine PySem.W.kat_kind (T := .type "int") g1 (by omega) (fun f hf => ?_) (by rfl) ?_
  · obtain ⟨i, t, rfl⟩ := g3 f hf
    exact PySem.W.Looks.now
  · rw [show (Value.type "int" != Value.type "tuple") = true by first | decide +kernel | rfl]
    exact hq
end
end Rw
namespace L2
open PySem PySem.Spec PyProof.Rows
/-- sorted(xs), xs a list of tuples of a number and a tuple of texts: a new list, in order -/
def rSortNR (K : PySem.W.Frag) : List V → Hp → VK → Prop := fun vs H Q => ∃ (a : Addr) (xs : List V) (k : V → Int × List Str), vs = [V.ref a] ∧ SqL K H a xs ∧ (∀ x ∈ xs, ∃ t b, x = V.ref t ∧ H t = some (.tup [.int (k x).1, .ref b]) ∧ H b = some (.tup ((k x).2.map V.str))) ∧
  ∀ ys p, ys.Perm xs → SrtO.Srtd (fun x y => Rw.numRow (k x) (k y)) ys → H p = none → Q (.ref p) (upd H p (.lst ys))
theorem cr_sortNR {X : Cx} (room : X.A.units + 2 < cLine) : CallR X (.builtin "sorted") (rSortNR X.K) := by
  intro pins s σ H vs us Q I r h
  obtain ⟨a, xs, k, rfl, hs, hx, q⟩ := h
  obtain ⟨its, rv, hl, hz⟩ := I.list hs
  obtain ⟨u, rfl, ru⟩ := vals1 r
  obtain rfl : u = Value.ref a := ru
  obtain ⟨e1, e2⟩ := refs_back rv fun x m => by
    obtain ⟨t, _, e, _⟩ := hx x m
    exact ⟨t, e⟩
  have all : ∀ v ∈ its, Rw.IsNR s.heap v (k (backV v)) := fun v hv => by
    obtain ⟨t, rfl⟩ := e2 v hv
    have hm : V.ref t ∈ xs := by rw [e1]; exact List.mem_map.mpr ⟨_, hv, rfl⟩
    obtain ⟨t', b, e, ht, hb⟩ := hx _ hm
    cases e
    obtain ⟨_, i2, r2, o, ho, hc, n, hd⟩ := I.hok _ _ ht
    obtain ⟨u1, u2, rfl, ri, rj⟩ := vals2 r2
    obtain ⟨t1, rfl⟩ := ri
    cases rj
    obtain ⟨_, i3, r3, o3, ho3, hc3, n3, hd3⟩ := I.hok _ _ hb
    exact ⟨t, b, t1, i3.toArray, rfl, ⟨o, ho, hc, n, hd⟩, ⟨o3, ho3, hc3, n3, hd3⟩, Vals.strs r3⟩
  refine SrtO.sorted_ord (Rw.numRow_swo fun v => k (backV v)) hl.isList (by rw [← rv.length]; exact hz) (fun h2 h1 d hd kk => ?_) fun out hs1 hb1 => ?_
  · refine Rw.nr_sortable (s := { s with heap := h1 }) (by show X.A.units + 1 + 1 < cLine; omega) (by omega) (fun v hv => (all v hv).on fun b o e _ => (kk b o e).2) fun o e => ?_
    have e' : some o = some (seqObj "list" its.toArray 0) := e.symm.trans hd
    cases e'
    intro c
    exact absurd (Value.type.inj c) (by decide)
  · have h3 : ∀ u ∈ out, ∃ a, u = Value.ref a := fun u hu => e2 u (hb1.perm.mem_iff.mp hu)
    have hp : (out.map backV).Perm xs := by rw [e1]; exact hb1.perm.map _
    obtain ⟨n, hn⟩ := sortedAll_at s.heap its out.toArray
    refine ⟨.ref (s.heap.objs.size + 1), upd H (s.heap.objs.size + 1) (.lst (out.map backV)), I.laid (t' := s.toks) (fun b o e => sortedAll_old e) (Nat.le_succ _) ⟨?_, out, n, vals_back h3, hn⟩, rfl, q _ _ hp (SrtO.srtd_map (f := backV) (lt := fun x y => Rw.numRow (k x) (k y)) hs1) (I.hok.fresh (Nat.le_succ _))⟩
    rw [hp.length_eq]
    exact hz
end L2
end T_S3

section T_S8
set_option Elab.async false
set_option linter.all false
set_option maxRecDepth 100000
set_option maxHeartbeats 4000000
/-! sorted of tuples of texts by a key that is a lambda: first their length, then themselves -/
namespace Rw
open PySem PySem.Spec PyProof.Rows L2 SrtO Srt
/-- while the keys are made: kl the keys so far, one for each of the first items -/
structure KeySt (X : Cx) (H : Hp) (s : Shared) (kS a : Addr) (e1 : Nat) (xs : List V) (kt : V → List V) (i : Nat) (H' : Hp) (kl : List Value) (e : Nat) (s' : Shared) : Prop where
  un : Un (frs X.stack) [] H H' s.heap s'.heap
  hok : HOk X.prog X.w H' s'.heap
  os : s'.os = s.os
  bare : AllBare s'.gens
  hk : s'.heap.get? kS = some (seqObj "list" kl.toArray e)
  nk : H' kS = none
  ha : s'.heap.get? a = some (seqObj "list" #[] e1)
  na : H' a = none
  ex : ∀ b o, H b = some o → H' b = some o
  len : kl.length = i
  keys : ∀ (j : Nat) (u : Value), kl[j]? = some u → ∃ (p : Addr) (x : V), u = Value.ref p ∧ xs[j]? = some x ∧ H' p = some (.tup (kt x))
section
variable {X : Cx} {pins : List (Addr × Obj)} {σ : L2.St} {H : Hp} {s : Shared} {kS a fa : Addr} {e1 : Nat} {xs : List V} {kt : V → List V} {fo : Obj} {its : List Value} {A : Around} {E : Value → Shared → Prop}
theorem notFrame (I : Inv X pins σ H s) {b : Addr} (h : s.heap.objs.size ≤ b) : b ∉ frs X.stack := fun z => by
  rcases List.mem_cons.mp (I.stkSub _ z) with e | e
  · have h1 := I.lt
    rw [← e] at h1
    exact Nat.lt_irrefl _ (Nat.lt_of_lt_of_le h1 h)
  · exact I.nofs h e
theorem keys_made {P : PySem.Fin → Shared → Prop} {s0 : Shared} {H0 : Hp} (I : Inv X pins σ H s) (rv : Vals xs its) (hz : its.length ≤ sizeLine) (hfa : s.heap.get? fa = some fo) (nfa : H fa = none) (ffa : fa ∉ frs X.stack)
    (hsa : s.heap.objs.size ≤ a) (hsk : s.heap.objs.size ≤ kS) (hka : kS ≠ a)
    (turn : ∀ (j : Nat) (x : V) (v : Value) (H' : Hp) (s' : Shared), xs[j]? = some x → RelV x v → Inv X pins σ H' s' → (∀ b o, H b = some o → H' b = some o) → s'.heap.get? fa = some fo → H' fa = none →
      wpAny (model X.prog X.w) A (call (.ref fa) [v]) (CE X.stack X.prog X.w H' s' (fun w H'' => ∃ p, w = .ref p ∧ H' p = none ∧ H'' = upd H' p (.tup (kt x)))) (fun _ _ => False) s')
    (e0 : Nat) (K0 : KeySt X H s kS a e1 xs kt 0 H0 [] e0 s0)
    (h : ∀ (H' : Hp) (kl : List Value) (e : Nat) (s' : Shared), KeySt X H s kS a e1 xs kt its.length H' kl e s' → wpAny (model X.prog X.w) A (ksk_end a false its.toArray e1 (.ref kS) kl.toArray) P E s') :
    wpAny (model X.prog X.w) A (ksk_rest a (.ref fa) false its.toArray e1 (.ref kS)) P E s0 := by
  have nfk := notFrame I hsk
  have nfA := notFrame I hsa
  unfold ksk_rest
  refine wpAny_bind (wpAny_rule ?_)
  first
    | rw [List.forIn_toArray]
    | (rw [← Array.forIn_toList]; simp only [List.toList_toArray])
    | rw [← Array.forIn_toList]
  refine wpAny_bind (ksk_fold (fun i s' => ∃ H' kl e, KeySt X H s kS a e1 xs kt i H' kl e s') its 0 s0 ⟨H0, [], e0, K0⟩ ?step ?done)
  case step =>
    rintro j v s' hv ⟨H', kl, e, K⟩
    simp only [Nat.zero_add] at K ⊢
    obtain ⟨x, hx, rx⟩ : ∃ x, xs[j]? = some x ∧ RelV x v := by
      have hj : j < its.length := (List.getElem?_eq_some_iff.mp hv).1
      have hjx : j < xs.length := by rw [rv.length]; exact hj
      obtain ⟨u, hu, r⟩ := Vals.get (i := j) (x := xs[j]) rv (List.getElem?_eq_getElem hjx)
      rw [hv] at hu
      cases hu
      exact ⟨_, List.getElem?_eq_getElem hjx, r⟩
    have hjl : j < its.length := (List.getElem?_eq_some_iff.mp hv).1
    have I1 : Inv X pins σ H' s' := I.call' (ch := []) K.os K.un K.hok K.bare (fun _ z => absurd z (by simp))
    have f1 : s'.heap.get? fa = some fo := K.un.keep fa fo hfa nfa ffa (by simp)
    have f2 : H' fa = none := K.un.free fa fo hfa nfa (by simp)
    refine wpAny_bind (wpAny_attempt (wpAny_mono (turn j x v H' s' hx rx I1 K.ex f1 f2) (fun u s'' he => ?_) fun _ _ hF => hF.elim))
    obtain ⟨w', H2, os2, bare2, un2, hok2, rw2, p, rfl, hp, rfl⟩ := he
    obtain rfl : u = Value.ref p := rw2
    try dsimp only
    have un12 := K.un.trans un2
    have hk2 : s''.heap.get? kS = some (seqObj "list" kl.toArray e) := un2.keep kS _ K.hk K.nk nfk (by simp)
    have nk2 : (upd H' p (.tup (kt x))) kS = none := un2.free kS _ K.hk K.nk (by simp)
    have ha2 : s''.heap.get? a = some (seqObj "list" #[] e1) := un2.keep a _ K.ha K.na nfA (by simp)
    have na2 : (upd H' p (.tup (kt x))) a = none := un2.free a _ K.ha K.na (by simp)
    have kz : kl.toArray.size ≤ its.length := by
      rw [List.size_toArray, K.len]
      omega
    have s1 := Heap.SameBut.update s''.heap kS (Obj.mapSeq (·.push (Value.ref p)))
    obtain ⟨c2, hc2⟩ : ∃ c2, (s''.heap.update kS (Obj.mapSeq (·.push (Value.ref p)))).get? kS = some (seqObj "list" (kl.toArray.push (Value.ref p)) c2) := ⟨_, get?_update_seq hk2 (·.push (Value.ref p))⟩
    have ea : kl.toArray.push (Value.ref p) = (kl ++ [Value.ref p]).toArray := by simp
    refine wpAny_bind (listUpdate_at hk2 rfl ?_ (Nat.le_trans kz hz) (Nat.le_trans (Nat.le_of_eq (Array.size_push ..)) (by omega)))
    have other : ∀ b, b ≠ kS → (s''.heap.update kS (Obj.mapSeq (·.push (Value.ref p)))).get? b = s''.heap.get? b := fun b hb => s1.2 b hb
    have old : ∀ b o, s.heap.get? b = some o → b ≠ kS := fun b o q => Nat.ne_of_lt (Nat.lt_of_lt_of_le (Heap.lt_size q) hsk)
    have trk : ∀ b o, (upd H' p (.tup (kt x))) b = some o → b ≠ kS := fun b o q z => by
      rw [z, nk2] at q
      cases q
    refine wpAny_pure ⟨rfl, upd H' p (.tup (kt x)), kl ++ [Value.ref p], c2, ?_⟩
    refine ⟨⟨fun b o q n hb hx => ?_, fun b o q n hb hx => ?_, un12.free, fun b o q hx => ?_, un12.tups, un12.frzs, un12.tbls⟩, ?_, os2.trans K.os, bare2, ?_, nk2, ?_, na2, fun b o q => ?_, ?_, fun i u hu => ?_⟩
    · exact (other b (old b o q)).trans (un12.keep b o q n hb hx)
    · obtain ⟨sl, q2⟩ := un12.slot b o q n hb hx
      exact ⟨sl, (other b (old b o q)).trans q2⟩
    · obtain ⟨o', q2⟩ := un12.there b o q hx
      exact ⟨o', (other b (old b o q)).trans q2⟩
    · intro b o q
      refine (hok2 b o q).stay (fun c w2 hc q2 => (other c ?_).trans q2) (fun _ q => q) fun _ _ q => q
      rcases hc with z | z
      · rw [z]
        exact trk b o q
      · exact trk c _ z
    · rw [← ea]
      exact hc2
    · exact (other a hka.symm).trans ha2
    · have q1 := K.ex b o q
      rw [upd_ne (ne_of_none q1 hp)]
      exact q1
    · rw [List.length_append, K.len]
      rfl
    · by_cases hi : i < kl.length
      · rw [List.getElem?_append_left hi] at hu
        obtain ⟨p', x', r1, r2, r3⟩ := K.keys i u hu
        exact ⟨p', x', r1, r2, by rw [upd_ne (ne_of_none r3 hp)]; exact r3⟩
      · have hi2 : i = kl.length := by
          have := (List.getElem?_eq_some_iff.mp hu).1
          rw [List.length_append] at this
          simp only [List.length_cons, List.length_nil] at this
          omega
        subst hi2
        rw [List.getElem?_append_right (Nat.le_refl _), Nat.sub_self] at hu
        cases hu
        exact ⟨p, x, rfl, by rw [K.len]; exact hx, upd_same⟩
  case done =>
    rintro s' ⟨H', kl, e, K⟩
    simp only [Nat.zero_add] at K
    try dsimp only
    refine wpAny_bind (listItems_at K.hk rfl ?_)
    exact h H' kl e s' K
end
end Rw
end T_S8

section T_S9
set_option Elab.async false
set_option linter.all false
set_option maxRecDepth 100000
set_option maxHeartbeats 4000000
namespace Rw
open PySem PySem.Spec PyProof.Rows L2 SrtO Srt
/-- what a key tells: its number, its row -/
def unS : List V → List Str
  | [] => []
  | .str z :: r => z :: unS r
  | _ :: r => unS r
theorem unS_strs : ∀ zs : List Str, unS (zs.map V.str) = zs
  | [] => rfl
  | z :: zs => congrArg (List.cons z) (unS_strs zs)
def keyOf (H : Hp) (v : Value) : Int × List Str :=
  match v with
  | .ref p => match H p with
    | some (.tup [.int n, .ref b]) => match H b with
      | some (.tup vs) => (n, unS vs)
      | _ => (n, [])
    | _ => (0, [])
  | _ => (0, [])
theorem keyOf_at {H : Hp} {p b : Addr} {n : Int} {zs : List Str} (h1 : H p = some (.tup [.int n, .ref b])) (h2 : H b = some (.tup (zs.map V.str))) : keyOf H (.ref p) = (n, zs) := by
  unfold keyOf
  simp only [h1, h2, unS_strs]
section
variable {X : Cx} {pins : List (Addr × Obj)} {σ : L2.St} {H : Hp} {s : Shared} {kS a : Addr} {e1 : Nat} {xs : List V} {its : List Value} {A : Around} {E : Value → Shared → Prop} {k : V → List Str}
abbrev ktOf (k : V → List Str) (x : V) : List V := [.int ((k x).length : Int), x]
abbrev lenRow (k : V → List Str) (x : V) : Int × List Str := (((k x).length : Int), k x)
theorem key_nr {P : Program} {w : World} {H' : Hp} {h : Heap} (hok : HOk P w H' h) {p b : Addr} {n : Int} {zs : List Str} (h1 : H' p = some (.tup [.int n, .ref b])) (h2 : H' b = some (.tup (zs.map V.str))) : IsNR h (.ref p) (n, zs) := by
  obtain ⟨_, i2, r2, o, ho, hc, m, hd⟩ := hok _ _ h1
  obtain ⟨u1, u2, rfl, ri, rj⟩ := vals2 r2
  obtain ⟨t1, rfl⟩ := ri
  cases rj
  obtain ⟨_, i3, r3, o3, ho3, hc3, n3, hd3⟩ := hok _ _ h2
  exact ⟨p, b, t1, i3.toArray, rfl, ⟨o, ho, hc, m, hd⟩, ⟨o3, ho3, hc3, n3, hd3⟩, Vals.strs r3⟩
/-- each pair of a key and an item -/
theorem pair_key {H' : Hp} {kl : List Value} {e : Nat} {s' : Shared} (K : KeySt X H s kS a e1 xs (ktOf k) its.length H' kl e s') (rv : Vals xs its) (hx : ∀ x ∈ xs, ∃ b, x = V.ref b ∧ H b = some (.tup ((k x).map V.str))) {q : Keyed} (hq : q ∈ kl.zip its) :
    ∃ x ∈ xs, RelV x q.2 ∧ keyOf H' q.1 = lenRow k x ∧ IsNR s'.heap q.1 (lenRow k x) := by
  obtain ⟨j, hj, ej⟩ := List.getElem_of_mem hq
  rw [List.getElem_zip] at ej
  rw [List.length_zip] at hj
  have h1 : kl[j]? = some q.1 := by rw [List.getElem?_eq_getElem (by omega)]; exact congrArg some (congrArg Prod.fst ej)
  have h2 : its[j]? = some q.2 := by rw [List.getElem?_eq_getElem (by omega)]; exact congrArg some (congrArg Prod.snd ej)
  obtain ⟨p, x, ep, ex, hp⟩ := K.keys j _ h1
  have hm := List.mem_of_getElem? ex
  obtain ⟨b, rfl, hb⟩ := hx x hm
  obtain ⟨u, hu, ru⟩ := Vals.get rv ex
  rw [h2] at hu
  cases hu
  have hb' := K.ex _ _ hb
  rw [ep]
  exact ⟨.ref b, hm, ru, keyOf_at hp hb', key_nr K.hok hp hb'⟩
theorem nr_any {vs : List Value} {prog : Program} {w : World} {B : Around} {s1 : Shared} {kk : Value → Int × List Str} (room : B.units < cLine) (hp : ∀ v ∈ vs, IsNR s1.heap v (kk v)) {P : Keyed → Prop} (hP : ∀ p, P p → p.1 ∈ vs) :
    Cmp prog w B s1 (tuples' true) P (lt2 fun v u => numRow (kk v) (kk u)) := fun p q m1 m2 => nr_cmp (A := B) room hp p q (hP p m1) (hP q m2)
theorem keyed_end {P : PySem.Fin → Shared → Prop} {H' : Hp} {kl : List Value} {e : Nat} {s' : Shared} (K : KeySt X H s kS a e1 xs (ktOf k) its.length H' kl e s') (rv : Vals xs its) (hz : its.length ≤ sizeLine) (hka : kS ≠ a) (room : A.units < cLine)
    (hx : ∀ x ∈ xs, ∃ b, x = V.ref b ∧ H b = some (.tup ((k x).map V.str)))
    (h : ∀ ps : List Keyed, ps.Perm (kl.zip its) → Srtd (lt2 fun v u => numRow (keyOf H' v) (keyOf H' u)) ps →
      P (.done (.ret .none)) { s' with heap := (s'.heap.update kS (Obj.mapSeq fun _ => (#[] : Array Value))).update a (Obj.mapSeq fun _ => (ps.map (·.2)).toArray) }) :
    wpAny (model X.prog X.w) A (ksk_end a false its.toArray e1 (.ref kS) kl.toArray) P E s' := by
  have hzl : kl.length = its.length := K.len
  have hzs : (kl.toArray.zip its.toArray).size = its.length := by rw [Array.size_zip, List.size_toArray, List.size_toArray, hzl, Nat.min_self]
  have ez : (kl.toArray.zip its.toArray).toList = kl.zip its := by rw [ksk_zip]
  have allNR : ∀ v ∈ kl, IsNR s'.heap v (keyOf H' v) := fun v hv => by
    obtain ⟨j, hj, ej⟩ := List.getElem_of_mem hv
    have hm : (v, its[j]'(by omega)) ∈ kl.zip its := by
      have : (kl.zip its)[j]'(by rw [List.length_zip]; omega) = (v, its[j]'(by omega)) := by rw [List.getElem_zip, ej]
      rw [← this]
      exact List.getElem_mem _
    obtain ⟨x, _, _, e2, e3⟩ := pair_key K rv hx hm
    rw [e2]
    exact e3
  have tail : ∀ st : SortSt, (arrOf st).toList.Perm (kl.zip its) → Srtd (lt2 fun v u => numRow (keyOf H' v) (keyOf H' u)) (arrOf st).toList → failedOf st = none →
      wpAny (model X.prog X.w) A (ksk_tail a false e1 (.ref kS) st) P E s' := fun st hp hs hf => by
    have na1 : (s'.heap.update kS (Obj.mapSeq fun _ => (#[] : Array Value))).get? a = some (seqObj "list" #[] e1) := ((Heap.SameBut.update s'.heap kS (Obj.mapSeq fun _ => (#[] : Array Value))).2 a hka.symm).trans K.ha
    have hsz2 : (arrOf st).size = its.length := by
      have := hp.length_eq
      rw [Array.length_toList, List.length_zip, hzl, Nat.min_self] at this
      exact this
    have eo : (if false = true then ((arrOf st).map (·.2)).reverse else (arrOf st).map (·.2)) = (((arrOf st).toList).map (·.2)).toArray := by
      rw [if_neg (by decide)]
      apply Array.ext'
      rw [Array.toList_map]
    unfold ksk_tail
    try dsimp only
    refine wpAny_bind (listUpdate_at K.hk rfl ?_ (by rw [List.size_toArray, hzl]; exact hz) (Nat.zero_le _))
    refine wpAny_bind (wpAny_letGo ?_)
    refine wpAny_bind (seqEpoch_at na1 rfl ?_)
    rw [eo]
    refine wpAny_bind (listUpdate_at na1 rfl ?_ (Nat.zero_le _) (by rw [List.size_toArray, List.length_map, Array.length_toList, hsz2]; omega))
    rw [hf]
    simp only [bne_self_eq_false, Bool.false_eq_true, if_false]
    exact wpAny_pure (h _ hp hs)
  unfold ksk_end
  try dsimp only
  rw [if_neg (show ¬ (false = true) by decide), if_neg (show ¬ (false = true) by decide)]
  by_cases h2 : its.toArray.size < 2
  · rw [if_pos h2, if_pos h2]
    refine wpAny_bind (wpAny_pure ?_)
    rw [StateT.run_pure]
    refine wpAny_bind (wpAny_pure ?_)
    try dsimp only
    refine tail (SortSt.mk' general' (kl.toArray.zip its.toArray) #[] 7 none) (by show ((kl.toArray.zip its.toArray).toList).Perm _; rw [ez]) ?_ rfl
    show Srtd _ (kl.toArray.zip its.toArray).toList
    have hl : (kl.toArray.zip its.toArray).toList.length < 2 := by
      rw [Array.length_toList, hzs]
      rw [List.size_toArray] at h2
      exact h2
    generalize (kl.toArray.zip its.toArray).toList = L at hl
    match L, hl with
    | [], _ => exact List.Pairwise.nil
    | [v], _ => exact List.pairwise_singleton _ _
  · rw [if_neg h2, if_neg h2]
    rw [List.size_toArray] at h2
    obtain ⟨fs, g1, g2, g3⟩ := nr_firsts (h := s'.heap) allNR
    have hkind : ∀ (Q : SortKind → Shared → Prop) (E : Value → Shared → Prop), Q (tuples' true) s' → wpAny (model X.prog X.w) A (keyKind' kl.toArray) Q E s' := fun Q E hq => by
      refine PySem.W.kat_kind (T := .type "int") g1 (by omega) (fun f hf => ?_) (by rfl) ?_
      · obtain ⟨i, t, rfl⟩ := g3 f hf
        exact PySem.W.Looks.now
      · rw [show (Value.type "int" != Value.type "tuple") = true by first | decide +kernel | rfl]
        exact hq
    refine wpAny_bind (hkind _ _ ?_)
    have hall : AllL (fun p : Keyed => p.1 ∈ kl) (kl.toArray.zip its.toArray).toList := fun p hm => by
      rw [ez] at hm
      obtain ⟨p1, p2⟩ := p
      exact (List.of_mem_zip hm).1
    refine wpAny_bind (wpAny_mono (wpS_sortO (st0 := SortSt.mk' (tuples' true) (kl.toArray.zip its.toArray) #[] 7 none)
      (Q := fun _ st' => Srtd (lt2 fun v u => numRow (keyOf H' v) (keyOf H' u)) (arrOf st').toList ∧ Stb (lt2 fun v u => numRow (keyOf H' v) (keyOf H' u)) (arrOf st').toList (kl.toArray.zip its.toArray).toList ∧ failedOf st' = none) (swo2 (numRow_swo fun v => keyOf H' v))
      (nr_any room allNR fun p hp => hp) rfl hall rfl rfl fun st' a1 a2 a3 => ⟨a1, a2, a3⟩) ?_ fun _ _ e => e)
    rintro ⟨⟨⟩, st'⟩ s2 ⟨rfl, hp1, hp2, hf⟩
    try dsimp only
    have hp3 := hp2.perm
    rw [ez] at hp3
    exact tail st' hp3 hp1 hf
end
end Rw
end T_S9

section T_SA
set_option Elab.async false
set_option linter.all false
set_option maxRecDepth 100000
set_option maxHeartbeats 4000000
namespace Rw
open PySem PySem.Spec PyProof.Rows L2 SrtO Srt
section
variable {X : Cx} {pins : List (Addr × Obj)} {σ : L2.St} {H : Hp} {s : Shared} {fa l : Addr} {xs : List V} {fo : Obj} {k : V → List Str} {E : Value → Shared → Prop}
/-- the keyed pairs, sorted, tell the items sorted -/
theorem items_srtd {H' : Hp} {its : List Value} {kl : List Value} {kS a : Addr} {e1 e : Nat} {s' : Shared} (K : KeySt X H s kS a e1 xs (ktOf k) its.length H' kl e s') (rv : Vals xs its) (hx : ∀ x ∈ xs, ∃ b, x = V.ref b ∧ H b = some (.tup ((k x).map V.str)))
    {ps : List Keyed} (hp : ps.Perm (kl.zip its)) (hs : Srtd (lt2 fun v u => numRow (keyOf H' v) (keyOf H' u)) ps) :
    Srtd (fun x y => numRow (lenRow k x) (lenRow k y)) (ps.map fun p => backV p.2) ∧ (ps.map fun p => backV p.2).Perm xs ∧ ∀ u ∈ ps.map (·.2), ∃ b, u = Value.ref b := by
  obtain ⟨e1', e2'⟩ := refs_back rv fun x m => by
    obtain ⟨b, e, _⟩ := hx x m
    exact ⟨b, e⟩
  have hzl : kl.length = its.length := K.len
  have hm : (kl.zip its).map (·.2) = its := List.map_snd_zip (by omega)
  have hback : ∀ p ∈ ps, keyOf H' p.1 = lenRow k (backV p.2) := fun p hm2 => by
    obtain ⟨x, hxm, rx, e3, _⟩ := pair_key K rv hx (hp.mem_iff.mp hm2)
    obtain ⟨b, rfl, _⟩ := hx x hxm
    have e4 : p.2 = Value.ref b := rx
    rw [e3, e4]
    rfl
  refine ⟨?_, ?_, fun u hu => ?_⟩
  · show List.Pairwise _ _
    rw [List.pairwise_map]
    refine List.Pairwise.imp_of_mem ?_ hs
    intro p q hp1 hq1 hlt
    show numRow (lenRow k (backV q.2)) (lenRow k (backV p.2)) = false
    rw [← hback p hp1, ← hback q hq1]
    exact hlt
  · have h1 := hp.map (fun p : Keyed => backV p.2)
    have h2 : (kl.zip its).map (fun p : Keyed => backV p.2) = ((kl.zip its).map (·.2)).map backV := by rw [List.map_map]; rfl
    rw [h2, hm, ← e1'] at h1
    exact h1
  · obtain ⟨p, hp1, rfl⟩ := List.mem_map.mp hu
    have := (List.of_mem_zip (show (p.1, p.2) ∈ kl.zip its from hp.mem_iff.mp hp1)).2
    exact e2' _ this
/-- sorted(l, key=f), f an object that makes for each item the pair of its length and itself -/
theorem sorted_key {Q : VK} (I : Inv X pins σ H s) (hs : SqL X.K H l xs) (hx : ∀ x ∈ xs, ∃ b, x = V.ref b ∧ H b = some (.tup ((k x).map V.str))) (hfa : s.heap.get? fa = some fo) (nfa : H fa = none) (ffa : fa ∉ frs X.stack) (room : X.A.units + 2 < cLine)
    (turn : ∀ (j : Nat) (x : V) (v : Value) (H' : Hp) (s' : Shared), xs[j]? = some x → RelV x v → Inv X pins σ H' s' → (∀ b o, H b = some o → H' b = some o) → s'.heap.get? fa = some fo → H' fa = none →
      wpAny (model X.prog X.w) X.A.in1.in1 (call (.ref fa) [v]) (CE X.stack X.prog X.w H' s' (fun w H'' => ∃ p, w = .ref p ∧ H' p = none ∧ H'' = upd H' p (.tup (ktOf k x)))) (fun _ _ => False) s')
    (q : ∀ (ys : List V) (p : Addr) (H' : Hp), ys.Perm xs → Srtd (fun x y => numRow (lenRow k x) (lenRow k y)) ys → (∀ b o, H b = some o → H' b = some o) → H p = none → H' p = some (.lst ys) → Q (.ref p) H') :
    wpAny (model X.prog X.w) X.A (call (.builtin "sorted") [.ref l] [(Str.ofString "key", .ref fa)]) (EP X pins σ Q) X.xe s := by
  obtain ⟨its, rv, hl0, hz⟩ := I.list hs
  have hl := hl0.isList
  have hzi : its.length ≤ sizeLine := by rw [← rv.length]; exact hz
  refine call_function_entry_kw kind_sorted plain_sorted entry_sorted (ksk_s1 _ _) ?_
  unfold Builtin.«sorted»
  refine wpAny_bind (m := checkCount "sorted" 1 1 _) (wpAny_pure ?_)
  refine wpAny_bind (collect_list hl ?_ hzi)
  refine wpAny_bind (wpAny_newList ?_ hzi)
  have hsz : ((s.heap.push (seqObj "list" #[] 0)).update s.heap.objs.size (Obj.mapSeq (· ++ its.toArray))).objs.size = s.heap.objs.size + 1 := by
    rw [Heap.size_update, size_push']
  have hoL : (((s.heap.push (seqObj "list" #[] 0)).update s.heap.objs.size (Obj.mapSeq (· ++ its.toArray))).push (seqObj "list" its.toArray 0)).get? (s.heap.objs.size + 1) = some (seqObj "list" its.toArray 0) := by
    rw [← hsz]; exact Heap.get?_push_size _ rfl
  have keep : ∀ b o, s.heap.get? b = some o → (((s.heap.push (seqObj "list" #[] 0)).update s.heap.objs.size (Obj.mapSeq (· ++ its.toArray))).push (seqObj "list" its.toArray 0)).get? b = some o := fun b o q => by
    have hlt : b < s.heap.objs.size := Heap.lt_size q
    rw [Heap.get?_push_ne _ _ _ (by rw [hsz]; exact Nat.ne_of_lt (Nat.lt_succ_of_lt hlt)), Heap.get?_update_ne _ _ _ _ (Nat.ne_of_lt hlt), Heap.get?_push_ne _ _ _ (Nat.ne_of_lt hlt)]
    exact q
  show wpAny _ _ _ _ _ { s with heap := ((s.heap.push (seqObj "list" #[] 0)).update s.heap.objs.size (Obj.mapSeq (· ++ its.toArray))).push (seqObj "list" its.toArray 0) }
  rw [hsz]
  have hsz2 : (((s.heap.push (seqObj "list" #[] 0)).update s.heap.objs.size (Obj.mapSeq (· ++ its.toArray))).push (seqObj "list" its.toArray 0)).objs.size = s.heap.objs.size + 2 := by
    rw [size_push', hsz]
  generalize hG : ((s.heap.push (seqObj "list" #[] 0)).update s.heap.objs.size (Obj.mapSeq (· ++ its.toArray))).push (seqObj "list" its.toArray 0) = G at hoL keep hsz2 ⊢
  generalize ha : s.heap.objs.size + 1 = a at hoL ⊢
  refine wpAny_bind (wpAny_holding (wpAny_call_entry_kw slot_list_sort ⟨_, hoL, rfl⟩ entry_list_sort ?body (ksk_l1 _ _)))
  case body =>
    show wpAny (model X.prog X.w) X.A.in1.in1 (Builtin.«list.sort» ⟨[.ref a], [(Str.ofString "key", .ref fa)]⟩) _ _ _
    rw [ksk_t1]
    have haG : a < G.objs.size := Heap.lt_size hoL
    have s1 := Heap.SameBut.update G a (Obj.mapSeq fun _ => (#[] : Array Value))
    obtain ⟨e1, ho1⟩ : ∃ e1, (G.update a (Obj.mapSeq fun _ => (#[] : Array Value))).get? a = some (seqObj "list" #[] e1) := ⟨_, get?_update_seq hoL fun _ => #[]⟩
    have hkS : ((G.update a (Obj.mapSeq fun _ => (#[] : Array Value))).push (seqObj "tuple" its.toArray 0)).objs.size = s.heap.objs.size + 3 := by rw [size_push', Heap.size_update, hsz2]
    unfold ksk_tree
    refine wpAny_bind (listItems_at hoL rfl ?_)
    refine wpAny_bind (listUpdate_at hoL rfl ?_ (by rw [List.size_toArray]; exact hzi) (Nat.zero_le _))
    refine wpAny_bind (seqEpoch_at ho1 rfl ?_)
    refine wpAny_bind (wpAny_newTuple ?_ (by show its.length ≤ _; exact hzi))
    refine wpAny_bind (wpAny_newList ?_ (Nat.zero_le _))
    refine wpAny_holding ?_
    have hka : s.heap.objs.size + 3 ≠ a := by omega
    show wpAny _ _ _ _ _ { s with heap := ((G.update a (Obj.mapSeq fun _ => (#[] : Array Value))).push (seqObj "tuple" its.toArray 0)).push (seqObj "list" #[] 0) }
    rw [hkS]
    have old : ∀ b o, s.heap.get? b = some o → (((G.update a (Obj.mapSeq fun _ => (#[] : Array Value))).push (seqObj "tuple" its.toArray 0)).push (seqObj "list" #[] 0)).get? b = some o := fun b o e =>
      Heap.get?_push_of_some _ (Heap.get?_push_of_some _ ((s1.2 b (Nat.ne_of_lt (Nat.lt_of_lt_of_le (Heap.lt_size e) (by rw [← ha]; exact Nat.le_succ _)))).trans (keep b o e)))
    refine keys_made (X := X) (H := H) (s := s) (kS := s.heap.objs.size + 3) (a := a) (e1 := e1) (xs := xs) (kt := ktOf k) (H0 := H) I rv hzi hfa nfa ffa (by omega) (by omega) hka turn 0 ?_ ?_
    · refine ⟨Un.kept old, I.hok.kept old, rfl, I.bare, ?_, I.hok.fresh (by omega), ?_, I.hok.fresh (by omega), fun _ _ e => e, rfl, fun j u hu => absurd hu (by simp)⟩
      · rw [← hkS]
        exact Heap.get?_push_size _ rfl
      · exact Heap.get?_push_of_some _ (Heap.get?_push_of_some _ ho1)
    · intro H' kl e s' K
      refine keyed_end K rv hzi hka (by show X.A.units + 1 + 1 < cLine; omega) hx fun ps hp hsr => ?_
      obtain ⟨f1, f2, f3⟩ := items_srtd K rv hx hp hsr
      refine ⟨_, rfl, wpAny_pure ?_⟩
      -- the end: the new list is tracked
      have t1 := Heap.SameBut.update s'.heap (s.heap.objs.size + 3) (Obj.mapSeq fun _ => (#[] : Array Value))
      have na1 : (s'.heap.update (s.heap.objs.size + 3) (Obj.mapSeq fun _ => (#[] : Array Value))).get? a = some (seqObj "list" #[] e1) := (t1.2 a hka.symm).trans K.ha
      have t2 := Heap.SameBut.update (s'.heap.update (s.heap.objs.size + 3) (Obj.mapSeq fun _ => (#[] : Array Value))) a (Obj.mapSeq fun _ => (ps.map (·.2)).toArray)
      obtain ⟨c2, hc2⟩ : ∃ c2, ((s'.heap.update (s.heap.objs.size + 3) (Obj.mapSeq fun _ => (#[] : Array Value))).update a (Obj.mapSeq fun _ => (ps.map (·.2)).toArray)).get? a = some (seqObj "list" (ps.map (·.2)).toArray c2) :=
        ⟨_, get?_update_seq na1 fun _ => (ps.map (·.2)).toArray⟩
      generalize hF : ((s'.heap.update (s.heap.objs.size + 3) (Obj.mapSeq fun _ => (#[] : Array Value))).update a (Obj.mapSeq fun _ => (ps.map (·.2)).toArray)) = F at t2 hc2 ⊢
      have other : ∀ b, b ≠ a → b ≠ s.heap.objs.size + 3 → F.get? b = s'.heap.get? b := fun b h1 h2 => (t2.2 b h1).trans (t1.2 b h2)
      have sm : ∀ b o, s.heap.get? b = some o → b ≠ a ∧ b ≠ s.heap.objs.size + 3 := fun b o e =>
        ⟨Nat.ne_of_lt (Nat.lt_of_lt_of_le (Heap.lt_size e) (by rw [← ha]; exact Nat.le_succ _)), Nat.ne_of_lt (Nat.lt_of_lt_of_le (Heap.lt_size e) (Nat.le_add_right _ 3))⟩
      have trk : ∀ b o, H' b = some o → b ≠ a ∧ b ≠ s.heap.objs.size + 3 := fun b o e => ⟨(fun z => by rw [z, K.na] at e; cases e), (fun z => by rw [z, K.nk] at e; cases e)⟩
      have un : Un (frs X.stack) [] H (upd H' a (.lst (ps.map fun p => backV p.2))) s.heap F := {
        keep := fun b o q n hb hx' => (other b (sm b o q).1 (sm b o q).2).trans (K.un.keep b o q n hb hx')
        slot := fun b o q n hb hx' => by
          obtain ⟨sl, q2⟩ := K.un.slot b o q n hb hx'
          exact ⟨sl, (other b (sm b o q).1 (sm b o q).2).trans q2⟩
        free := fun b o q n hx' => by rw [upd_ne (sm b o q).1]; exact K.un.free b o q n hx'
        there := fun b o q hx' => by
          obtain ⟨o', q2⟩ := K.un.there b o q hx'
          exact ⟨o', (other b (sm b o q).1 (sm b o q).2).trans q2⟩
        tups := fun b ys q => by
          have q2 := K.un.tups b ys q
          rw [upd_ne (trk b _ q2).1]
          exact q2
        frzs := fun b o u q => by
          have q2 := K.un.frzs b o u q
          rw [upd_ne (trk b _ q2).1]
          exact q2
        tbls := fun b ts q => by
          obtain ⟨more, q2⟩ := K.un.tbls b ts q
          exact ⟨more, by rw [upd_ne (trk b _ q2).1]; exact q2⟩ }
      have hlen : (ps.map fun p => backV p.2).length ≤ sizeLine := by rw [f2.length_eq]; exact hz
      have vb : Vals (ps.map fun p => backV p.2) (ps.map (·.2)) := by
        have := vals_back f3
        rw [List.map_map] at this
        exact this
      have hok : HOk X.prog X.w (upd H' a (.lst (ps.map fun p => backV p.2))) F := fun b o e' => by
        by_cases hb : b = a
        · subst hb
          rw [upd_same] at e'
          cases e'
          exact ⟨hlen, _, c2, vb, hc2⟩
        · rw [upd_ne hb] at e'
          refine (K.hok b o e').stay (fun c w2 hc q2 => ?_) (fun c q2 => by rw [upd_ne (trk c _ q2).1]; exact q2) fun c zs q2 => by rw [upd_ne (trk c _ q2).1]; exact q2
          rcases hc with z | z
          · rw [z]
            exact (other b (trk b o e').1 (trk b o e').2).trans (by rw [← z]; exact q2)
          · exact (other c (trk c _ z).1 (trk c _ z).2).trans q2
      have J : Inv X pins σ (upd H' a (.lst (ps.map fun p => backV p.2))) { s' with heap := F } := I.call' (s' := { s' with heap := F }) (ch := []) K.os un hok K.bare (fun b z => absurd z (by simp))
      refine ⟨_, rfl, .ref a, _, J, rfl, q _ a _ f2 f1 (fun b o e' => ?_) (I.hok.fresh (by omega)) upd_same⟩
      have e2 := K.ex b o e'
      rw [upd_ne (trk b o e2).1]
      exact e2
end
end Rw
end T_SA

section T_SB
set_option Elab.async false
set_option linter.all false
set_option maxRecDepth 100000
set_option maxHeartbeats 4000000
namespace Rw
open PySem PySem.Spec PyProof.Rows L2 SrtO LamX
/-- the context of a lambda's body with one parameter, entered at s from the frames outer -/
def lam1Cx (X : Cx) (A : Around) (outer : List Env) (s : Shared) (H : Hp) (scope : Scope) (f c' : Addr) (n : Str) : Cx where
  prog := X.prog
  w := X.w
  K := X.K
  mg := X.mg
  base := X.base
  A := A.deeper (lamEnv X scope s.heap.objs.size f c')
  N := [n]
  s_0 := s
  H_0 := H
  env := lamEnv X scope s.heap.objs.size f c'
  outer := outer
  stack := lamEnv X scope s.heap.objs.size f c' :: outer
  ex := []
  fn := fun _ => false
  calm := true
  pn := []
  xe := fun e s' => wpAny (model X.prog X.w) (A.deeper (lamEnv X scope s.heap.objs.size f c')) (leaving (lamEnv X scope s.heap.objs.size f c') e) (fun _ _ => False) (fun _ _ => False) s'
/-- no name of the lambda is a cell or captured -/
structure Lam1S (scope : Scope) (n : Str) : Prop where
  kind : scope.kind = .function
  co : scope.isCoroutine = false
  gen : scope.isGenerator = false
  own : ∀ y ∈ scope.names, y.2 ≠ .cell ∧ y.2 ≠ .free
  par : scope.names.lookup n = some .local
theorem clo_nil {cells : List (Str × Addr)} : ∀ {l : List (Str × NameKind)}, (∀ y ∈ l, y.2 ≠ .cell ∧ y.2 ≠ .free) → ∀ {y c}, (cloFrom cells l []).lookup y = some c → False := fun {l} h {y c} e => by
  rcases cloFrom_mem (PySem.mem_of_lookup e) with hm | ⟨h1, _⟩
  · cases hm
  · exact (h _ h1).2 rfl
section
variable {X : Cx} {H : Hp} {s1 : Shared}
theorem lam1_start {A : Around} {outer : List Env} {scope : Scope} {n : Str} {f c' : Addr} {h₁ : Heap} {tk : Nat} {x : V} {v : Value} (L : Lam1S scope n) (e0 : Env0 X.prog X.w X.K X.mg X.base A outer s1 H) (hd : A.handled = none) (rx : RelV x v)
    (hns : h₁.Ns s1.heap.objs.size fun y => ([(n, v)] : List (Str × Value)).reverse.lookup y) (kp : ∀ b o, s1.heap.get? b = some o → h₁.get? b = some o) :
    Inv (lam1Cx X A outer s1 H scope f c' n) [] [some x] H { s1 with heap := h₁, toks := tk } := by
  have noA : ∀ b : Addr, b ∉ (lam1Cx X A outer s1 H scope f c' n).ex := fun b z => absurd (show b ∈ ([] : List Addr) from z) (by simp)
  refine ⟨⟨e0.mod, L.kind, rfl, rfl, Nat.le_refl _, fun y z c e1 e2 => (clo_nil L.own e1).elim, fun y hy => ?_, fun y c z _ => ?_, fun _ => hd, Around.frames_deeper e0.frames, .inr ⟨rfl, rfl⟩, fun b z => absurd z (noA b), e0.bs, e0.bsz, fun b _ _ => noA b,
      fun b z => absurd z (noA b), e0.funs, e0.frf⟩,
    rfl, e0.bare, Un.kept kp, ⟨_, hns, fun i y v' e1 e2 e3 => ?_⟩, fun y c e => (clo_nil L.own e).elim, e0.hok.fresh (Nat.le_refl _), fun y c e => (clo_nil L.own e).elim, fun q hq => absurd (show q ∈ ([] : List (Addr × Obj)) ++ [] from hq) (by simp), e0.hok.kept kp, rfl⟩
  · have hy : scope.names.lookup y = some .cell ∨ scope.names.lookup y = some .free := hy
    rcases hy with hy | hy
    · exact absurd rfl (L.own _ (PySem.mem_of_lookup hy)).1
    · exact absurd rfl (L.own _ (PySem.mem_of_lookup hy)).2
  · have z : false = true := z
    cases z
  · have e1 : [n][i]? = some y := e1
    cases i with
    | zero =>
      cases e1
      cases e2
      exact ⟨v, rx, .inl ⟨L.par, by simp [List.lookup]⟩⟩
    | succ i => cases e1
/-- the lambda called with one value -/
theorem lam1_call {pins : List (Addr × Obj)} {σ : L2.St} {s : Shared} {A : Around} {f c' : Addr} {k : Nat} {params : Arguments} {body : Expr} {scope : Scope} {n : Str} {pm ctv : Value} {tb : TE} {x : V} {v : Value} {Q : VK} {fo : Obj}
    (I : Inv X pins σ H s) (L : Lam1S scope n) (efo : fo = PySem.W.kla_obj "<lambda>" (X.env.qual ++ "<lambda>") params body scope (cloFrom X.env.cells scope.names []) pm c' ctv) (hf : s.heap.get? f = some fo) (hc : H c' = some (CodeO c' (X.env.qual ++ "<lambda>")))
    (hbind : bindArgs (PySem.W.kla_fn "<lambda>" (X.env.qual ++ "<lambda>") params body scope (cloFrom X.env.cells scope.names []) pm (.ref c') ctv) ⟨[v], []⟩ = pure [(n, v)])
    (hA : A.frames = some X.stack) (hr : Room (k + 1) A) (rx : RelV x v)
    (hbody : ∀ (A : Around) (outer : List Env) (s : Shared) (H : Hp), Room k (A.deeper (lamEnv X scope s.heap.objs.size f c')) → PE (lam1Cx X A outer s H scope f c' n) body tb) (h : tb [some x] H Q) :
    wpAny (model X.prog X.w) A (call (.ref f) [v]) (CE X.stack X.prog X.w H s Q) (fun _ _ => False) s := by
  have e0 : Env0 X.prog X.w X.K X.mg X.base A X.stack s H := ⟨hA, I.env0.mod, I.env0.bs, I.env0.bsz, I.env0.funs, I.env0.frf, I.env0.hok, I.env0.bare⟩
  obtain ⟨⟨oc, vs, t, hoc, hdc, hvc⟩, _, _⟩ := I.hok c' _ hc
  subst efo
  have rc : codeAny (model X.prog X.w) A (.call (.ref f) ⟨[v], []⟩) (CR C8.CX0 X.stack X.prog X.w H s Q C8.E0) s := by
    refine PySem.W.kla_callFunE hr.depth hf rfl L.co L.gen rfl ⟨c', oc, vs, t, rfl, hoc, hdc, hvc⟩ ?_
    rw [hbind]
    refine wpAny_pure (wpAny_newFunctionEnv (fun y hy => (L.own y hy).1) (fun y hy => ?_) (fun h₁ hns hsb => ⟨I.nolimit.fresh _ hsb, ?_⟩) L.kind)
    · rw [List.mem_singleton.mp hy]
      exact L.par
    · show codeAny _ _ (.expr body (lamEnv X scope s.heap.objs.size f c')) _ _
      have kp : ∀ b o, s.heap.get? b = some o → h₁.get? b = some o := fun b o e => hsb.extBut b o (Nat.ne_of_lt (Heap.lt_size e)) (Heap.get?_push_of_some _ e)
      have J : Inv (lam1Cx X A X.stack s H scope f c' n) [] [some x] H { s with heap := h₁, toks := s.toks + ([(n, v)] : List (Str × Value)).length } := lam1_start L e0 hr.hd rx hns kp
      refine PySem.W.kla_codeExpr (wpAny_mono ((hbody _ _ s H (hr.deeper _)).run [] _ _ H Q J h) (fun u s' hq => ?_) fun e s' hq => ?_)
      · obtain ⟨w', H', J', rv, q⟩ := hq
        exact ⟨w', H', J'.os, J'.bare, J'.base, J'.hok, rv, q⟩
      · exact wpAny_mono hq (fun _ _ z => z.elim) fun _ _ z => z.elim
  refine wpAny_call (codeAny_mono rc fun r s' hq => ?_)
  cases r with
  | error e => exact (show False from hq).elim
  | ok fl =>
    cases fl with
    | ret u => exact hq
    | next => exact False.elim hq
    | brk => exact False.elim hq
    | cont => exact False.elim hq
/-- sorted(e, key=lambda n: body) where the body makes the pair of the item's length and itself -/
theorem pe_sortedLam {T : List (Addr × Str)} {c P : Addr} {k : Nat} {params : Arguments} {body : Expr} {scope : Scope} {n : Str} {e : Expr} {te tb : TE} {p lpos kpos pos : Pos}
    (hg : Gl X "sorted") (hm : X.mg "sorted" = none) (he : PE X e te) (TB : TabB X.base X.mg c P) (hcode : X.env.code = .ref c) (hmT : (P, X.env.qual ++ "<lambda>") ∈ T) (hu : ∀ p ∈ T, p.1 = P → p.2 = X.env.qual ++ "<lambda>") (hr : Room (k + 3) X.A) (L : Lam1S scope n)
    (hdef : defaultsOf params X.env = ([], []))
    (hbind : ∀ (q : Str) (cl : List (Str × Addr)) (pm cv ctv v : Value), bindArgs (PySem.W.kla_fn "<lambda>" q params body scope cl pm cv ctv) ⟨[v], []⟩ = pure [(n, v)])
    (hbody : ∀ (A : Around) (outer : List Env) (s : Shared) (H : Hp) (f c' : Addr), Room k (A.deeper (lamEnv X scope s.heap.objs.size f c')) → PE (lam1Cx X A outer s H scope f c' n) body tb)
    (htb : ∀ (x : V) (b : Addr) (zs : List Str) (H : Hp) (Q : VK), x = .ref b → H b = some (.tup (zs.map V.str)) → (∀ p, H p = none → Q (.ref p) (upd H p (.tup [.int (zs.length : Int), x]))) → tb [some x] H Q)
    (hstar : starEach [e] X.env = (false, eval e X.env) :: starEach [] X.env := by rfl) :
    PE X (.Call (.Name "sorted" p) [e] [⟨some "key", .Lambda params body scope lpos, kpos⟩] pos)
      (fun σ H Q => te σ H fun v H1 => ∃ (l : Addr) (xs : List V) (kf : V → List Str), v = .ref l ∧ H1 l = some (.lst xs) ∧ (∀ x ∈ xs, ∃ b, x = V.ref b ∧ H1 b = some (.tup ((kf x).map V.str))) ∧ Tabs T H1 ∧
        ∀ (ys : List V) (r : Addr) (H2 : Hp), ys.Perm xs → Srtd (fun x y => numRow (lenRow kf x) (lenRow kf y)) ys → ExtN H1 H2 → Tabs T H2 → (∀ b o, H1 b = some o → (∀ ps, o ≠ .tbl ps) → b ≠ r) → H2 r = some (.lst ys) → Q (.ref r) H2) := by
  refine ⟨fun pins s σ H Q I h => ?_⟩
  refine wpAny_Call_Name_kw (ld_blt I hg hm boot_sorted ?_ (by decide) (by decide))
  refine PyProof.Rows.callWith_kw ?_ (by rw [hstar]; rfl) (by rw [hstar]; rfl) rfl rfl
  rw [hstar]
  show wpAny _ _ (spliced ((false, eval e X.env) :: backTo pos (starEach [] X.env))) _ _ s
  refine Calls.spliced_cons (thn (he.run pins s σ H _ I h) fun u s1 ⟨v, H1, I1, r1, l, xs, kf, ev, hl, hx, hT, q⟩ => ?_)
  subst ev
  obtain rfl : u = Value.ref l := r1
  refine Calls.spliced_nil ?_
  show wpAny _ _ (evalAll ((do let v ← eval (.Lambda params body scope lpos) X.env; standAt pos; pure v) :: (backToKw pos (keywordEach [] X.env)).map (·.2))) _ _ s1
  have hfree : ∀ y ∈ scope.names, y.2 = .free → ∃ c, X.env.cells.lookup y.1 = some c := fun y hy z => absurd z (L.own y hy).2
  refine wpAny_evalAll_cons (wpAny_bind (lam_make2 I1 TB hcode hmT hu hT hdef hfree fun f c' pm ctv H2 s2 I2 eN T2 hf hfn hfr hco => wpAny_bind (wpAny_standAt (wpAny_pure ?_))))
  refine wpAny_evalAll_nil ?_
  show wpAny _ _ (call (.builtin "sorted") [.ref l] [(Str.ofString "key", .ref f)]) _ _ s2
  have up : ∀ {b : Addr} {o : HO}, H1 b = some o → (∀ ps, o ≠ .tbl ps) → H2 b = some o := fun {b o} e n => eN b o e n
  have tup_ne : ∀ (xs : List V) (ps : Array Value), HO.tup xs ≠ .tbl ps := fun _ _ z => by cases z
  have lst_ne : ∀ (xs : List V) (ps : Array Value), HO.lst xs ≠ .tbl ps := fun _ _ z => by cases z
  have hx2 : ∀ x ∈ xs, ∃ b, x = V.ref b ∧ H2 b = some (.tup ((kf x).map V.str)) := fun x hm => by
    obtain ⟨b, e1, e2⟩ := hx x hm
    exact ⟨b, e1, up e2 (tup_ne _)⟩
  refine sorted_key (k := kf) I2 (Evl.sq_of (up hl (lst_ne _))) hx2 hf hfn hfr (by have := hr.units; omega) (fun j x v H' s' hj rx I' eX hf' hfn' => ?_) (fun ys r H' hp hsr eX hn hr' => ?_)
  · obtain ⟨b, rfl, hb⟩ := hx2 x (List.mem_of_getElem? hj)
    refine lam1_call (A := X.A.in1.in1) (k := k) I' L rfl hf' (eX _ _ hco) (hbind _ _ _ _ _ _) I'.ok.frames (by exact (hr.in1).in1) rx (fun A outer s H hr2 => hbody A outer s H f c' hr2) ?_
    exact htb _ b (kf (.ref b)) H' _ rfl (eX _ _ hb) fun p hp => ⟨p, rfl, hp, rfl⟩
  · refine q ys r H' hp hsr (fun b o e n => eX b o (eN b o e n)) (T2.ext eX) (fun b o e n z => ?_) hr'
    have e2 := eN b o e n
    rw [z, hn] at e2
    cases e2
end
end Rw
end T_SB

section T_TU
set_option Elab.async false
set_option linter.all false
set_option maxRecDepth 100000
set_option maxHeartbeats 4000000
namespace Rw
open PySem L2 PyProof.Rows LamX
/-! ### the heap without the tables of code objects -/
def nt (H : Hp) : Hp := fun a => match H a with
  | some (.tbl _) => none
  | o => o
theorem nt_some {H : Hp} {a : Addr} {o : HO} (h : nt H a = some o) : H a = some o ∧ ∀ ps, o ≠ .tbl ps := by
  unfold nt at h
  cases e : H a with
  | none => rw [e] at h; cases h
  | some u =>
    rw [e] at h
    cases u with
    | tbl ps => cases h
    | _ => cases h; exact ⟨rfl, fun _ z => by cases z⟩
theorem nt_of {H : Hp} {a : Addr} {o : HO} (h : H a = some o) (n : ∀ ps, o ≠ .tbl ps) : nt H a = some o := by
  unfold nt
  rw [h]
  cases o with
  | tbl ps => exact absurd rfl (n ps)
  | _ => rfl
theorem nt_free {H : Hp} {a : Addr} (h : H a = none) : nt H a = none := by
  unfold nt
  rw [h]
theorem ex_nt (H : Hp) : Evl.Ex (nt H) H := fun a o h => (nt_some h).1
theorem nt_ex {H H' : Hp} (e : Evl.Ex H H') : Evl.Ex (nt H) (nt H') := fun a o h => nt_of (e a o (nt_some h).1) (nt_some h).2
theorem nt_ext {H H' : Hp} (e : ExtN H H') : Evl.Ex (nt H) (nt H') := fun a o h => nt_of (e a o (nt_some h).1 (nt_some h).2) (nt_some h).2
theorem nt_tup {H : Hp} {a : Addr} {xs : List V} (h : H a = some (.tup xs)) : nt H a = some (.tup xs) := nt_of h fun _ z => by cases z
theorem nt_lst {H : Hp} {a : Addr} {xs : List V} (h : H a = some (.lst xs)) : nt H a = some (.lst xs) := nt_of h fun _ z => by cases z
theorem nt_dK {H : Hp} {a : Addr} {xs : List (Key × V)} (h : H a = some (.dK xs)) : nt H a = some (.dK xs) := nt_of h fun _ z => by cases z
theorem nt_new {H : Hp} {p : Addr} {o : HO} (h : H p = none) : Evl.Ex (nt H) (nt (upd H p o)) := nt_ex (Evl.Ex.new h)
/-! ### tuples of names, by their addresses -/
def RowsT (H : Hp) (L : List (Addr × List Str)) : Prop := ∀ q ∈ L, H q.1 = some (.tup (q.2.map V.str))
theorem RowsT.to {H H' : Hp} {L : List (Addr × List Str)} (h : RowsT H L) (x : Evl.Ex H H') : RowsT H' L := fun q hq => x _ _ (h q hq)
theorem RowsT.nt {H : Hp} {L : List (Addr × List Str)} (h : RowsT H L) : RowsT (nt H) L := fun q hq => nt_tup (h q hq)
theorem RowsT.app {H : Hp} {L M : List (Addr × List Str)} (h : RowsT H L) (g : RowsT H M) : RowsT H (L ++ M) := fun q hq => (List.mem_append.mp hq).elim (h q) (g q)
theorem RowsT.mut {H : Hp} {L : List (Addr × List Str)} {p : Addr} {xs ys : List V} (h : RowsT H L) (hp : H p = some (.lst xs)) : RowsT (upd H p (.lst ys)) L := fun q hq => by
  rw [upd_ne (fun z => by have e := h q hq; rw [z, hp] at e; cases e)]
  exact h q hq
theorem rowsT_at {L : List (Addr × List Str)} {i : Nat} {x : V} (h : (L.map fun q => V.ref q.1)[i]? = some x) : ∃ q, L[i]? = some q ∧ x = .ref q.1 := by
  rw [List.getElem?_map] at h
  cases e : L[i]? with
  | none => rw [e] at h; cases h
  | some q => rw [e] at h; exact ⟨q, rfl, (Option.some.inj h).symm⟩
/-- the row that a tuple at a value tells -/
def rowAt (H : Hp) : V → List Str
  | .ref b => match H b with
    | some (.tup vs) => unS vs
    | _ => []
  | _ => []
theorem rowAt_of {H : Hp} {b : Addr} {zs : List Str} (h : H b = some (.tup (zs.map V.str))) : rowAt H (.ref b) = zs := by
  unfold rowAt
  simp only [h, unS_strs]
def addrOf : V → Addr
  | .ref a => a
  | _ => (0 : Nat)
/-- a list of such tuples in another order -/
theorem rowsT_perm {H : Hp} {L : List (Addr × List Str)} {ys : List V} (hL : RowsT H L) (hp : ys.Perm (L.map fun q => V.ref q.1)) :
    ∃ M : List (Addr × List Str), ys = M.map (fun q => V.ref q.1) ∧ RowsT H M ∧ (M.map (·.2)).Perm (L.map (·.2)) ∧ M.map (·.2) = ys.map (rowAt H) := by
  have all : ∀ y ∈ ys, ∃ q ∈ L, y = .ref q.1 := fun y hy => by
    obtain ⟨q, hq, e⟩ := List.mem_map.mp (hp.mem_iff.mp hy)
    exact ⟨q, hq, e.symm⟩
  have e2 : ys = (ys.map fun y => (addrOf y, rowAt H y)).map (fun q => V.ref q.1) := by
    rw [List.map_map]
    refine (List.map_congr_left fun y hy => ?_).trans (List.map_id ys) |>.symm
    obtain ⟨q, _, rfl⟩ := all y hy
    rfl
  have e3 : (ys.map fun y => (addrOf y, rowAt H y)).map (·.2) = ys.map (rowAt H) := by rw [List.map_map]; rfl
  refine ⟨ys.map fun y => (addrOf y, rowAt H y), e2, fun q hq => ?_, ?_, e3⟩
  · obtain ⟨y, hy, rfl⟩ := List.mem_map.mp hq
    obtain ⟨q', hq', rfl⟩ := all y hy
    have h := hL q' hq'
    show H q'.1 = some (.tup ((rowAt H (.ref q'.1)).map V.str))
    rw [rowAt_of h]
    exact h
  · rw [e3]
    have h1 := hp.map (rowAt H)
    rw [List.map_map] at h1
    have h2 : L.map (rowAt H ∘ fun q => V.ref q.1) = L.map (·.2) := List.map_congr_left fun q hq => rowAt_of (hL q hq)
    rw [h2] at h1
    exact h1
/-! ### a def whose code object is known -/
structure FunC (K : PySem.W.Frag) (x qual : Str) (st : Stmt) (f : Addr) (fd : FuncData) (c : Addr) : Prop where
  ex : ∃ (oc : Value) (od : Option Addr) (kV doc pm : Value) (an : Option Addr) (ct : Value) (osl : Array (Option Value)),
    fd = PySem.W.fnOf x qual (defArgs st) (defBody st) (defScope st) .none kV doc pm an (.ref c) ct ∧ K.lookup f = some ⟨oc, od, .func fd, osl⟩ ∧ PySem.W.codeIn K (.ref c) qual = true
  kp : PySem.W.keepIn K (.ref f) = true
section
variable {P : Program} {w : World} {K : PySem.W.Frag} {mg : Str → Option Value} {base : Heap}
theorem FunC.fn {x qual : Str} {st : Stmt} {f c : Addr} {fd : FuncData} (F : FunC K x qual st f fd c) : Fun K x qual st f fd := by
  obtain ⟨oc, od, kV, doc, pm, an, ct, osl, e, l, h⟩ := F.ex
  exact ⟨⟨oc, od, kV, doc, pm, an, _, ct, osl, e, l, h⟩, F.kp⟩
theorem FunC.ok {x qual : Str} {st : Stmt} {f c : Addr} {fd : FuncData} {N ps : List Str} {k : Nat} {sp : Sp} (F : FunC K x qual st f fd c) (S : FnScope N ps (defScope st)) (len : ∀ vs H Q E, sp vs H Q E → vs.length = ps.length)
    (hbody : ∀ (A : Around) (outer : List Env) (s : Shared) (H : Hp) (vs : List V) (Q : VK) (E : XK), Room k (A.deeper (envOfC qual (defScope st) s.heap.objs.size f (.ref c))) → sp vs H Q E →
      ∃ t, PSs (cxOf CX0 P w K mg base N qual (defScope st) f (.ref c) A outer s H E).nox (defBody st) t ∧ t { nx := fun _ H' => Q .non H', rt := Q } (L2.start N vs) H) : FnOk P w K mg base CX0 (k + 1) f fd ps sp := by
  obtain ⟨oc, od, kV, doc, pm, an, ct, osl, rfl, lk, hcd⟩ := F.ex
  refine fn_of lk hcd S len fun A outer s H vs Q E hr hsp => ?_
  obtain ⟨t, h, q⟩ := hbody A outer s H vs Q E hr hsp
  exact ⟨t, h.nox, q⟩
end
/-! ### all parts of a row -/
def parts0 (zs : List Str) : List (List Str) := zs.foldl (fun ps z => ps ++ ps.map fun p => p ++ [z]) [[]]
theorem parts0_snoc (zs : List Str) (z : Str) : parts0 (zs ++ [z]) = parts0 zs ++ (parts0 zs).map fun p => p ++ [z] := by
  unfold parts0
  rw [List.foldl_append]
  rfl
theorem parts0_len : ∀ n (zs : List Str), zs.length = n → (parts0 zs).length = 2 ^ n := by
  intro n
  induction n with
  | zero =>
    intro zs h
    rw [List.length_eq_zero_iff.mp h]
    rfl
  | succ n ih =>
    intro zs h
    rcases List.eq_nil_or_concat zs with rfl | ⟨r, z, rfl⟩
    · cases h
    · rw [List.concat_eq_append, List.length_append] at h
      rw [List.concat_eq_append, parts0_snoc, List.length_append, List.length_map, ih r (by simpa using h), Nat.pow_succ]
      omega
theorem parts0_sub : ∀ {zs : List Str} {p : List Str}, p ∈ parts0 zs → p.Sublist zs := by
  have main : ∀ n (zs : List Str), zs.length = n → ∀ p ∈ parts0 zs, p.Sublist zs := by
    intro n
    induction n with
    | zero =>
      intro zs h p hp
      rw [List.length_eq_zero_iff.mp h] at hp ⊢
      rw [List.mem_singleton.mp hp]
      exact List.Sublist.refl _
    | succ n ih =>
      intro zs h p hp
      rcases List.eq_nil_or_concat zs with rfl | ⟨r, z, rfl⟩
      · cases h
      · rw [List.concat_eq_append] at h hp ⊢
        rw [parts0_snoc] at hp
        have hl : r.length = n := by rw [List.length_append] at h; simpa using h
        rcases List.mem_append.mp hp with hp | hp
        · exact (ih r hl p hp).trans (List.sublist_append_left _ _)
        · obtain ⟨q, hq, rfl⟩ := List.mem_map.mp hp
          exact (ih r hl q hq).append (List.Sublist.refl _)
  exact fun {zs p} h => main _ zs rfl p h
theorem parts0_has : ∀ {zs : List Str} {p : List Str}, p.Sublist zs → p ∈ parts0 zs := by
  have main : ∀ n (zs : List Str), zs.length = n → ∀ p, p.Sublist zs → p ∈ parts0 zs := by
    intro n
    induction n with
    | zero =>
      intro zs h p hp
      rw [List.length_eq_zero_iff.mp h] at hp ⊢
      rw [List.sublist_nil.mp hp]
      exact List.mem_singleton.mpr rfl
    | succ n ih =>
      intro zs h p hp
      rcases List.eq_nil_or_concat zs with rfl | ⟨r, z, rfl⟩
      · cases h
      · rw [List.concat_eq_append] at h hp ⊢
        have hl : r.length = n := by rw [List.length_append] at h; simpa using h
        rw [parts0_snoc]
        obtain ⟨p1, p2, rfl, h1, h2⟩ := List.sublist_append_iff.mp hp
        rcases List.sublist_cons_iff.mp h2 with h3 | ⟨r', rfl, h3⟩
        · rw [List.sublist_nil.mp h3, List.append_nil]
          exact List.mem_append_left _ (ih r hl p1 h1)
        · rw [List.sublist_nil.mp h3]
          exact List.mem_append_right _ (List.mem_map_of_mem (ih r hl p1 h1))
  exact fun {zs p} h => main _ zs rfl p h
end Rw
end T_TU

section T_PB
set_option Elab.async false
set_option linter.all false
set_option maxRecDepth 100000
set_option maxHeartbeats 4000000
namespace Rw
open PySem L2 PyProof.Rows
section
variable {P : Program} {w : World} {K : PySem.W.Frag} {mg : Str → Option Value} {base : Heap}
def spSources (C : Addr) : Sp := fun vs H Q _ => ∃ (m : Addr) (ends dots ss ps : List Str) (o n : Str → List (Str × V)), vs = [.ref m] ∧ NetAt C H m ends dots ss ps o n ∧ ∀ p, H p = some (.tup (ss.map V.str)) → Q (.ref p) H
def spPosts (C : Addr) : Sp := fun vs H Q _ => ∃ (m : Addr) (ends dots ss ps : List Str) (o n : Str → List (Str × V)), vs = [.ref m] ∧ NetAt C H m ends dots ss ps o n ∧ ∀ p, H p = some (.tup (ps.map V.str)) → Q (.ref p) H
theorem sc_sources : FnScope ["self"] ["self"] (defScope c_Net_sources) := ⟨rfl, rfl, rfl, by decide +kernel, rfl, by decide +kernel, by decide +kernel⟩
theorem sc_posts : FnScope ["self"] ["self"] (defScope c_Net_posts) := ⟨rfl, rfl, rfl, by decide +kernel, rfl, by decide +kernel, by decide +kernel⟩
theorem ok_sources {f C : Addr} {fd : FuncData} (F : Fun K "sources" "Net.sources" c_Net_sources f fd) (T : NetTxt K C) : FnOk P w K mg base CX0 1 f fd ["self"] (spSources C) := by
  refine F.ok sc_sources (fun vs H Q E h => ?_) (fun cdv A outer s H vs Q E hr h => ?_)
  · obtain ⟨m, ends, dots, ss, ps, o, n, rfl, _⟩ := h
    rfl
  · obtain ⟨m, ends, dots, ss, ps, o, n, rfl, N, k⟩ := h
    refine ⟨_, pss_one (ps_ret (pe_fld (pv 0) rfl)), ?_⟩
    obtain ⟨dx, T', N', S, Po, rows, h1, h2, h3, h4, h5, h6, h7⟩ := N.ex
    exact ⟨.ref m, rfl, m, C, dx, _, .ref S, rfl, h1, T.cl, T.nS, nflds_sources _ _ _ _, k S h4⟩
theorem ok_posts {f C : Addr} {fd : FuncData} (F : Fun K "posts" "Net.posts" c_Net_posts f fd) (T : NetTxt K C) : FnOk P w K mg base CX0 1 f fd ["self"] (spPosts C) := by
  refine F.ok sc_posts (fun vs H Q E h => ?_) (fun cdv A outer s H vs Q E hr h => ?_)
  · obtain ⟨m, ends, dots, ss, ps, o, n, rfl, _⟩ := h
    rfl
  · obtain ⟨m, ends, dots, ss, ps, o, n, rfl, N, k⟩ := h
    refine ⟨_, pss_one (ps_ret (pe_fld (pv 0) rfl)), ?_⟩
    obtain ⟨dx, T', N', S, Po, rows, h1, h2, h3, h4, h5, h6, h7⟩ := N.ex
    exact ⟨.ref m, rfl, m, C, dx, _, .ref Po, rfl, h1, T.cl, T.nP, nflds_posts _ _ _ _, k Po h5⟩
/-! ### starts -/
/-- where packets that a wish speaks of begin -/
def startsOf (wd : Str) (dots ss : List Str) : List Str := if wd = ("rings" : Str) then dots else ss
def spStarts (C : Addr) : Sp := fun vs H Q _ => ∃ (m : Addr) (wd : Str) (ends dots ss ps : List Str) (o n : Str → List (Str × V)), vs = [.ref m, .str wd] ∧ NetAt C H m ends dots ss ps o n ∧ ∀ p, H p = some (.tup ((startsOf wd dots ss).map V.str)) → Q (.ref p) H
theorem sc_starts : FnScope ["net", "wish"] ["net", "wish"] (defScope p_starts) := ⟨rfl, rfl, rfl, by decide +kernel, rfl, by decide +kernel, by decide +kernel⟩
theorem ok_starts {f C : Addr} {fd : FuncData} (F : Fun K "starts" "starts" p_starts f fd) (T : NetTxt K C) (P1 : Prp P w K mg base C 1 "nodes" (spDots C)) (P2 : Prp P w K mg base C 1 "sources" (spSources C)) : FnOk P w K mg base CX0 3 f fd ["net", "wish"] (spStarts C) := by
  obtain ⟨p1, g1, fd1, at1, F1, b1⟩ := P1.ex
  obtain ⟨p2, g2, fd2, at2, F2, b2⟩ := P2.ex
  refine F.ok sc_starts (fun vs H Q E h => ?_) (fun cdv A outer s H vs Q E hr h => ?_)
  · obtain ⟨m, wd, ends, dots, ss, ps, o, n, rfl, _⟩ := h
    rfl
  · obtain ⟨m, wd, ends, dots, ss, ps, o, n, rfl, N, k⟩ := h
    refine ⟨_, pss_one (ps_ret (pe_ifExp (pt_cmpR op_eq (pv 1) pe_str (nomark _)) (pe_prop (pv 0) T.cl at1 F1 hr b1 .nil pass0 rfl) (pe_prop (pv 0) T.cl at2 F2 hr b2 .nil pass0 rfl))), ?_⟩
    have N2 := N
    obtain ⟨dx, T', N', S, Po, rows, h1, h2, h3, h4, h5, h6, h7⟩ := N.ex
    refine ⟨.str wd, rfl, rfl, _, rfl, ite2 (fun e => ?_) (fun e => ?_)⟩
    · have ew : wd = ("rings" : Str) := by simpa using of_decide_eq_true e
      refine ⟨.ref m, rfl, m, dx, _, rfl, h1, m, ends, dots, ss, ps, o, n, rfl, N2, fun p hp => k p ?_⟩
      unfold startsOf
      rw [if_pos ew]
      exact hp
    · have ew : ¬ wd = ("rings" : Str) := fun z => by
        subst z
        exact absurd e (by decide)
      refine ⟨.ref m, rfl, m, dx, _, rfl, h1, m, ends, dots, ss, ps, o, n, rfl, N2, fun p hp => k p ?_⟩
      unfold startsOf
      rw [if_neg ew]
      exact hp
/-! ### the posts that are passed -/
def stepP (ps : List Str) (k : Nat) (v : V) : Nat := match ps[k]? with
  | some z => if v = .str z then k + 1 else k
  | none => k
def passedBy (ps : List Str) (row : List V) : Nat := row.foldl (stepP ps) 0
theorem stepP_le {ps : List Str} {k : Nat} {v : V} (h : k ≤ ps.length) : stepP ps k v ≤ ps.length := by
  unfold stepP
  cases e : ps[k]? with
  | none => exact h
  | some z =>
    have hk : k < ps.length := (List.getElem?_eq_some_iff.mp e).1
    show (if v = V.str z then k + 1 else k) ≤ _
    split <;> omega
def spPassedWith : Sp := fun vs H Q _ => ∃ (a : Addr) (ps : List Str) (k : Nat) (v : V), vs = [.ref a, .int (k : Int), v] ∧ SqT K H a (ps.map V.str) ∧ ps.length ≤ 100 ∧ k ≤ ps.length ∧ Spot v ∧ Q (.int (stepP ps k v : Int)) H
theorem sc_passed_with : FnScope ["posts", "passed", "place"] ["posts", "passed", "place"] (defScope p_passed_with) := ⟨rfl, rfl, rfl, by decide +kernel, rfl, by decide +kernel, by decide +kernel⟩
theorem ok_passed_with {f : Addr} {fd : FuncData} (F : Fun K "passed_with" "passed_with" p_passed_with f fd) (mLen : mg "len" = none) : FnOk P w K mg base CX0 1 f fd ["posts", "passed", "place"] (spPassedWith (K := K)) := by
  refine F.ok sc_passed_with (fun vs H Q E h => ?_) (fun cdv A outer s H vs Q E hr h => ?_)
  · obtain ⟨a, ps, k, v, rfl, _⟩ := h
    rfl
  · obtain ⟨a, ps, k, v, rfl, ha, few, hk, hv, q⟩ := h
    refine ⟨_, pss_one (ps_ret (pe_ifExp (PW.pt (pw_and (pt_cmpR op_lt (pv 1) (pe_callB call_len (by rfl) mLen PySem.boot_len (pa_cons (pv 0) pa_nil)) (nomark _)) (pw_and1 (pt_cmpR op_eq (pe_ix ix_tup (pv 0) (pv 1) (fun _ _ => rfl)) (pv 2) (nomark _))))) (pe_op op_add (pv 1) pe_int) (pv 1))), ?_⟩
    refine ⟨.int k, rfl, .ref a, rfl, .ref a, (ps.map V.str).length, rfl, .inr ⟨_, ha, rfl⟩, (k : Int), ((ps.map V.str).length : Int), rfl, rfl, _, rfl, ?_⟩
    by_cases lt : k < ps.length
    · rw [decide_eq_true (show (k : Int) < ((ps.map V.str).length : Int) by rw [List.length_map]; omega)]
      have gk : ps[k]? = some ps[k] := List.getElem?_eq_getElem lt
      have sc : scal (.str ps[k]) v = true := by rcases hv with rfl | ⟨y, rfl, _⟩ <;> rfl
      refine iteT ⟨.ref a, rfl, .int k, rfl, a, ps.map V.str, (k : Int), .str ps[k], rfl, rfl, ha, atI_nat (by rw [List.getElem?_map, gk]; rfl), v, rfl, sc, _, rfl, ?_⟩
      by_cases e : V.str ps[k] = v
      · rw [decide_eq_true e]
        refine iteT ⟨.int k, rfl, (k : Int), 1, rfl, rfl, ?_⟩
        have q' : stepP ps k v = k + 1 := by unfold stepP; rw [gk]; exact if_pos e.symm
        rw [q'] at q
        exact q
      · rw [decide_eq_false e]
        refine iteF ⟨.int k, rfl, ?_⟩
        have q' : stepP ps k v = k := by unfold stepP; rw [gk]; exact if_neg fun z => e z.symm
        rw [q'] at q
        exact q
    · rw [decide_eq_false (show ¬ (k : Int) < ((ps.map V.str).length : Int) by rw [List.length_map]; omega)]
      refine iteF (iteF ⟨.int k, rfl, ?_⟩)
      have q' : stepP ps k v = k := by unfold stepP; rw [List.getElem?_eq_none (by omega)]
      rw [q'] at q
      exact q
def spPostsPassed : Sp := fun vs H Q _ => ∃ (a b : Addr) (ps : List Str) (row : List V), vs = [.ref a, .ref b] ∧ SqT K H a (ps.map V.str) ∧ SqL K H b row ∧ ps.length ≤ 100 ∧ (∀ v ∈ row, Spot v) ∧ Q (.int (passedBy ps row : Int)) H
abbrev nPostsPassed : List Str := ["posts", "places", "passed", "place"]
theorem sc_posts_passed : FnScope nPostsPassed ["posts", "places"] (defScope p_posts_passed) := ⟨rfl, rfl, rfl, by decide +kernel, rfl, by decide +kernel, by decide +kernel⟩
theorem ok_posts_passed {f : Addr} {fd : FuncData} (F : Fun K "posts_passed" "posts_passed" p_posts_passed f fd) (C1 : Cal P w K mg base 1 "passed_with" ["posts", "passed", "place"] (spPassedWith (K := K))) : FnOk P w K mg base CX0 2 f fd ["posts", "places"] (spPostsPassed (K := K)) := by
  obtain ⟨f1, fd1, F1, k1, b1, g1⟩ := C1.ex
  refine F.ok sc_posts_passed (fun vs H Q E h => ?_) (fun cdv A outer s H vs Q E hr h => ?_)
  · obtain ⟨a, b, ps, row, rfl, _⟩ := h
    rfl
  · obtain ⟨a, b, ps, row, rfl, ha, hb, few, hv, q⟩ := h
    have nd := sc_posts_passed.nd
    refine ⟨_, pss_cons (ps_set (i := 2) nd rfl (.inl rfl) pe_int)
      (pss_cons (ps_for PassesOwn.never rfl (pi_list (pv 1)) (pg_name (i := 3) nd rfl (.inl rfl)) (pss_one (ps_set (i := 2) nd rfl (.inl rfl) (pe_call F1 hr rfl g1 k1 b1 .nil pass0 (pa_cons (pv 0) (pa_cons (pv 2) (pa_cons (pv 3) pa_nil)))))))
      (pss_one (ps_ret (pv 2)))), ?_⟩
    refine ⟨.ref b, rfl, b, rfl, ⟨_, hb⟩, for_list (K := K) (a := b) (xs := row)
      (fun i σ H' => H' = H ∧ ∃ (k : Nat) (x3 : Option V), σ = [some (.ref a), some (.ref b), some (.int (k : Int)), x3] ∧ k ≤ ps.length ∧ k = (row.take i).foldl (stepP ps) 0)
      ⟨rfl, 0, none, rfl, Nat.zero_le _, rfl⟩ (fun i σ H' _ h => by rw [h.1]; exact hb) ?_ ?_⟩
    · rintro i v σ H' hi ⟨rfl, k, x3, rfl, hk, ek⟩
      refine ⟨.ref a, rfl, .int k, rfl, v, rfl, a, ps, k, v, rfl, ha, few, hk, hv v (List.mem_of_getElem? hi), ?_⟩
      refine ⟨rfl, stepP ps k v, some v, rfl, stepP_le hk, ?_⟩
      rw [List.take_add_one, hi, List.foldl_append, ← ek]
      rfl
    · rintro σ H' ⟨rfl, k, x3, rfl, hk, ek⟩
      rw [List.take_length] at ek
      refine ⟨_, rfl, ?_⟩
      rw [ek]
      exact q
/-! ### breaks -/
def lastV (row : List V) : V := row.getLastD .non
def breaksB (wd e : Str) (ps : List Str) (row : List V) : Bool :=
  if wd = ("lost" : Str) then decide (lastV row = .non)
  else if wd = ("posts" : Str) then decide (lastV row = .str e) && decide (passedBy ps row < ps.length)
  else decide (lastV row ∈ row.dropLast)
end
end Rw
end T_PB

section T_PA
set_option Elab.async false
set_option linter.all false
set_option maxRecDepth 100000
set_option maxHeartbeats 4000000
namespace Rw
open PySem L2 PyProof.Rows LamX
section
variable {P : Program} {w : World} {K : PySem.W.Frag} {mg : Str → Option Value} {base : Heap}
/-- shorter rows first, then by their names -/
abbrev RowsSrt (Ls : List (List Str)) : Prop := Ls.Pairwise fun p q => numRow ((q.length : Int), q) ((p.length : Int), p) = false
def spParts (T : List (Addr × Str)) : Sp := fun vs H Q _ => ∃ (a : Addr) (zs : List Str), vs = [.ref a] ∧ SqT K H a (zs.map V.str) ∧ zs.length ≤ 6 ∧ Tabs T H ∧
  ∀ (p : Addr) (H' : Hp) (L : List (Addr × List Str)), Evl.Ex (nt H) (nt H') → Tabs T H' → H' p = some (.lst (L.map fun q => V.ref q.1)) → RowsT H' L → (L.map (·.2)).Perm (parts0 zs) → RowsSrt (L.map (·.2)) → Q (.ref p) H'
abbrev nParts : List Str := ["lot", "parts", "node", "part"]
theorem sc_parts : FnScope nParts ["lot"] (defScope p_parts_of) := ⟨rfl, rfl, rfl, by decide +kernel, rfl, by decide +kernel, by decide +kernel⟩
theorem sqt_nt {H : Hp} {a : Addr} {xs : List V} (h : SqT K H a xs) : SqT K (nt H) a xs := by
  rcases h with (h | ⟨o, h⟩) | h
  · exact .inl (.inl (nt_tup h))
  · exact .inl (.inr ⟨o, nt_of h fun _ z => by cases z⟩)
  · exact .inr h
theorem ok_parts_of {f c Pt : Addr} {fd : FuncData} {T : List (Addr × Str)} (F : FunC K "parts_of" "parts_of" p_parts_of f fd c) (TB : TabB base mg c Pt) (hmT : (Pt, ("parts_of.<locals>.<lambda>" : Str)) ∈ T) (hu : ∀ p ∈ T, p.1 = Pt → p.2 = ("parts_of.<locals>.<lambda>" : Str))
    (mSorted : mg "sorted" = none) (mLen : mg "len" = none) : FnOk P w K mg base CX0 5 f fd ["lot"] (spParts (K := K) T) := by
  refine F.ok sc_parts (fun vs H Q E h => ?_) (fun A outer s H vs Q E hr h => ?_)
  · obtain ⟨a, zs, rfl, _⟩ := h
    rfl
  · obtain ⟨a, zs, rfl, hS, h6, hT, k⟩ := h
    have nd := sc_parts.nd
    have hr4 : Room 4 _ := hr
    refine ⟨_, pss_cons (ps_set (i := 1) nd rfl (.inl rfl) (pe_lst (pa_cons (pe_tup pa_nil) pa_nil)))
      (pss_cons (ps_for PassesOwn.never rfl (pi_tup (pv 0)) (pg_name (i := 2) nd rfl (.inr rfl))
        (pss_one (ps_set (i := 1) nd rfl (.inl rfl) (pe_op op_cat (pv 1)
          (pe_lc (own := [("part", 3)]) (g := gName 3) (tt := tYes) (te := tTup (StX.tStar K (tVar 3) (tCons (tVar 2) tNil))) rfl nd (pi_list (pv 1)) (blkOk_by (own := [("part", 3)]) (N := nParts) (sc := defScope p_parts_of) (by decide +kernel))
            (fun _ _ _ _ _ => pg_name (i := 3) nd rfl (Or.inl rfl)) (fun _ _ _ _ _ => pts_nil) (fun _ _ _ _ _ => pe_tup (StX.pa_star (pv 3) (pa_cons (pv 2) pa_nil))))))))
      (pss_one (ps_ret (pe_sortedLam (T := T) (c := c) (P := Pt) (k := 1) (n := "part") (by rfl) mSorted (pv 1) TB rfl hmT hu hr4
        ⟨rfl, rfl, rfl, by decide +kernel, rfl⟩ rfl (fun q cl pm cv ctv v => by rfl)
        (tb := tTup (tCons (tCB (fun xs H Q => ∃ x n, xs = [x] ∧ LenV K x H n ∧ Q (.int n) H) (tCons (tVar 0) tNil)) (tCons (tVar 0) tNil)))
        (fun A outer s H f' c' hr' => pe_tup (pa_cons (pe_callB call_len (by rfl) mLen PySem.boot_len (pa_cons (pv 0) pa_nil)) (pa_cons (pv 0) pa_nil)))
        (fun x b zs H Q e hb q => ?_))))), ?_⟩
    · subst e
      exact ⟨.ref b, rfl, .ref b, (zs.map V.str).length, rfl, .inr ⟨_, Evl.st_of hb, rfl⟩, .ref b, rfl, by show 2 ≤ sizeLine; decide, fun p hp => by rw [List.length_map]; exact q p hp⟩
    · -- parts = [()]
      refine ⟨by show 0 ≤ sizeLine; decide, fun e0 he0 => ⟨by show 1 ≤ sizeLine; decide, fun p0 hp0 => ?_⟩⟩
      have x1 : Evl.Ex H (upd (upd H e0 (.tup [])) p0 (.lst [.ref e0])) := (Evl.Ex.new he0).trans (Evl.Ex.new hp0)
      have l1 : (upd (upd H e0 (.tup [])) p0 (.lst [.ref e0])) p0 = some (.lst ([(e0, ([] : List Str))].map fun q => V.ref q.1)) := upd_same
      have t1 : RowsT (upd (upd H e0 (.tup [])) p0 (.lst [.ref e0])) [(e0, [])] := fun q hq => by
        rw [List.mem_singleton.mp hq]
        rw [upd_ne (ne_of_none (upd_same (H := H) (a := e0) (o := .tup [])) hp0)]
        exact upd_same
      generalize upd (upd H e0 (.tup [])) p0 (.lst [.ref e0]) = H1 at x1 l1 t1
      refine ⟨.ref a, rfl, a, rfl, ⟨_, Evl.ex_t x1 hS⟩, for_tup (K := K) (a := a) (xs := zs.map V.str)
        (fun i σ H' => i ≤ zs.length ∧ Evl.Ex H H' ∧ ∃ (p : Addr) (L : List (Addr × List Str)) (x2 : Option V), σ = [some (.ref a), some (.ref p), x2, none] ∧ H' p = some (.lst (L.map fun q => V.ref q.1)) ∧ RowsT H' L ∧ L.map (·.2) = parts0 (zs.take i))
        ⟨Nat.zero_le _, x1, p0, [(e0, [])], none, rfl, l1, t1, rfl⟩ (fun i σ H' _ h => Evl.ex_t h.2.1 hS) ?_ ?_⟩
      · rintro i y σ H2 hi ⟨_, x2, p, L, v2, rfl, hp, tL, eL⟩
        obtain ⟨z, hz, rfl⟩ := str_at hi
        have hil : i < zs.length := (List.getElem?_eq_some_iff.mp hz).1
        have few : L.length ≤ 64 := by
          have h1 := congrArg List.length eL
          rw [List.length_map, parts0_len i _ (by rw [List.length_take]; omega)] at h1
          rw [h1]
          exact Nat.le_trans (Nat.pow_le_pow_right (by decide) (by omega : i ≤ 6)) (by decide)
        have rowsLen : ∀ q ∈ L, q.2.length ≤ 6 := fun q hq => by
          have hm : q.2 ∈ parts0 (zs.take i) := by rw [← eL]; exact List.mem_map_of_mem hq
          exact Nat.le_trans (parts0_sub hm).length_le (by rw [List.length_take]; omega)
        refine ⟨.ref p, rfl, .ref p, rfl, p, rfl, ⟨_, Evl.sq_of hp⟩, fun D hD => lc_list (K := K) (a := p) (xs := L.map fun q => V.ref q.1)
          (fun j H' => j ≤ L.length ∧ Evl.Ex H2 H' ∧ ∃ M : List (Addr × List Str), H' D = some (.lst (M.map fun q => V.ref q.1)) ∧ RowsT H' M ∧ M.map (·.2) = (L.take j).map fun q => q.2 ++ [z])
          ⟨Nat.zero_le _, Evl.Ex.new hD, [], upd_same, (fun q hq => nomatch hq), rfl⟩ (fun j H' _ h => Evl.sq_of (h.2.1 _ _ hp)) ?_ ?_⟩
        · rintro j v H3 hj ⟨_, x3, M, hM, tM, eM⟩
          obtain ⟨q, hq, rfl⟩ := rowsT_at hj
          have hjl : j < L.length := (List.getElem?_eq_some_iff.mp hq).1
          have mq := List.mem_of_getElem? hq
          have tq := x3 _ _ (tL q mq)
          have Ml : M.length ≤ 64 := by
            have := congrArg List.length eM
            rw [List.length_map, List.length_map, List.length_take] at this
            omega
          refine ⟨rfl, yes_if ?_⟩
          refine ⟨.ref q.1, rfl, q.1, _, rfl, .inl (Evl.st_of tq), .str z, rfl, ?_, fun t ht => ?_⟩
          · rw [List.length_append, List.length_map]
            have := rowsLen q mq
            exact Nat.le_of_lt (small1000 (by simp only [List.length_cons, List.length_nil]; omega))
          have y1 : Evl.Ex H3 (upd H3 t (.tup (q.2.map V.str ++ [.str z]))) := Evl.Ex.new ht
          have t2 : (upd H3 t (.tup (q.2.map V.str ++ [.str z]))) t = some (.tup ((q.2 ++ [z]).map V.str)) := by rw [upd_same, List.map_append]; rfl
          generalize upd H3 t (.tup (q.2.map V.str ++ [.str z])) = H4 at y1 t2
          refine ⟨_, y1 _ _ hM, by rw [List.length_map]; exact small1000 (by omega), hjl, (x3.trans y1).mut hD, M ++ [(t, q.2 ++ [z])], ?_, ?_, ?_⟩
          · rw [upd_same, List.map_append]
            rfl
          · refine RowsT.mut (RowsT.app (tM.to y1) fun q' hq' => ?_) (y1 _ _ hM)
            rw [List.mem_singleton.mp hq']
            exact t2
          · rw [List.map_append, eM, List.take_add_one, hq, List.map_append]
            rfl
        · rintro H3 ⟨_, x3, M, hM, tM, eM⟩
          rw [List.length_map, List.take_length] at eM
          have Ml : M.length ≤ 64 := by
            have := congrArg List.length eM
            rw [List.length_map, List.length_map] at this
            omega
          refine ⟨p, D, _, _, rfl, rfl, x3 _ _ hp, hM, Nat.le_of_lt (small1000 (by rw [List.length_map, List.length_map]; omega)), fun r hr' => ?_⟩
          refine ⟨hil, (x2.trans x3).trans (Evl.Ex.new hr'), r, L ++ M, _, rfl, ?_, RowsT.to (RowsT.app (tL.to x3) tM) (Evl.Ex.new hr'), ?_⟩
          · rw [upd_same, List.map_append]
          · rw [List.map_append, eM, eL, List.take_add_one, hz]
            show _ = parts0 (zs.take i ++ [z])
            rw [parts0_snoc, ← eL, List.map_map]
            rfl
      · rintro σ H2 ⟨_, x2, p, L, v2, rfl, hp, tL, eL⟩
        rw [List.length_map, List.take_length] at eL
        refine ⟨.ref p, rfl, p, L.map (fun q => V.ref q.1), rowAt H2, rfl, hp, fun x hx => ?_, hT.ext x2, fun ys r H3 hpm hsr eN T3 hn hr3 => ?_⟩
        · obtain ⟨q, hq, rfl⟩ := List.mem_map.mp hx
          exact ⟨q.1, rfl, by rw [rowAt_of (tL q hq)]; exact tL q hq⟩
        · obtain ⟨M, rfl, tM, pM, eM⟩ := rowsT_perm tL hpm
          refine k r H3 M ((nt_ex x2).trans (nt_ext eN)) T3 hr3 (fun q hq => eN _ _ (tM q hq) fun _ z => by cases z) (by rw [← eL]; exact pM) ?_
          show List.Pairwise _ _
          rw [eM, List.pairwise_map]
          exact hsr
end
end Rw
end T_PA

section T_PC
set_option Elab.async false
set_option linter.all false
set_option maxRecDepth 100000
set_option maxHeartbeats 4000000
namespace Rw
open PySem L2 PyProof.Rows LamX
theorem lastV_snoc (l : List V) (v : V) : lastV (l ++ [v]) = v := by
  unfold lastV
  rw [List.getLastD_eq_getLast?, List.getLast?_concat]
  rfl
theorem inV_non : ∀ zs : List Str, inV .non (zs.map V.str) = false
  | [] => rfl
  | z :: zs => by
    show (decide (V.non = V.str z) || inV .non (zs.map V.str)) = false
    rw [inV_non zs]
    rfl
theorem inV_spot {v : V} (hv : Spot v) (zs : List Str) : inV v (zs.map V.str) = decide (v ∈ zs.map V.str) := by
  rcases hv with rfl | ⟨y, rfl, _⟩
  · rw [inV_non, decide_eq_false]
    intro h
    obtain ⟨z, _, e⟩ := List.mem_map.mp h
    cases e
  · rw [inV_str]
    by_cases m : y ∈ zs
    · rw [decide_eq_true m, decide_eq_true (List.mem_map_of_mem m)]
    · rw [decide_eq_false m, decide_eq_false]
      intro h
      obtain ⟨z, hz, e⟩ := List.mem_map.mp h
      cases e
      exact m hz
/-- a walk is names and one place -/
theorem track_form {tb : List (Str × V)} (h : ∀ q ∈ tb, Spot q.2) : ∀ (k : Nat) (zs : List Str) (v : V), Spot v → ∃ (ys : List Str) (u : V), track tb k zs v = ys.map V.str ++ [u] ∧ Spot u := by
  intro k
  induction k with
  | zero => exact fun zs v hv => ⟨zs, v, rfl, hv⟩
  | succ k ih =>
    intro zs v hv
    rcases hv with rfl | ⟨y, rfl, hy⟩
    · exact ⟨zs, .non, track_non, .inl rfl⟩
    · cases q : valV (tkv tb) (Sum.inr y) with
      | none => exact ⟨zs, .str y, track_out q, .inr ⟨y, rfl, hy⟩⟩
      | some u =>
        by_cases m : y ∈ zs
        · exact ⟨zs, .str y, track_ring m, .inr ⟨y, rfl, hy⟩⟩
        · rw [track_on q m]
          have hk : y ∈ tb.map (·.1) := by
            by_cases hm : y ∈ tb.map (·.1)
            · exact hm
            · rw [tkv_none hm] at q; cases q
          obtain ⟨u', h1, h2⟩ := tkv_some hk
          rw [q] at h1
          rw [Option.some.inj h1]
          exact ih _ _ (h _ h2)
section
variable {P : Program} {w : World} {K : PySem.W.Frag} {mg : Str → Option Value} {base : Heap}
def spBreaks (C : Addr) : Sp := fun vs H Q _ => ∃ (m b : Addr) (wd e : Str) (zs : List Str) (v : V) (ends dots ss ps : List Str) (o n : Str → List (Str × V)), vs = [.ref m, .str wd, .str e, .ref b] ∧ NetAt C H m ends dots ss ps o n ∧ H b = some (.lst (zs.map V.str ++ [v])) ∧ (∀ z ∈ zs, Nm z) ∧ Spot v ∧ zs.length ≤ 200 ∧ ps.length ≤ 100 ∧
  ∀ H', Evl.Ex H H' → Q (.bl (breaksB wd e ps (zs.map V.str ++ [v]))) H'
theorem sc_breaks : FnScope ["net", "wish", "goal", "places"] ["net", "wish", "goal", "places"] (defScope p_breaks) := ⟨rfl, rfl, rfl, by decide +kernel, rfl, by decide +kernel, by decide +kernel⟩
theorem ok_breaks {f C : Addr} {fd : FuncData} (F : Fun K "breaks" "breaks" p_breaks f fd) (T : NetTxt K C) (P1 : Prp P w K mg base C 1 "posts" (spPosts C)) (C1 : Cal P w K mg base 2 "posts_passed" ["posts", "places"] (spPostsPassed (K := K))) (mLen : mg "len" = none) : FnOk P w K mg base CX0 3 f fd ["net", "wish", "goal", "places"] (spBreaks C) := by
  obtain ⟨p1, g1, fd1, at1, F1, b1⟩ := P1.ex
  obtain ⟨f2, fd2, F2, k2, b2, g2⟩ := C1.ex
  refine F.ok sc_breaks (fun vs H Q E h => ?_) (fun cdv A outer s H vs Q E hr h => ?_)
  · obtain ⟨m, b, wd, e, zs, v, ends, dots, ss, ps, o, n, rfl, _⟩ := h
    rfl
  · obtain ⟨m, b, wd, e, zs, v, ends, dots, ss, ps, o, n, rfl, N, hb, hz, hv, few, few2, k⟩ := h
    refine ⟨_, pss_cons (ps_if (pt_cmpR op_eq (pv 1) pe_str (nomark _)) (pss_one (ps_ret (pe_cmpR op_isN (pe_ix ix_list (pv 3) (pe_un un_neg pe_int) (fun _ _ => rfl)) pe_non (nomark _)))) pss_nil)
      (pss_cons (ps_if (pt_cmpR op_eq (pv 1) pe_str (nomark _)) (pss_one (ps_ret (pe_and (pe_cmpR op_eq (pe_ix ix_list (pv 3) (pe_un un_neg pe_int) (fun _ _ => rfl)) (pv 2) (nomark _))
          (pe_one (pe_cmpR op_lt (pe_call F2 hr rfl g2 k2 b2 .nil pass0 (pa_cons (pe_prop (pv 0) T.cl at1 F1 hr b1 .nil pass0 rfl) (pa_cons (pv 3) pa_nil))) (pe_callB call_len (by rfl) mLen PySem.boot_len (pa_cons (pe_prop (pv 0) T.cl at1 F1 hr b1 .nil pass0 rfl) pa_nil)) (nomark _)))))) pss_nil)
      (pss_one (ps_ret (pe_cmpR op_in_seq (pe_ix ix_list (pv 3) (pe_un un_neg pe_int) (fun _ _ => rfl)) (pe_slice sl_list (pv 3) po_none (po_some (pe_un un_neg pe_int))) rfl)))), ?_⟩
    have N2 := N
    obtain ⟨dx, T', N', S, Po, rows, h1, h2, h3, h4, h5, h6, h7⟩ := N.ex
    have hl := Evl.sq_of (K := K) hb
    have spots : ∀ u ∈ zs.map V.str ++ [v], Spot u := fun u hu => by
      rcases List.mem_append.mp hu with hu | hu
      · obtain ⟨z, hz', rfl⟩ := List.mem_map.mp hu
        exact .inr ⟨z, rfl, hz z hz'⟩
      · rw [List.mem_singleton.mp hu]
        exact hv
    refine ⟨.str wd, rfl, rfl, _, rfl, ite2 (fun q => ?_) (fun q => ?_)⟩
    · have ew : wd = ("lost" : Str) := by simpa using of_decide_eq_true q
      refine ⟨.ref b, rfl, 1, rfl, b, _, -1, v, rfl, rfl, hl, atI_last _ _, rfl, ?_⟩
      have eb : breaksB wd e ps (zs.map V.str ++ [v]) = decide (v = .non) := by unfold breaksB; rw [if_pos ew, lastV_snoc]
      rw [← eb]
      exact k H (Evl.Ex.refl _)
    · have ew : ¬ wd = ("lost" : Str) := fun z => by subst z; exact absurd q (by decide)
      refine ⟨.str wd, rfl, rfl, _, rfl, ite2 (fun q2 => ?_) (fun q2 => ?_)⟩
      · have ew2 : wd = ("posts" : Str) := by simpa using of_decide_eq_true q2
        have eb : breaksB wd e ps (zs.map V.str ++ [v]) = (decide (v = .str e) && decide (passedBy ps (zs.map V.str ++ [v]) < ps.length)) := by unfold breaksB; rw [if_neg ew, if_pos ew2, lastV_snoc]
        have sc : scal v (.str e) = true := by rcases hv with rfl | ⟨y, rfl, _⟩ <;> rfl
        refine ⟨.ref b, rfl, 1, rfl, b, _, -1, v, rfl, rfl, hl, atI_last _ _, .str e, rfl, sc, decide (v = .str e), rfl, ?_⟩
        by_cases ve : v = .str e
        · rw [decide_eq_true ve]
          refine iteT ?_
          refine ⟨.ref m, rfl, m, dx, _, rfl, h1, m, ends, dots, ss, ps, o, n, rfl, N2, fun p hp => ⟨.ref b, rfl, p, b, ps, _, rfl, Evl.st_of hp, hl, few2, spots, ?_⟩⟩
          refine ⟨.ref m, rfl, m, dx, _, rfl, h1, m, ends, dots, ss, ps, o, n, rfl, N2, fun p2 hp2 => ⟨.ref p2, (ps.map V.str).length, rfl, .inr ⟨_, Evl.st_of hp2, rfl⟩, _, _, rfl, rfl, ?_⟩⟩
          have e2 : decide (((passedBy ps (zs.map V.str ++ [v]) : Nat) : Int) < (((ps.map V.str).length : Nat) : Int)) = breaksB wd e ps (zs.map V.str ++ [v]) := by
            rw [eb, decide_eq_true ve, Bool.true_and, List.length_map]
            by_cases h : passedBy ps (zs.map V.str ++ [v]) < ps.length
            · rw [decide_eq_true h, decide_eq_true (by omega)]
            · rw [decide_eq_false h, decide_eq_false (by omega)]
          have kk := k H (Evl.Ex.refl _)
          rw [← e2] at kk
          exact kk
        · rw [decide_eq_false ve]
          refine iteF ?_
          rw [decide_eq_false ve, Bool.false_and] at eb
          rw [← eb]
          exact k H (Evl.Ex.refl _)
      · have ew2 : ¬ wd = ("posts" : Str) := fun z => by subst z; exact absurd q2 (by decide)
        have eb : breaksB wd e ps (zs.map V.str ++ [v]) = decide (v ∈ zs.map V.str) := by unfold breaksB; rw [if_neg ew, if_neg ew2, lastV_snoc, List.dropLast_concat]
        refine ⟨.ref b, rfl, 1, rfl, b, _, -1, v, rfl, rfl, hl, atI_last _ _, .ref b, rfl, 1, rfl, _, rfl, b, _, rfl, hl, fun c hc => ?_⟩
        have ecut : cutV (zs.map V.str ++ [v]) none (some (-1)) = zs.map V.str := by
          rw [cut_last]
          exact List.dropLast_concat
        rw [ecut]
        have fl : flatV v = true := by rcases hv with rfl | ⟨y, rfl, _⟩ <;> rfl
        refine ⟨c, zs.map V.str, rfl, .inl (Evl.sq_of upd_same), fl, flat_strs zs, ?_⟩
        rw [inV_spot hv, ← eb]
        exact k _ (Evl.Ex.new hc)
end
end Rw
end T_PC

section T_PD
set_option Elab.async false
set_option linter.all false
set_option maxRecDepth 100000
set_option maxHeartbeats 4000000
namespace Rw
open PySem L2 PyProof.Rows LamX
/-! ### what breaks a wish -/
/-- the packet for e that begins at z, while just the nodes of on have their new ways, breaks the wish -/
def brk (dots ps : List Str) (o n : Str → List (Str × V)) (wd : Str) (on : List Str) (e z : Str) : Bool :=
  breaksB wd e ps (walkOf (nowTab dots (o e) (n e) on) (dots.length + 1) z)
def places (wd : Str) (ends dots ss : List Str) : List (Str × Str) := ends.flatMap fun e => (startsOf wd dots ss).map fun z => (e, z)
def faultAt (ends dots ss ps : List Str) (o n : Str → List (Str × V)) (wd : Str) (on : List Str) : Option (Str × Str) :=
  (places wd ends dots ss).find? fun q => brk dots ps o n wd on q.1 q.2
theorem nowTab_congr {dots : List Str} {o n : List (Str × V)} {on on' : List Str} (h : ∀ z, z ∈ on ↔ z ∈ on') : nowTab dots o n on = nowTab dots o n on' := by
  unfold nowTab
  refine List.map_congr_left fun z _ => ?_
  by_cases m : z ∈ on
  · rw [if_pos m, if_pos ((h z).mp m)]
  · rw [if_neg m, if_neg fun q => m ((h z).mpr q)]
theorem brk_congr {dots ps : List Str} {o n : Str → List (Str × V)} {wd : Str} {on on' : List Str} (h : ∀ z, z ∈ on ↔ z ∈ on') (e z : Str) : brk dots ps o n wd on e z = brk dots ps o n wd on' e z := by
  unfold brk
  rw [nowTab_congr h]
theorem faultAt_congr {ends dots ss ps : List Str} {o n : Str → List (Str × V)} {wd : Str} {on on' : List Str} (h : ∀ z, z ∈ on ↔ z ∈ on') : faultAt ends dots ss ps o n wd on = faultAt ends dots ss ps o n wd on' := by
  unfold faultAt
  congr 1
  funext q
  exact brk_congr h _ _
theorem find_here {α : Type} {p : α → Bool} {A B : List α} {x : α} (hA : ∀ a ∈ A, p a = false) (hx : p x = true) : (A ++ x :: B).find? p = some x := by
  induction A with
  | nil => rw [List.nil_append, List.find?_cons, hx]
  | cons a A ih =>
    rw [List.cons_append, List.find?_cons, hA a List.mem_cons_self]
    exact ih fun b hb => hA b (List.mem_cons_of_mem _ hb)
theorem find_none {α : Type} {p : α → Bool} {A : List α} (hA : ∀ a ∈ A, p a = false) : A.find? p = none := by
  rw [List.find?_eq_none]
  intro a ha
  rw [hA a ha]
  decide
/-- no fault ahead of this place -/
theorem fault_here {ends dots ss ps : List Str} {o n : Str → List (Str × V)} {wd : Str} {on : List Str} {i j : Nat} {e z : Str} (hi : ends[i]? = some e) (hj : (startsOf wd dots ss)[j]? = some z)
    (h1 : ∀ q ∈ places wd (ends.take i) dots ss, brk dots ps o n wd on q.1 q.2 = false) (h2 : ∀ y ∈ (startsOf wd dots ss).take j, brk dots ps o n wd on e y = false) (h3 : brk dots ps o n wd on e z = true) : faultAt ends dots ss ps o n wd on = some (e, z) := by
  unfold faultAt
  have e1 : ends = ends.take i ++ e :: ends.drop (i + 1) := by
    have hl := (List.getElem?_eq_some_iff.mp hi)
    obtain ⟨hlt, he⟩ := hl
    rw [← he, List.getElem_cons_drop, List.take_append_drop]
  have e2 : startsOf wd dots ss = (startsOf wd dots ss).take j ++ z :: (startsOf wd dots ss).drop (j + 1) := by
    obtain ⟨hlt, he⟩ := (List.getElem?_eq_some_iff.mp hj)
    rw [← he, List.getElem_cons_drop, List.take_append_drop]
  have e3 : places wd ends dots ss = (places wd (ends.take i) dots ss ++ ((startsOf wd dots ss).take j).map fun y => (e, y)) ++ (e, z) :: ((((startsOf wd dots ss).drop (j + 1)).map fun y => (e, y)) ++ places wd (ends.drop (i + 1)) dots ss) := by
    have q1 : places wd ends dots ss = places wd (ends.take i) dots ss ++ ((startsOf wd dots ss).map (fun y => (e, y)) ++ places wd (ends.drop (i + 1)) dots ss) := by
      unfold places
      conv => lhs; rw [e1]
      rw [List.flatMap_append, List.flatMap_cons]
    have q2 : (startsOf wd dots ss).map (fun y => (e, y)) = ((startsOf wd dots ss).take j).map (fun y => (e, y)) ++ (e, z) :: ((startsOf wd dots ss).drop (j + 1)).map (fun y => (e, y)) := by
      conv => lhs; rw [e2]
      rw [List.map_append, List.map_cons]
    rw [q1, q2, List.append_assoc, List.append_assoc, List.cons_append]
  rw [e3]
  refine find_here (fun q hq => ?_) h3
  rcases List.mem_append.mp hq with hq | hq
  · exact h1 q hq
  · obtain ⟨y, hy, rfl⟩ := List.mem_map.mp hq
    exact h2 y hy
/-! ### the parts in their order -/
theorem numRow_anti {p q : List Str} (h1 : numRow ((q.length : Int), q) ((p.length : Int), p) = false) (h2 : numRow ((p.length : Int), p) ((q.length : Int), q) = false) : p = q := by
  unfold numRow at h1 h2
  dsimp only at h1 h2
  by_cases e : (q.length : Int) = (p.length : Int)
  · rw [if_pos e] at h1
    rw [if_pos e.symm] at h2
    exact lexS_tot h2 h1
  · rw [if_neg e, decide_eq_false_iff_not] at h1
    rw [if_neg (fun z => e z.symm), decide_eq_false_iff_not] at h2
    omega
theorem rowsSrt_uniq : ∀ {l m : List (List Str)}, l.Perm m → RowsSrt l → RowsSrt m → l = m := by
  intro l
  induction l with
  | nil => intro m hp _ _; exact (List.nil_perm.mp hp).symm
  | cons a l ih =>
    intro m hp hl hm
    cases m with
    | nil => exact absurd hp.length_eq (by simp)
    | cons b m =>
      have hab : a = b := by
        have ha : a ∈ b :: m := hp.mem_iff.mp List.mem_cons_self
        have hb : b ∈ a :: l := hp.mem_iff.mpr List.mem_cons_self
        rcases List.mem_cons.mp ha with e | ha
        · exact e
        · rcases List.mem_cons.mp hb with e | hb
          · exact e.symm
          · exact numRow_anti ((List.pairwise_cons.mp hl).1 b hb) ((List.pairwise_cons.mp hm).1 a ha)
      subst hab
      rw [ih (List.perm_cons a |>.mp hp) (List.pairwise_cons.mp hl).2 (List.pairwise_cons.mp hm).2]
open Classical in
noncomputable def partsS (zs : List Str) : List (List Str) := if h : ∃ Ls : List (List Str), Ls.Perm (parts0 zs) ∧ RowsSrt Ls then Classical.choose h else parts0 zs
theorem partsS_is {zs : List Str} {Ls : List (List Str)} (hp : Ls.Perm (parts0 zs)) (hs : RowsSrt Ls) : Ls = partsS zs := by
  have h : ∃ Ls : List (List Str), Ls.Perm (parts0 zs) ∧ RowsSrt Ls := ⟨Ls, hp, hs⟩
  unfold partsS
  rw [dif_pos h]
  have c := Classical.choose_spec h
  exact rowsSrt_uniq (hp.trans c.1.symm) hs c.2
theorem partsS_sub {zs : List Str} {p : List Str} (h : p ∈ partsS zs) : p.Sublist zs := by
  unfold partsS at h
  split at h
  · rename_i c
    exact parts0_sub ((Classical.choose_spec c).1.mem_iff.mp h)
  · exact parts0_sub h
theorem partsS_has {zs : List Str} {p : List Str} (h : p.Sublist zs) : p ∈ partsS zs := by
  unfold partsS
  split
  · rename_i c
    exact (Classical.choose_spec c).1.mem_iff.mpr (parts0_has h)
  · exact parts0_has h
/-- the first fault of a round -/
noncomputable def firstFault (ends dots ss ps : List Str) (o n : Str → List (Str × V)) (wd : Str) (zs ys : List Str) : Option (Str × List Str × Str) :=
  (partsS ys).findSome? fun on => (faultAt ends dots ss ps o n wd (zs ++ on)).map fun q => (q.1, on, q.2)
theorem findSome_here {α β : Type} {f : α → Option β} {A B : List α} {x : α} {b : β} (hA : ∀ a ∈ A, f a = none) (hx : f x = some b) : (A ++ x :: B).findSome? f = some b := by
  induction A with
  | nil => rw [List.nil_append, List.findSome?_cons, hx]
  | cons a A ih =>
    rw [List.cons_append, List.findSome?_cons, hA a List.mem_cons_self]
    exact ih fun b hb => hA b (List.mem_cons_of_mem _ hb)
theorem findSome_none {α β : Type} {f : α → Option β} {A : List α} (hA : ∀ a ∈ A, f a = none) : A.findSome? f = none := by
  rw [List.findSome?_eq_none_iff]
  exact hA
end Rw
end T_PD

section T_BD
set_option Elab.async false
set_option linter.all false
set_option maxRecDepth 100000
set_option maxHeartbeats 4000000
namespace Rw
open PySem L2 PyProof.Rows
/-! ### the nodes that are not done -/
def restOf (zs ys : List Str) : List Str := ys.filter fun z => decide (z ∉ zs)
theorem restOf_snoc (zs l : List Str) (z : Str) : restOf zs (l ++ [z]) = restOf zs l ++ if z ∈ zs then [] else [z] := by
  unfold restOf
  rw [List.filter_append]
  by_cases m : z ∈ zs
  · rw [if_pos m, List.filter_cons_of_neg (by rw [decide_eq_false (not_not_intro m)]; decide)]
    rfl
  · rw [if_neg m, List.filter_cons_of_pos (by rw [decide_eq_true m])]
    rfl
end Rw
end T_BD

section T_PE
set_option Elab.async false
set_option linter.all false
set_option maxRecDepth 100000
set_option maxHeartbeats 4000000
namespace Rw
open PySem L2 PyProof.Rows LamX
structure TabsOk (ends dots : List Str) (o n : Str → List (Str × V)) : Prop where
  to : ∀ e ∈ ends, TabOk dots e (o e)
  tn : ∀ e ∈ ends, TabOk dots e (n e)
theorem places_snoc (wd : Str) (l : List Str) (e : Str) (dots ss : List Str) : places wd (l ++ [e]) dots ss = places wd l dots ss ++ (startsOf wd dots ss).map fun z => (e, z) := by
  unfold places
  rw [List.flatMap_append, List.flatMap_cons, List.flatMap_nil, List.append_nil]
theorem sqt_to {K : PySem.W.Frag} {H H' : Hp} {a : Addr} {xs : List V} (h : SqT K H a xs) (x : Evl.Ex H H') : SqT K H' a xs := Evl.ex_t x h
section
variable {P : Program} {w : World} {K : PySem.W.Frag} {mg : Str → Option Value} {base : Heap}
/-- what an optional pair of names is as a value -/
def PairIs (H : Hp) (v : V) : Option (Str × Str) → Prop
  | none => v = .non
  | some (e, z) => ∃ p, v = .ref p ∧ H p = some (.tup [.str e, .str z])
def spFaultAt (C : Addr) : Sp := fun vs H Q _ => ∃ (m a : Addr) (wd : Str) (on ends dots ss ps : List Str) (o n : Str → List (Str × V)), vs = [.ref m, .ref a, .str wd] ∧ NetAt C H m ends dots ss ps o n ∧ ModelOk ends dots ss ps ∧ TabsOk ends dots o n ∧ SqT K H a (on.map V.str) ∧
  ∀ v H', Evl.Ex H H' → PairIs H' v (faultAt ends dots ss ps o n wd on) → Q v H'
abbrev nFaultAt : List Str := ["net", "changed", "wish", "goal", "table", "node"]
theorem sc_fault_at : FnScope nFaultAt ["net", "changed", "wish"] (defScope p_fault_at) := ⟨rfl, rfl, rfl, by decide +kernel, rfl, by decide +kernel, by decide +kernel⟩
theorem ok_fault_at {f C : Addr} {fd : FuncData} (F : Fun K "fault_at" "fault_at" p_fault_at f fd) (T : NetTxt K C) (P1 : Prp P w K mg base C 1 "goals" (spGoals C)) (C1 : Cal P w K mg base 3 "ways_at" ["net", "done", "changed", "goal"] (spWaysAt (K := K) C))
    (C2 : Cal P w K mg base 3 "starts" ["net", "wish"] (spStarts C)) (C3 : Cal P w K mg base 3 "breaks" ["net", "wish", "goal", "places"] (spBreaks C)) (C4 : Cal P w K mg base 1 "followed" ["table", "node"] spFollowed) :
    FnOk P w K mg base CX0 4 f fd ["net", "changed", "wish"] (spFaultAt (K := K) C) := by
  obtain ⟨p1, g1, fd1, at1, F1, b1⟩ := P1.ex
  obtain ⟨f2, fd2, F2, k2, b2, g2⟩ := C1.ex
  obtain ⟨f3, fd3, F3, k3, b3, g3⟩ := C2.ex
  obtain ⟨f4, fd4, F4, k4, b4, g4⟩ := C3.ex
  obtain ⟨f5, fd5, F5, k5, b5, g5⟩ := C4.ex
  refine F.ok sc_fault_at (fun vs H Q E h => ?_) (fun cdv A outer s H vs Q E hr h => ?_)
  · obtain ⟨m, a, wd, on, ends, dots, ss, ps, o, n, rfl, _⟩ := h
    rfl
  · obtain ⟨m, a, wd, on, ends, dots, ss, ps, o, n, rfl, N, ok, tok, ha, k⟩ := h
    have nd := sc_fault_at.nd
    have hr1 : Room 1 _ := hr.mono (by decide)
    have hr2 : Room 2 _ := hr.mono (by decide)
    refine ⟨_, pss_cons (ps_for PassesOwn.never rfl (pi_tup (pe_prop (pv 0) T.cl at1 F1 hr2 b1 .nil pass0 rfl)) (pg_name (i := 3) nd rfl (.inl rfl))
        (pss_cons (ps_set (i := 4) nd rfl (.inl rfl) (pe_call F2 hr rfl g2 k2 b2 .nil pass0 (pa_cons (pv 0) (pa_cons (pe_tup pa_nil) (pa_cons (pv 1) (pa_cons (pv 3) pa_nil))))))
        (pss_one (ps_for PassesOwn.never rfl (pi_tup (pe_call F3 hr rfl g3 k3 b3 .nil pass0 (pa_cons (pv 0) (pa_cons (pv 2) pa_nil)))) (pg_name (i := 5) nd rfl (.inl rfl))
          (pss_one (ps_if (pt_val (pe_call F4 hr rfl g4 k4 b4 .nil pass0 (pa_cons (pv 0) (pa_cons (pv 2) (pa_cons (pv 3) (pa_cons (pe_call F5 hr1 rfl g5 k5 b5 .nil pass0 (pa_cons (pv 4) (pa_cons (pv 5) pa_nil))) pa_nil))))))
            (pss_one (ps_ret (pe_tup (pa_cons (pv 3) (pa_cons (pv 5) pa_nil))))) pss_nil))))))
      (pss_one (ps_ret pe_non)), ?_⟩
    have e2 := ok.e2
    have d6 := ok.d6
    have p2 := ok.p2
    have N2 := N
    obtain ⟨dx, T', N', S, Po, rows, h1, h2, h3, h4, h5, h6, h7⟩ := N.ex
    refine ⟨.ref m, rfl, m, dx, _, rfl, h1, m, ends, dots, ss, ps, o, n, rfl, N2, by omega, fun q hq => ?_⟩
    have x0 : Evl.Ex H (upd H q (.tup (ends.map V.str))) := Evl.Ex.new hq
    have tq : (upd H q (.tup (ends.map V.str))) q = some (.tup (ends.map V.str)) := upd_same
    generalize upd H q (.tup (ends.map V.str)) = H0 at x0 tq
    refine ⟨q, rfl, ⟨_, Evl.st_of tq⟩, for_tup (K := K) (a := q) (xs := ends.map V.str)
      (fun i σ H' => i ≤ ends.length ∧ Evl.Ex H0 H' ∧ (∃ x3 x4 x5 : Option V, σ = [some (.ref m), some (.ref a), some (.str wd), x3, x4, x5]) ∧ ∀ q ∈ places wd (ends.take i) dots ss, brk dots ps o n wd on q.1 q.2 = false)
      ⟨Nat.zero_le _, Evl.Ex.refl _, ⟨none, none, none, rfl⟩, fun q hq => nomatch hq⟩ (fun i σ H' _ h => Evl.st_of (h.2.1 _ _ tq)) ?_ ?_⟩
    · rintro i y σ H1 hi ⟨_, x1, ⟨x3, x4, x5, rfl⟩, no⟩
      obtain ⟨e, he, rfl⟩ := str_at hi
      have hil : i < ends.length := (List.getElem?_eq_some_iff.mp he).1
      have em := List.mem_of_getElem? he
      have x01 := x0.trans x1
      -- table = ways_at(net, (), changed, goal)
      refine ⟨.ref m, rfl, ?_⟩
      refine ⟨by show 0 ≤ sizeLine; decide, fun t0 ht0 => ⟨.ref a, rfl, .str e, rfl, ?_⟩⟩
      have y1 : Evl.Ex H1 (upd H1 t0 (.tup [])) := Evl.Ex.new ht0
      have st0 : SqT K (upd H1 t0 (.tup [])) t0 (([] : List Str).map V.str) := Evl.st_of upd_same
      generalize upd H1 t0 (.tup []) = H2 at y1 st0
      have x02 := x01.trans y1
      refine ⟨m, t0, a, e, [], on, ends, dots, ss, ps, o, n, rfl, N2.to x02, by omega, ok.en, by omega, ok.dn, em, st0, sqt_to ha x02, fun D H3 x3' hD dD => ?_⟩
      rw [List.nil_append] at dD
      have x03 := x02.trans x3'
      -- for node in starts(net, wish)
      refine ⟨.ref m, rfl, .str wd, rfl, m, wd, ends, dots, ss, ps, o, n, rfl, N2.to x03, fun r hr' => ?_⟩
      have sub : ∀ z ∈ startsOf wd dots ss, z ∈ dots := fun z hz => by
        unfold startsOf at hz
        split at hz
        · exact hz
        · exact ok.sd z hz
      have LD : LeadOk dots (nowTab dots (o e) (n e) on) := nowTab_lead (tok.to e em) (tok.tn e em) ok.dm (ok.em e em)
      refine ⟨r, rfl, ⟨_, Evl.st_of hr'⟩, for_tup (K := K) (a := r) (xs := (startsOf wd dots ss).map V.str)
        (fun j σ H' => j ≤ (startsOf wd dots ss).length ∧ Evl.Ex H3 H' ∧ (∃ x5 : Option V, σ = [some (.ref m), some (.ref a), some (.str wd), some (.str e), some (.ref D), x5]) ∧ ∀ y ∈ (startsOf wd dots ss).take j, brk dots ps o n wd on e y = false)
        ⟨Nat.zero_le _, Evl.Ex.refl _, ⟨x5, rfl⟩, fun y hy => nomatch hy⟩ (fun j σ H' _ h => Evl.st_of (h.2.1 _ _ hr')) ?_ ?_⟩
      · rintro j v σ H4 hj ⟨_, x4', ⟨x5', rfl⟩, no2⟩
        obtain ⟨z, hz, rfl⟩ := str_at hj
        have hjl : j < (startsOf wd dots ss).length := (List.getElem?_eq_some_iff.mp hz).1
        have zd := sub z (List.mem_of_getElem? hz)
        have x34 := x4'
        refine ⟨.ref m, rfl, .str wd, rfl, .str e, rfl, ?_⟩
        refine ⟨.ref D, rfl, .str z, rfl, D, z, dots, _, rfl, x4' _ _ dD, LD, by omega, ok.dm z zd, fun b H5 x5'' hb hb5 => ?_⟩
        obtain ⟨zs, u, ew, hu⟩ := track_form (tb := nowTab dots (o e) (n e) on) LD.sp (dots.length + 1) [] (.str z) (.inr ⟨z, rfl, ok.dm z zd⟩)
        have ewl : walkOf (nowTab dots (o e) (n e) on) (dots.length + 1) z = zs.map V.str ++ [u] := ew
        have len : zs.length ≤ 200 := by
          have q1 := track_len (tb := nowTab dots (o e) (n e) on) (dots.length + 1) [] (.str z)
          rw [ew, List.length_append, List.length_map] at q1
          simp only [List.length_nil, List.length_cons] at q1
          omega
        have nmz : ∀ y ∈ zs, Nm y := fun y hy => by
          have q1 := track_spots (tb := nowTab dots (o e) (n e) on) LD.sp (dots.length + 1) [] (.str z) (fun _ h => nomatch h) (.inr ⟨z, rfl, ok.dm z zd⟩) (.str y) (by rw [ew]; exact List.mem_append_left _ (List.mem_map_of_mem hy))
          rcases q1 with q1 | ⟨y', q1, q2⟩
          · cases q1
          · cases q1
            exact q2
        rw [ewl] at hb5
        have x05 := (x03.trans x4').trans x5''
        refine ⟨m, b, wd, e, zs, u, ends, dots, ss, ps, o, n, rfl, N2.to x05, hb5, nmz, hu, len, by omega, fun H6 x6 => ?_⟩
        have eb : breaksB wd e ps (zs.map V.str ++ [u]) = brk dots ps o n wd on e z := by unfold brk; rw [ewl]
        rw [eb]
        refine ⟨_, rfl, ite2 (fun q => ?_) (fun q => ?_)⟩
        · refine ⟨.str e, rfl, .str z, rfl, by show 2 ≤ sizeLine; decide, fun t ht => k _ _ ((x05.trans x6).trans (Evl.Ex.new ht)) ?_⟩
          rw [fault_here he hz no no2 q]
          exact ⟨t, rfl, upd_same⟩
        · have q' : brk dots ps o n wd on e z = false := by
            cases h : brk dots ps o n wd on e z with
            | true => exact absurd h q
            | false => rfl
          refine ⟨hjl, (x4'.trans x5'').trans x6, ⟨_, rfl⟩, fun y hy => ?_⟩
          rw [List.take_add_one, hz] at hy
          rcases List.mem_append.mp hy with hy | hy
          · exact no2 y hy
          · rw [List.mem_singleton.mp hy]
            exact q'
      · rintro σ H4 ⟨_, x4', ⟨x5', rfl⟩, no2⟩
        rw [List.length_map, List.take_length] at no2
        refine ⟨hil, ((x1.trans y1).trans x3').trans x4', ⟨_, _, _, rfl⟩, fun q hq => ?_⟩
        rw [List.take_add_one, he] at hq
        have hq' : q ∈ places wd (ends.take i ++ [e]) dots ss := hq
        rw [places_snoc] at hq'
        rcases List.mem_append.mp hq' with hq' | hq'
        · exact no q hq'
        · obtain ⟨y, hy, rfl⟩ := List.mem_map.mp hq'
          exact no2 y hy
    · rintro σ H1 ⟨_, x1, ⟨x3, x4, x5, rfl⟩, no⟩
      rw [List.length_map, List.take_length] at no
      refine k .non H1 (x0.trans x1) ?_
      unfold faultAt
      rw [find_none no]
      rfl
end
end Rw
end T_PE

section T_TD
set_option Elab.async false
set_option linter.all false
set_option maxRecDepth 100000
set_option maxHeartbeats 4000000
/-! ### {k: v for ..}, its keys being tuples -/
namespace L2
open PySem PySem.Spec PyProof.Rows
theorem d_dictSetT {X : Cx} {pins : List (Addr × Obj)} {σ : L2.St} {H : Hp} {s : Shared} {E : Value → Shared → Prop} {D b : Addr} {kvs : List (List Key × V)} {k : List Key} {v : V} {r : Value} {Q : Unit → Shared → Prop}
    (room : (tupleKind (mixKind X.prog X.w)).room X.A) (I : L2.Inv X pins σ H s) (e : H D = some (.dT kvs)) (l : kvs.length < sizeLine) (eb : H b = some (.tup (k.map kV))) (rv : L2.RelV v r) (h : ∀ s', L2.Inv X pins σ (upd H D (.dT (putK kvs k v))) s' → Q () s') :
    wpAny (model X.prog X.w) X.A (dictSet D (.ref b) r) Q E s := by
  obtain ⟨z, hd, xs, rel, dd⟩ := dt_of I.hok e
  have hz : xs.length ≤ sizeLine := by rw [← Paired.length rel]; exact z
  have hl : (putK kvs k v).length ≤ sizeLine := by have := length_putK kvs k v; omega
  refine wpAny_dictSet_heap room (key_of I.hok eb) dd (fun h' dd' hs => h _ ?_) hz
  obtain ⟨q, es, ep, hq, h2, h3, h4, _, h5⟩ := dd'
  exact d_write I (by rw [e]; trivial) hs ⟨q, hq⟩ ⟨hl, hd, storedH xs k b r, KT.keeps (KT.put rel k eb rv) (fun c ys ec => by rw [upd_ne (ne_of ec e fun z => nomatch z)]; exact ec), q, es, ep, hq, h2, h3, h4, h5⟩
/-- one turn of such a comprehension -/
def stepT (g : TG) (tt : TT) (tk tv : TE) (vs : List Nat) (σ : L2.St) (D : Addr) (x : V) (H' : Hp) (Nx : Hp → Prop) : Prop :=
  g x (wipe σ vs) H' fun σ2 H2 => wipe σ2 vs = wipe σ vs ∧ tt σ2 H2 fun b H3 => if b = true then tk σ2 H3 fun y H4 => tv σ2 H4 fun z H5 =>
    ∃ kvs k a, y = V.ref a ∧ H5 a = some (.tup (k.map kV)) ∧ H5 D = some (.dT kvs) ∧ kvs.length < sizeLine ∧ Nx (upd H5 D (.dT (putK kvs k z))) else Nx H3
def turnT (g : TG) (tt : TT) (tk tv : TE) (vs : List Nat) (σ : L2.St) (D : Addr) (J : It) (W : Nat → Nat → Hp → Prop) (Qd : Hp → Prop) : Prop :=
  ∀ i m H, W i m H → J.stop i H ∧ Qd H ∨ J.go i H ∧ ∃ Nx : Hp → Prop, (∀ H', Nx H' → ∃ m', m' < m ∧ W (i + 1) m' H') ∧ ∀ x H', J.yld i H x H' → stepT g tt tk tv vs σ D x H' Nx
def tDcT : TI → TG → TT → TE → TE → List Nat → TE := fun wi g tt tk tv vs σ H Q =>
  wi σ H fun J H1 => ∀ D, H1 D = none → ∃ W : Nat → Nat → Hp → Prop, (∃ m, W 0 m (upd H1 D (.dT []))) ∧ turnT g tt tk tv vs σ D J W (Q (.ref D))
theorem dcT_loop {Xb : Cx} {fp : List Addr} {it : Addr} {tn : Nat → Heap → Prop} {J : It} {kx vx tg iter : Expr} {ifs : List Expr} {scope : Scope} {pos : Pos} {g : TG} {tt : TT} {tk tv : TE} {vs : List Nat} {σ : L2.St} {D : Addr} {W : Nat → Nat → Hp → Prop} {Qd : Hp → Prop} {R : Result → Shared → Prop}
    (hc : Xb.calm = true) (hxe : Xb.xe = fun _ _ => False) (room : (tupleKind (mixKind Xb.prog Xb.w)).room Xb.A) (pg : PG Xb tg g) (pt : PTs Xb ifs tt) (pk : PE Xb kx tk) (pe : PE Xb vx tv) (T : Turn Xb.prog Xb.w Xb.K tg J fp it tn)
    (stat : ∀ {σ' : L2.St} {H' : Hp} {s' : Shared}, L2.Inv Xb [] σ' H' s' → (∀ b ∈ fp, H' b = none) → ∀ b ∈ fp, FpOk Xb [] H' b)
    (turn : turnT g tt tk tv vs σ D J W Qd) (done : ∀ {H6 : Hp} {s6 : Shared}, L2.Inv Xb [] (wipe σ vs) H6 s6 → Qd H6 → R (.ok .next) s6)
    {n : Nat} {s : Shared} (hI : ∃ i H', L2.Inv Xb [] (wipe σ vs) H' s ∧ tn i s.heap ∧ (∀ b ∈ fp, H' b = none) ∧ W i n H') :
    codeAny (model Xb.prog Xb.w) Xb.A (Code.compLoop (kx.DictComp vx [⟨tg, iter, ifs, 0⟩] scope pos) 0 (.ref it) (.ref D) Xb.env) R s := by
  refine compLoop_anyD (fun n s' => ∃ i H', L2.Inv Xb [] (wipe σ vs) H' s' ∧ tn i s'.heap ∧ (∀ b ∈ fp, H' b = none) ∧ W i n H') (fun n s5 a => ?_) n hI
  obtain ⟨i, H5, I5, st5, n5, w5⟩ := a
  rcases turn i n H5 w5 with ⟨stop, qq⟩ | ⟨go, Nx, hNx, step⟩
  · refine thnF (T.done Xb rfl rfl rfl hc i [] s5 _ H5 _ I5 (stat I5 n5) st5 stop) fun r s6 x => ?_
    obtain ⟨hr, I6⟩ := x
    subst hr
    exact done I6 qq
  · refine thnF (T.item Xb rfl rfl rfl hc i [] s5 _ H5 _ I5 (stat I5 n5) st5 go) fun r s6 x => ?_
    obtain ⟨u, hr, h6⟩ := x
    subst hr
    refine thnF h6 fun _ s7 x => ?_
    obtain ⟨x, H7, I7, r7, y7, st7, n7⟩ := x
    have I7' := Inv.pinned I7 (stat I7 n7) (T.obj (i + 1) s7.heap st7)
    have z := pg.run ([] ++ pinsAt fp s7.heap) s7 (wipe σ vs) H7 x u _ I7' r7 (step x H7 y7)
    rw [hxe] at z
    refine thnF z fun _ s8 x => ?_
    obtain ⟨σ8, H8, I8, hw8, q8⟩ := x
    have z := pt.run _ s8 σ8 H8 _ I8 q8
    rw [hxe] at z
    refine thnF z fun b s9 x => ?_
    obtain ⟨H9, I9, q9⟩ := x
    have fin : ∀ {s' : Shared} {H' : Hp}, L2.Inv Xb ([] ++ pinsAt fp s7.heap) σ8 H' s' → Nx H' → ∃ m, m < n ∧ ∃ i H', L2.Inv Xb [] (wipe σ vs) H' s' ∧ tn i s'.heap ∧ (∀ b ∈ fp, H' b = none) ∧ W i m H' := fun {s' H'} I' nx => by
      obtain ⟨m', hm, w'⟩ := hNx H' nx
      have pin' : ∀ b ∈ fp, ∀ o, s7.heap.get? b = some o → s'.heap.get? b = some o ∧ H' b = none := fun b hb o e => by
        have z := I'.pin (b, o) (List.mem_append_right _ (List.mem_append_right [] (mem_pinsAt hb e)))
        exact ⟨z.1, z.2.1⟩
      have hl : (wipe σ vs).length = σ8.length := by rw [← hw8, wipe_length]
      refine ⟨m', hm, i + 1, H', Inv.weak (Inv.unpinned I') hl (fun j v e => (wipe_some (by rw [hw8]; exact e)).1), T.keep (i + 1) s7.heap s'.heap st7 (fun b hb o e => (pin' b hb o e).1), fun b hb => ?_, w'⟩
      obtain ⟨o, e, _⟩ := T.obj (i + 1) s7.heap st7 b hb
      exact (pin' b hb o e).2
    cases b with
    | false => exact fin I9 q9
    | true =>
      have q9' : tk σ8 H9 fun y H4 => tv σ8 H4 fun z H5 => ∃ kvs k a, y = V.ref a ∧ H5 a = some (.tup (k.map kV)) ∧ H5 D = some (.dT kvs) ∧ kvs.length < sizeLine ∧ Nx (upd H5 D (.dT (putK kvs k z))) := q9
      have z := pk.run _ s9 σ8 H9 _ I9 q9'
      rw [hxe] at z
      refine thnF z fun kv s10 x => ?_
      obtain ⟨y, H10, I10, r10, q10⟩ := x
      have z := pe.run _ s10 σ8 H10 _ I10 q10
      rw [hxe] at z
      refine thnF z fun vv s11 x => ?_
      obtain ⟨z, H11, I11, r11, kvs, k, a, ey, ha, hD, hz, nx⟩ := x
      subst ey
      obtain rfl : kv = Value.ref a := r10
      exact d_dictSetT room I11 hD hz ha r11 fun s12 I12 => fin I12 nx
theorem dcT_core {X : Cx} {pins : List (Addr × Obj)} {s : Shared} {σ : L2.St} {H : Hp} {Q : VK} {kx vx tg iter : Expr} {ifs : List Expr} {scope : Scope} {own : List (Str × Nat)} {pos pos' : Pos} {wi : TI} {g : TG} {tt : TT} {tk tv : TE} {use : Option (Value → Sem Unit)} {Qf : Value → Shared → Prop}
    (room : (tupleKind (mixKind X.prog X.w)).room X.A) (hc : X.calm = true) (hN : X.N.Nodup) (I : L2.Inv X pins σ H s) (hi : PI X tg iter wi) (ok : BlkOk X.N X.env.scope scope own)
    (hg : ∀ (s : Shared) (H : Hp) (C : Addr) (cl : List (Str × Addr)) (fp : List Addr), PG (X.blk s H scope (compEnvC scope cl C X.env) fp) tg g)
    (ht : ∀ (s : Shared) (H : Hp) (C : Addr) (cl : List (Str × Addr)) (fp : List Addr), PTs (X.blk s H scope (compEnvC scope cl C X.env) fp) ifs tt)
    (hk : ∀ (s : Shared) (H : Hp) (C : Addr) (cl : List (Str × Addr)) (fp : List Addr), PE (X.blk s H scope (compEnvC scope cl C X.env) fp) kx tk)
    (he : ∀ (s : Shared) (H : Hp) (C : Addr) (cl : List (Str × Addr)) (fp : List Addr), PE (X.blk s H scope (compEnvC scope cl C X.env) fp) vx tv)
    (hs : ∀ x, foldedSetIterable iter X.env x = pure x) (h : tDcT wi g tt tk tv (own.map (·.2)) σ H Q)
    (hRR : ∀ (D C : Addr) (s' : Shared) (m : Str → Option Value) (H' : Hp), L2.Inv X pins σ H' s' → Q (V.ref D) H' → s'.heap.Ns C m → FpOk X pins H' C → compPost (model X.prog X.w) X.A X.xe use Qf (Value.ref D) C (Except.ok Flow.next) s') :
    wpAny (model X.prog X.w) X.A (comprehension (kx.DictComp vx [⟨tg, iter, ifs, 0⟩] scope pos) scope X.env pos' newDict false (eval iter X.env) use) Qf X.xe s := by
  have hfree : ∀ y ∈ scope.names, y.2 = NameKind.free → ∃ c, List.lookup y.1 X.env.cells = some c := fun y hy e => by
    rcases ok.free y hy e with k | k
    · exact I.ok.has y.1 (.inl k)
    · exact I.ok.has y.1 (.inr k)
  refine wpAny_comprehension_free rfl hs (closure_ok hfree) ok.kind (fun y hy e => by rw [ok.uniq y hy, e]) (thn (hi.run pins s σ H _ I h) fun xv s1 hx => thn hx fun itv s2 h2 => ?_)
  obtain ⟨it, fp, tn, J, H2, e, I2, T, st2, f2, q⟩ := h2
  subst e
  refine wpAny_newObj_type (newEnv_comp ?_)
  have hDn : H2 s2.heap.objs.size = none := HOk.fresh I2.hok (Nat.le_refl _)
  obtain ⟨W, ⟨m0, w0⟩, turn⟩ := q s2.heap.objs.size hDn
  have I3 : L2.Inv X pins σ (upd H2 s2.heap.objs.size (.dT [])) { s2 with heap := s2.heap.push { cls := Value.type "dict", data := Data.dict #[] } } :=
    Inv.laid (t' := s2.toks) I2 (fun b o e => Heap.get?_push_of_some _ e) (Nat.le_refl _) (dt_empty s2.heap (Inv.big I2))
  have sz : ∀ b ∈ fp, b < s2.heap.objs.size := fun b hb => by
    obtain ⟨o, e, _⟩ := T.obj 0 s2.heap st2 b hb
    exact Heap.lt_size e
  have f3 : ∀ b ∈ fp, FpOk X pins (upd H2 s2.heap.objs.size (.dT [])) b ∧ b < (s2.heap.push { cls := Value.type "dict", data := Data.dict #[] }).objs.size := fun b hb => by
    have hlt := sz b hb
    refine ⟨⟨by rw [upd_ne (Nat.ne_of_lt hlt)]; exact (f2 b hb).1, (f2 b hb).2⟩, ?_⟩
    rw [Heap.size_push]
    exact Nat.lt_succ_of_lt hlt
  have I4 := block_start I3 ok hN f3
  have st4 : tn 0 (pushCells ((s2.heap.push { cls := Value.type "dict", data := Data.dict #[] }).push { cls := Value.type "dict", data := Data.dict #[] }) scope.names) :=
    T.keep 0 s2.heap _ st2 fun b _ o e => pushCells_keeps scope.names _ b o (Heap.get?_push_of_some _ (Heap.get?_push_of_some _ e))
  refine (fun loop => codeAny_compStart_dict loop (T.self X.A 0 _ _ _ st4 loop)) ?_
  refine (dcT_loop (Xb := X.blk { s2 with heap := s2.heap.push { cls := Value.type "dict", data := Data.dict #[] } } (upd H2 s2.heap.objs.size (.dT [])) scope
      (compEnvC scope (cellsFrom ((s2.heap.push { cls := Value.type "dict", data := Data.dict #[] }).objs.size + 1) scope.names (cloFrom X.env.cells scope.names [])) (s2.heap.push { cls := Value.type "dict", data := Data.dict #[] }).objs.size X.env) fp)
      hc rfl room (hg _ _ _ _ _) (ht _ _ _ _ _) (hk _ _ _ _ _) (he _ _ _ _ _) T
      (fun {σ' H' s'} I' hn b hb => ⟨hn b hb, (I'.ok.exf b hb).1, I'.ok.exfs b hb, Or.inl hb, fun x c e => (I'.ok.exf b hb).2 x c e, fun p hp => absurd (show p ∈ ([] : List (Addr × Obj)) ++ [] from hp) (by simp)⟩)
      turn (fun {H6 s6} I6 qq => ?_) ⟨0, _, I4, st4, fun b hb => (f3 b hb).1.1, w0⟩)
  · have I7 := Inv.call' I3 I6.os I6.base I6.hok I6.bare fun b hb => ⟨(f3 b hb).1.2.2.2.1, (f3 b hb).1.2.1, (f3 b hb).1.2.2.2.2.1, (f3 b hb).1.2.2.2.2.2⟩
    have nC : H6 (s2.heap.push { cls := Value.type "dict", data := Data.dict #[] }).objs.size = none := I6.free
    obtain ⟨m, hn, _⟩ := I6.loc
    exact hRR s2.heap.objs.size _ s6 m H6 I7 qq hn (Inv.fpOk I3 (Nat.le_refl _) nC)
theorem roomT {P : Program} {w : World} {K : Type} [DecidableEq K] {knd : PySem.KeyKind P w K} {A : Around} (h : A.units < cLine) : (tupleKind knd).room A := h
theorem pe_dcT {X : Cx} {kx vx tg iter : Expr} {ifs : List Expr} {scope : Scope} {own : List (Str × Nat)} {pos : Pos} {wi : TI} {g : TG} {tt : TT} {tk tv : TE} (hu : X.A.units + 1 < cLine) (hc : X.calm = true) (hN : X.N.Nodup) (hi : PI X tg iter wi) (ok : BlkOk X.N X.env.scope scope own)
    (hg : ∀ (s : Shared) (H : Hp) (C : Addr) (cl : List (Str × Addr)) (fp : List Addr), PG (X.blk s H scope (compEnvC scope cl C X.env) fp) tg g)
    (ht : ∀ (s : Shared) (H : Hp) (C : Addr) (cl : List (Str × Addr)) (fp : List Addr), PTs (X.blk s H scope (compEnvC scope cl C X.env) fp) ifs tt)
    (hk : ∀ (s : Shared) (H : Hp) (C : Addr) (cl : List (Str × Addr)) (fp : List Addr), PE (X.blk s H scope (compEnvC scope cl C X.env) fp) kx tk)
    (he : ∀ (s : Shared) (H : Hp) (C : Addr) (cl : List (Str × Addr)) (fp : List Addr), PE (X.blk s H scope (compEnvC scope cl C X.env) fp) vx tv)
    (hs : ∀ x, foldedSetIterable iter X.env x = pure x := by intro _; rfl) : PE X (.DictComp kx vx [⟨tg, iter, ifs, 0⟩] scope pos) (tDcT wi g tt tk tv (own.map (·.2))) := by
  refine ⟨fun pins s σ H Q I h => ?_⟩
  rw [arm_eval_DictComp]
  refine dcT_core (roomT (by omega)) hc hN I hi ok hg ht hk he hs h fun D C s' m H' I' q hn f => ?_
  refine ⟨m, hn, fun h'' sb => ?_⟩
  obtain ⟨f0, f1, f2, f3, f4, f5⟩ := f
  exact ⟨V.ref D, H', Inv.turned I' (fun b o hb e => (sb.2 b hb).trans e) f0 f1 f3 f4 f5, rfl, q⟩
theorem dcT_it {J : It} {n : Nat} {G : Hp → Prop} {Y : Nat → Hp → V → Hp → Prop} (Wk : Walk J n G Y) {g : TG} {tt : TT} {tk tv : TE} {vs : List Nat} {σ : L2.St} {H1 : Hp} {D : Addr} {Qd : Hp → Prop} (Pv : Nat → Hp → Prop) (h0 : Pv 0 (upd H1 D (.dT [])))
    (hG : ∀ i H, i ≤ n → Pv i H → G H) (hstep : ∀ i x H H', i < n → Pv i H → Y i H x H' → stepT g tt tk tv vs σ D x H' (Pv (i + 1))) (hfin : ∀ H, Pv n H → Qd H) : ∃ W : Nat → Nat → Hp → Prop, (∃ m, W 0 m (upd H1 D (.dT []))) ∧ turnT g tt tk tv vs σ D J W Qd := by
  refine ⟨fun i m H => i ≤ n ∧ m = n - i ∧ Pv i H, ⟨n, Nat.zero_le _, rfl, h0⟩, ?_⟩
  rintro i m H ⟨hi, rfl, hp⟩
  by_cases e : i = n
  · subst e
    exact .inl ⟨Wk.stops H (hG _ H hi hp), hfin H hp⟩
  · have lt : i < n := by omega
    exact .inr ⟨Wk.goes i H lt (hG i H hi hp), Pv (i + 1), fun H' h => ⟨n - (i + 1), by omega, by omega, rfl, h⟩, fun x H' y => hstep i x H H' lt hp (Wk.yields i H x H' lt (hG i H hi hp) y)⟩
end L2
end T_TD

section T_BH
set_option Elab.async false
set_option linter.all false
set_option maxRecDepth 100000
set_option maxHeartbeats 8000000
namespace Rw
open PySem L2 PyProof.Rows
/-! ### dicts whose keys are tuples of names -/
def kT (T : List (List Str × Addr)) : List (List Key × V) := T.map fun t => (t.1.map Sum.inr, .ref t.2)
theorem inr_inj {a b : List Str} (h : a.map (Sum.inr : Str → Key) = b.map Sum.inr) : a = b := (List.map_inj_right (fun _ _ z => Sum.inr.inj z)).mp h
theorem keyS (p : List Str) : (p.map (Sum.inr : Str → Key)).map kV = p.map V.str := by rw [List.map_map]; rfl
theorem kT_none {T : List (List Str × Addr)} {p : List Str} (h : p ∉ T.map (·.1)) : valV (kT T) (p.map Sum.inr) = none := by
  induction T with
  | nil => rfl
  | cons t T ih =>
    show valV ((t.1.map Sum.inr, V.ref t.2) :: kT T) (p.map Sum.inr) = none
    rw [valV_neg (fun e => h (by rw [← inr_inj e]; exact List.mem_cons_self))]
    exact ih fun q => h (List.mem_cons_of_mem _ q)
theorem kT_get {T : List (List Str × Addr)} {t : List Str × Addr} (nd : (T.map (·.1)).Nodup) (h : t ∈ T) : valV (kT T) (t.1.map Sum.inr) = some (.ref t.2) := by
  induction T with
  | nil => cases h
  | cons u T ih =>
    show valV ((u.1.map Sum.inr, V.ref u.2) :: kT T) (t.1.map Sum.inr) = _
    rcases List.mem_cons.mp h with rfl | h
    · exact valV_pos rfl
    · have nd' := List.nodup_cons.mp nd
      rw [valV_neg (fun e => nd'.1 (show u.1 ∈ T.map (·.1) by rw [inr_inj e]; exact List.mem_map_of_mem h))]
      exact ih nd'.2 h
theorem kT_new {T : List (List Str × Addr)} {p : List Str} {a : Addr} (h : p ∉ T.map (·.1)) : putK (kT T) (p.map Sum.inr) (.ref a) = kT (T ++ [(p, a)]) := by
  rw [putK_new _ (kT_none h)]
  unfold kT
  rw [List.map_append]
  rfl
theorem kT_len (T : List (List Str × Addr)) : (kT T).length = T.length := by unfold kT; rw [List.length_map]
theorem parts0_nodup : ∀ (r : List Str), r.reverse.Nodup → (parts0 r.reverse).Nodup
  | [], _ => by decide
  | z :: r, h => by
    rw [List.reverse_cons] at h ⊢
    rw [parts0_snoc, List.nodup_append]
    have h' := List.nodup_append.mp h
    have ih := parts0_nodup r h'.1
    refine ⟨ih, ?_, fun a ha b hb e => ?_⟩
    · refine List.Pairwise.map _ (R := fun a b : List Str => a ≠ b) (fun a b ne e => ne ?_) ih
      exact (List.append_inj' e rfl).1
    · obtain ⟨c, _, rfl⟩ := List.mem_map.mp hb
      have hz : z ∈ a := by rw [e]; exact List.mem_append_right _ List.mem_cons_self
      exact h'.2.2 z ((parts0_sub ha).subset hz) z List.mem_cons_self rfl
theorem partsS_perm (zs : List Str) : (partsS zs).Perm (parts0 zs) := by
  unfold partsS
  split
  · rename_i c
    exact (Classical.choose_spec c).1
  · exact List.Perm.refl _
theorem partsS_nodup {zs : List Str} (h : zs.Nodup) : (partsS zs).Nodup := by
  rw [(partsS_perm zs).nodup_iff]
  have := parts0_nodup zs.reverse (by rw [List.reverse_reverse]; exact h)
  rwa [List.reverse_reverse] at this
theorem partsS_len {zs : List Str} (h : zs.length ≤ 6) : (partsS zs).length ≤ 64 := by
  rw [(partsS_perm zs).length_eq, parts0_len _ zs rfl]
  exact Nat.le_trans (Nat.pow_le_pow_right (by decide) h) (by decide)
/-! ### the wishes that are broken at a moment -/
abbrev wishes4 : List Str := ["home", "lost", "posts", "rings"]
def badB (ends dots ss ps : List Str) (o n : Str → List (Str × V)) (on : List Str) (wd : Str) : Bool := (places wd ends dots ss).any fun q => brk dots ps o n wd on q.1 q.2
def bads (ends dots ss ps : List Str) (o n : Str → List (Str × V)) (on : List Str) : List Str := wishes4.filter (badB ends dots ss ps o n on)
theorem wishes4_sorted : sortedS wishes4 = true := by decide +kernel
theorem bads_is {ends dots ss ps : List Str} {o n : Str → List (Str × V)} {on ws ys : List Str} (h : ∀ x, x ∈ ws ↔ x ∈ wishes4 ∧ badB ends dots ss ps o n on x = true) (hp : ys.Perm (seen ws)) (hs : sortedS ys = true) : ys = bads ends dots ss ps o n on := by
  refine sorted_uniq hs (sorted_sub List.filter_sublist wishes4_sorted) (hp.trans ?_)
  obtain ⟨h1, h2, _⟩ := seen_rev ws
  refine (List.perm_ext_iff_of_nodup h1 (List.Pairwise.filter _ (by decide +kernel))).mpr fun x => ?_
  rw [h2, h, List.mem_filter]
/-- a dict from parts to the wishes that f tells -/
structure BadAt (H : Hp) (b : Addr) (f : List Str → List Str) (Ps : List (List Str)) : Prop where
  ex : ∃ T : List (List Str × Addr), H b = some (.dT (kT T)) ∧ T.map (·.1) = Ps ∧ ∀ t ∈ T, H t.2 = some (.lst ((f t.1).map V.str))
theorem BadAt.to {H H' : Hp} {b : Addr} {f : List Str → List Str} {Ps : List (List Str)} (h : BadAt H b f Ps) (x : Evl.Ex H H') : BadAt H' b f Ps := by
  obtain ⟨T, h1, h2, h3⟩ := h
  exact ⟨T, x _ _ h1, h2, fun t ht => x _ _ (h3 t ht)⟩
theorem badB_mem {ends dots ss ps : List Str} {o n : Str → List (Str × V)} {on : List Str} {wd : Str} : badB ends dots ss ps o n on wd = true ↔ ∃ e ∈ ends, ∃ z ∈ startsOf wd dots ss, brk dots ps o n wd on e z = true := by
  unfold badB places
  rw [List.any_eq_true]
  constructor
  · rintro ⟨q, hq, h⟩
    obtain ⟨e, he, hq⟩ := List.mem_flatMap.mp hq
    obtain ⟨z, hz, rfl⟩ := List.mem_map.mp hq
    exact ⟨e, he, z, hz, h⟩
  · rintro ⟨e, he, z, hz, h⟩
    exact ⟨(e, z), List.mem_flatMap.mpr ⟨e, he, List.mem_map_of_mem hz⟩, h⟩
theorem row_form {dots ss : List Str} {e : Str} {o n : Str → List (Str × V)} {on : List Str} {z : Str} (ho : TabOk dots e (o e)) (hn : TabOk dots e (n e)) (dm : ∀ y ∈ dots, Nm y) (em : Nm e) (hz : z ∈ dots) :
    ∃ (zs : List Str) (u : V), walkOf (nowTab dots (o e) (n e) on) (dots.length + 1) z = zs.map V.str ++ [u] ∧ Spot u ∧ ∀ y ∈ zs, Nm y := by
  have LD : LeadOk dots (nowTab dots (o e) (n e) on) := nowTab_lead ho hn dm em
  obtain ⟨zs, u, ew, hu⟩ := track_form (tb := nowTab dots (o e) (n e) on) LD.sp (dots.length + 1) [] (.str z) (.inr ⟨z, rfl, dm z hz⟩)
  refine ⟨zs, u, ew, hu, fun y hy => ?_⟩
  have q1 := track_spots (tb := nowTab dots (o e) (n e) on) LD.sp (dots.length + 1) [] (.str z) (fun _ h => nomatch h) (.inr ⟨z, rfl, dm z hz⟩) (.str y) (by rw [ew]; exact List.mem_append_left _ (List.mem_map_of_mem hy))
  rcases q1 with q1 | ⟨y', q1, q2⟩
  · cases q1
  · cases q1
    exact q2
theorem filter_nil_iff {zs : List Str} {p : Str → Bool} : (zs.filter p).isEmpty = true ↔ ∀ z ∈ zs, ¬ p z = true := by
  rw [List.isEmpty_iff, List.filter_eq_nil_iff]
end Rw
end T_BH

section T_BO
set_option Elab.async false
set_option linter.all false
set_option maxRecDepth 100000
set_option maxHeartbeats 4000000
namespace Rw
open PySem L2 PyProof.Rows
/-! ### dicts whose keys are tuples, each with True -/
def kB (M : List (List Str)) : List (List Key × V) := M.map fun p => (p.map Sum.inr, .bl true)
theorem kB_none {M : List (List Str)} {p : List Str} (h : p ∉ M) : valV (kB M) (p.map Sum.inr) = none := by
  induction M with
  | nil => rfl
  | cons t M ih =>
    show valV ((t.map Sum.inr, V.bl true) :: kB M) (p.map Sum.inr) = none
    rw [valV_neg (fun e => h (by rw [← inr_inj e]; exact List.mem_cons_self))]
    exact ih fun q => h (List.mem_cons_of_mem _ q)
theorem kB_some {M : List (List Str)} {p : List Str} (h : p ∈ M) : valV (kB M) (p.map Sum.inr) = some (.bl true) := by
  induction M with
  | nil => cases h
  | cons t M ih =>
    show valV ((t.map Sum.inr, V.bl true) :: kB M) (p.map Sum.inr) = _
    by_cases e : t = p
    · subst e
      exact valV_pos rfl
    · rw [valV_neg (fun z => e (inr_inj z))]
      exact ih ((List.mem_cons.mp h).resolve_left fun z => e z.symm)
theorem kB_has (M : List (List Str)) (p : List Str) : (valV (kB M) (p.map Sum.inr)).isSome = decide (p ∈ M) := by
  by_cases m : p ∈ M
  · rw [kB_some m, decide_eq_true m]
    rfl
  · rw [kB_none m, decide_eq_false m]
    rfl
theorem kB_new {M : List (List Str)} {p : List Str} (h : p ∉ M) : putK (kB M) (p.map Sum.inr) (.bl true) = kB (M ++ [p]) := by
  rw [putK_new _ (kB_none h)]
  unfold kB
  rw [List.map_append]
  rfl
theorem kB_len (M : List (List Str)) : (kB M).length = M.length := by unfold kB; rw [List.length_map]
end Rw
end T_BO

section T_RD
set_option Elab.async false
set_option linter.all false
set_option maxRecDepth 100000
set_option maxHeartbeats 8000000
namespace Rw
open PySem L2 PyProof.Rows
/-! ### tuples of names as data -/
theorem dpa_strs {K : PySem.W.Frag} {H : Hp} : ∀ zs : List Str, DpAll K H (zs.map V.str) (zs.map PyData.str)
  | [] => .nil
  | z :: zs => .cons (.str z) (dpa_strs zs)
theorem eqvAll_strs : ∀ zs ys : List Str, PyData.eqvAll (zs.map PyData.str) (ys.map PyData.str) = decide (zs = ys)
  | [], [] => rfl
  | [], _ :: _ => rfl
  | _ :: _, [] => rfl
  | z :: zs, y :: ys => by
    show (PyData.eqv (.str z) (.str y) && PyData.eqvAll (zs.map PyData.str) (ys.map PyData.str)) = _
    rw [eqvAll_strs zs ys, show PyData.eqv (.str z) (.str y) = (z == y) from rfl]
    by_cases e : z = y
    · subst e
      by_cases f : zs = ys
      · subst f; simp
      · simp [f]
    · simp [e]
theorem dp_row {K : PySem.W.Frag} {H : Hp} {a : Addr} {zs : List Str} (h : H a = some (.tup (zs.map V.str))) : Dp K H (.ref a) (.tuple (zs.map PyData.str)) := .tup (Evl.st_of h) (dpa_strs zs)
theorem dpa_rows {K : PySem.W.Frag} {H : Hp} : ∀ {L : List (Addr × List Str)}, RowsT H L → DpAll K H (L.map fun q => V.ref q.1) (L.map fun q => PyData.tuple (q.2.map PyData.str))
  | [], _ => .nil
  | q :: L, h => .cons (dp_row (h q List.mem_cons_self)) (dpa_rows fun r hr => h r (List.mem_cons_of_mem _ hr))
theorem lay_strs : ∀ {zs : List Str}, (∀ z ∈ zs, Nm z) → PyData.canLayAll0 (zs.map PyData.str) = true ∧ PyData.depthAll (zs.map PyData.str) = 0
  | [], _ => ⟨rfl, rfl⟩
  | z :: zs, h => by
    obtain ⟨h1, h2⟩ := lay_strs fun y hy => h y (List.mem_cons_of_mem _ hy)
    constructor
    · show (PyData.strOk z && PyData.canLayAll0 (zs.map PyData.str)) = true
      rw [h1, nm_ok (h z List.mem_cons_self)]
      rfl
    · show max 0 (PyData.depthAll (zs.map PyData.str)) = 0
      rw [h2]
      rfl
theorem row_shaped {zs : List Str} (h : ∀ z ∈ zs, Nm z) : SeqAt.shaped (.tuple (zs.map PyData.str)) = true := by
  obtain ⟨h1, h2⟩ := lay_strs h
  exact shaped_tup h1 (by omega)
theorem lay_rows : ∀ {L : List (Addr × List Str)}, (∀ q ∈ L, ∀ z ∈ q.2, Nm z) → PyData.canLayAll0 (L.map fun q => PyData.tuple (q.2.map PyData.str)) = true ∧ PyData.depthAll (L.map fun q => PyData.tuple (q.2.map PyData.str)) ≤ 1
  | [], _ => ⟨rfl, Nat.zero_le _⟩
  | q :: L, h => by
    obtain ⟨h1, h2⟩ := lay_rows fun r hr => h r (List.mem_cons_of_mem _ hr)
    obtain ⟨h3, h4⟩ := lay_strs (h q List.mem_cons_self)
    constructor
    · show (PyData.canLayAll0 (q.2.map PyData.str) && PyData.canLayAll0 (L.map fun q => PyData.tuple (q.2.map PyData.str))) = true
      rw [h1, h3]
      rfl
    · show max (PyData.depthAll (q.2.map PyData.str) + 1) (PyData.depthAll (L.map fun q => PyData.tuple (q.2.map PyData.str))) ≤ 1
      omega
theorem rows_shaped {L : List (Addr × List Str)} (h : ∀ q ∈ L, ∀ z ∈ q.2, Nm z) : SeqAt.shaped (.list (L.map fun q => PyData.tuple (q.2.map PyData.str))) = true := by
  obtain ⟨h1, h2⟩ := lay_rows h
  unfold SeqAt.shaped
  rw [show PyData.canLay0 (.list (L.map fun q => PyData.tuple (q.2.map PyData.str))) = PyData.canLayAll0 (L.map fun q => PyData.tuple (q.2.map PyData.str)) from rfl, h1, show PyData.depth (.list (L.map fun q => PyData.tuple (q.2.map PyData.str))) = PyData.depthAll (L.map fun q => PyData.tuple (q.2.map PyData.str)) + 1 from rfl]
  exact decide_eq_true (show PyData.depthAll _ + 1 ≤ 64 by omega)
theorem any_rows (L : List (Addr × List Str)) (zs : List Str) : ((L.map fun q => PyData.tuple (q.2.map PyData.str)).any fun z => PyData.eqv z (.tuple (zs.map PyData.str))) = decide (zs ∈ L.map (·.2)) := by
  induction L with
  | nil => rfl
  | cons q L ih =>
    show (PyData.eqvAll (q.2.map PyData.str) (zs.map PyData.str) || (L.map fun q => PyData.tuple (q.2.map PyData.str)).any fun z => PyData.eqv z (.tuple (zs.map PyData.str))) = _
    rw [ih, eqvAll_strs]
    by_cases e : q.2 = zs
    · rw [decide_eq_true e, decide_eq_true (show zs ∈ (q :: L).map (·.2) by rw [← e]; exact List.mem_cons_self)]
      rfl
    · rw [decide_eq_false e, Bool.false_or]
      by_cases m : zs ∈ L.map (·.2)
      · rw [decide_eq_true m, decide_eq_true (show zs ∈ (q :: L).map (·.2) from List.mem_cons_of_mem _ m)]
      · rw [decide_eq_false m, decide_eq_false (fun h : zs ∈ (q :: L).map (·.2) => (List.mem_cons.mp h).elim (fun h => e h.symm) m)]
end Rw
end T_RD

section T_GL
set_option Elab.async false
set_option linter.all false
set_option maxRecDepth 100000
set_option maxHeartbeats 8000000
namespace Rw
open PySem L2 PyProof.Rows
/-! ### greatest rounds -/
/-- a part with one more node -/
def insS (rest fr : List Str) (z : Str) : List Str := rest.filter fun y => decide (y ∈ fr ++ [z])
def growB (rest : List Str) (safe : List (List Str)) (fr : List Str) (z : Str) : Bool := decide (z ∉ fr) && decide (insS rest fr z ∈ safe)
def topB (rest : List Str) (safe : List (List Str)) (fr : List Str) : Bool := (rest.filter (growB rest safe fr)).isEmpty
def greatestL (rest : List Str) (safe : List (List Str)) : List (List Str) := safe.filter (topB rest safe)
theorem insS_is {rest fr js : List Str} {z : Str} (hr : sortedS rest = true) (nd : rest.Nodup) (hf : fr.Sublist rest) (hz : z ∈ rest) (hn : z ∉ fr) (hp : js.Perm (fr ++ [z])) (hs : sortedS js = true) : js = insS rest fr z := by
  refine sorted_uniq hs (sorted_sub List.filter_sublist hr) (hp.trans ?_)
  have nd2 : (fr ++ [z]).Nodup := by
    rw [List.nodup_append]
    exact ⟨nd.sublist hf, by simp, fun a ha b hb e => hn (by rw [List.mem_singleton.mp hb] at e; exact e ▸ ha)⟩
  refine (List.perm_ext_iff_of_nodup nd2 (List.Pairwise.filter _ nd)).mpr fun x => ?_
  rw [List.mem_filter]
  constructor
  · intro h
    refine ⟨?_, decide_eq_true h⟩
    rcases List.mem_append.mp h with h | h
    · exact hf.subset h
    · rw [List.mem_singleton.mp h]; exact hz
  · exact fun h => of_decide_eq_true h.2
theorem un65 {k : Nat} {A : Around} (h : Room k A) : A.units + 65 < cLine := by
  have := h.un
  omega
theorem restOf_sub (zs ys : List Str) : (restOf zs ys).Sublist ys := List.filter_sublist
end Rw
end T_GL

section T_S6
set_option Elab.async false
set_option linter.all false
set_option maxRecDepth 100000
set_option maxHeartbeats 4000000
namespace Rw
open PySem PySem.Spec PyProof.Rows
/-! ### sorted(tuples of texts) -/
theorem lexS_swo {α : Type} (k : α → List Str) : SrtO.Swo fun a b => lexS (k a) (k b) := ⟨fun _ _ h => lexS_no h, fun _ _ _ h1 h2 => lexS_tr h1 h2⟩
section
variable {prog : Program} {w : World} {A : Around} {E : Value → Shared → Prop} {s : Shared}
/-- a tuple of texts, not empty -/
def IsTS (h : Heap) (v : Value) (xs : List Str) : Prop := ∃ (a : Addr) (us : Array Value), v = .ref a ∧ IsTup h a us ∧ StrsAre us.toList xs ∧ xs ≠ []
theorem IsTS.on {h h' : Heap} {v : Value} {k : List Str} (x : IsTS h v k) (keep : ∀ b o, h.get? b = some o → o.cls = .type "tuple" → h'.get? b = some o) : IsTS h' v k := by
  obtain ⟨a, us, e, ⟨o, h1, h2, h3⟩, r, n⟩ := x
  exact ⟨a, us, e, ⟨o, keep _ _ h1 h2, h2, h3⟩, r, n⟩
theorem ts_lex {L1 L2 : Nat} : ∀ {as bs : List Value} {xs ys : List Str}, StrsAre as xs → StrsAre bs ys → xs.length + L2 = ys.length + L1 → ∀ i,
    PySem.W.KatLex prog w A true (decide (L1 < L2)) (fun r t => t = s ∧ r = lexS xs ys) (as.zip bs) i s
  | _, _, _, _, .nil, .nil, hl, i => PySem.W.kat_nil ⟨rfl, decide_eq_false (by simp only [List.length_nil] at hl; omega)⟩
  | _, _, _, _, .nil, .cons y t2 hb, hl, i => PySem.W.kat_nil ⟨rfl, decide_eq_true (by simp only [List.length_nil, List.length_cons] at hl; omega)⟩
  | _, _, _, _, .cons x t1 ha, .nil, hl, i => by
    rw [List.zip_nil_right]
    exact PySem.W.kat_nil ⟨rfl, decide_eq_false (by simp only [List.length_nil, List.length_cons] at hl; omega)⟩
  | _, _, _, _, .cons x t1 ha, .cons y t2 hb, hl, i => by
    rw [List.zip_cons_cons]
    refine PySem.W.kat_cons (SeqAt.EqAt.str_str x t1 y t2 prog w _ _ ?_)
    refine PySem.W.kat_go (fun e1 => ?_) (fun e1 => ?_)
    · have e : x = y := by simpa using e1
      rw [lexS_step, if_pos e]
      exact PySem.W.kat_yes (ts_lex ha hb (by simp only [List.length_cons] at hl; omega) (i + 1))
    · have e : ¬ x = y := by simpa using e1
      rw [lexS_step, if_neg e]
      exact PySem.W.kat_no (oneLt_any_str ⟨rfl, rfl⟩)
theorem ts_cmp {vs : List Value} {k : Value → List Str} (hp : ∀ v ∈ vs, IsTS s.heap v (k v)) : SrtO.Cmp prog w A s (tuples' true) (fun p => p.1 ∈ vs) (SrtO.lt2 fun v u => lexS (k v) (k u)) := by
  intro p q m1 m2
  have h1 := hp _ m1
  have h2 := hp _ m2
  show wpAny (model prog w) A (keyLt' (tuples' true) p.1 q.1) (fun r t => t = s ∧ r = lexS (k p.1) (k q.1)) (fun _ _ => False) s
  generalize k p.1 = xs at h1 ⊢
  generalize k q.1 = ys at h2 ⊢
  obtain ⟨a, us, ep, ⟨o, g1, g2, n, g3⟩, rs, _⟩ := h1
  obtain ⟨a', us', eq, ⟨o', g1', g2', n', g3'⟩, rs', _⟩ := h2
  rw [ep, eq]
  refine PySem.W.kat_lt g1 g3 g1' g3' ?_
  have l1 : us.size = xs.length := by rw [← rs.len_eq, Array.length_toList]
  have l2 : us'.size = ys.length := by rw [← rs'.len_eq, Array.length_toList]
  exact ts_lex rs rs' (by omega) 0
theorem ts_firsts {h : Heap} {k : Value → List Str} : ∀ {vs : List Value}, (∀ v ∈ vs, IsTS h v (k v)) → ∃ fs : List Value, PySem.W.KatTups h vs fs ∧ fs.length = vs.length ∧ ∀ f ∈ fs, ∃ x t, f = Value.str x t
  | [], _ => ⟨[], PySem.W.KatTups.nil, rfl, fun _ z => nomatch z⟩
  | v :: vs, hp => by
    obtain ⟨fs, g1, g2, g3⟩ := ts_firsts (vs := vs) fun u hu => hp u (List.mem_cons_of_mem _ hu)
    obtain ⟨a, us, rfl, ⟨o, h1, h2, n, h3⟩, r, ne⟩ := hp v List.mem_cons_self
    obtain ⟨x, t, h0⟩ : ∃ x t, us[0]? = some (Value.str x t) := by
      rw [← Array.getElem?_toList]
      cases r' : us.toList with
      | nil =>
        rw [r'] at r
        cases q : k (.ref a) with
        | nil => exact absurd q ne
        | cons y ys => rw [q] at r; cases r
      | cons u r2 =>
        rw [r'] at r
        cases q : k (.ref a) with
        | nil => exact absurd q ne
        | cons y ys =>
          rw [q] at r
          cases r with
          | cons _ t _ => exact ⟨y, t, rfl⟩
    refine ⟨.str x t :: fs, PySem.W.KatTups.cons h1 h2 h3 h0 g1, congrArg (· + 1) g2, fun f hf => ?_⟩
    rcases List.mem_cons.mp hf with rfl | hf
    · exact ⟨_, t, rfl⟩
    · exact g3 f hf
theorem ts_sortable {a : Addr} {vs : List Value} {k : Value → List Str} (h0 : 0 < vs.length) (hp : ∀ v ∈ vs, IsTS s.heap v (k v)) (ha : ∀ o, s.heap.get? a = some o → o.cls ≠ .type "tuple") : SrtO.SortableO prog w A s a vs fun v u => lexS (k v) (k u) := by
  intro h' keep
  have hp' : ∀ v ∈ vs, IsTS h' v (k v) := fun v hv => (hp v hv).on fun b o e c => keep b o (fun z => by subst z; exact ha o e c) e
  obtain ⟨fs, g1, g2, g3⟩ := ts_firsts hp'
  refine ⟨tuples' true, fun Q E hq => ?_, ts_cmp (s := { s with heap := h' }) hp'⟩
  refine PySem.W.kat_kind (T := .type "str") g1 (by omega) (fun f hf => ?_) (by rfl) ?_
  · obtain ⟨x, t, rfl⟩ := g3 f hf
    exact PySem.W.Looks.now
  · rw [show (Value.type "str" != Value.type "tuple") = true by first | decide +kernel | rfl]
    exact hq
end
end Rw
namespace L2
open PySem PySem.Spec PyProof.Rows
/-- sorted(xs), xs a list of tuples of texts, none empty: a new list, in order -/
def rSortTS (K : PySem.W.Frag) : List V → Hp → VK → Prop := fun vs H Q => ∃ (a : Addr) (xs : List V) (k : V → List Str), vs = [V.ref a] ∧ SqL K H a xs ∧ (∀ x ∈ xs, ∃ t, x = V.ref t ∧ H t = some (.tup ((k x).map V.str)) ∧ k x ≠ []) ∧
  ∀ ys p, ys.Perm xs → SrtO.Srtd (fun x y => Rw.lexS (k x) (k y)) ys → H p = none → Q (.ref p) (upd H p (.lst ys))
theorem cr_sortTS {X : Cx} : CallR X (.builtin "sorted") (rSortTS X.K) := by
  intro pins s σ H vs us Q I r h
  obtain ⟨a, xs, k, rfl, hs, hx, q⟩ := h
  obtain ⟨its, rv, hl, hz⟩ := I.list hs
  obtain ⟨u, rfl, ru⟩ := vals1 r
  obtain rfl : u = Value.ref a := ru
  obtain ⟨e1, e2⟩ := refs_back rv fun x m => by
    obtain ⟨t, e, _⟩ := hx x m
    exact ⟨t, e⟩
  have all : ∀ v ∈ its, Rw.IsTS s.heap v (k (backV v)) := fun v hv => by
    obtain ⟨t, rfl⟩ := e2 v hv
    have hm : V.ref t ∈ xs := by rw [e1]; exact List.mem_map.mpr ⟨_, hv, rfl⟩
    obtain ⟨t', e, ht, ne⟩ := hx _ hm
    cases e
    obtain ⟨_, i3, r3, o3, ho3, hc3, n3, hd3⟩ := I.hok _ _ ht
    exact ⟨t, i3.toArray, rfl, ⟨o3, ho3, hc3, n3, hd3⟩, Vals.strs r3, ne⟩
  refine SrtO.sorted_ord (Rw.lexS_swo fun v => k (backV v)) hl.isList (by rw [← rv.length]; exact hz) (fun h2 h1 d hd kk => ?_) fun out hs1 hb1 => ?_
  · refine Rw.ts_sortable (s := { s with heap := h1 }) (by omega) (fun v hv => (all v hv).on fun b o e _ => (kk b o e).2) fun o e => ?_
    have e' : some o = some (seqObj "list" its.toArray 0) := e.symm.trans hd
    cases e'
    intro c
    exact absurd (Value.type.inj c) (by decide)
  · have h3 : ∀ u ∈ out, ∃ a, u = Value.ref a := fun u hu => e2 u (hb1.perm.mem_iff.mp hu)
    have hp : (out.map backV).Perm xs := by rw [e1]; exact hb1.perm.map _
    obtain ⟨n, hn⟩ := sortedAll_at s.heap its out.toArray
    refine ⟨.ref (s.heap.objs.size + 1), upd H (s.heap.objs.size + 1) (.lst (out.map backV)), I.laid (t' := s.toks) (fun b o e => sortedAll_old e) (Nat.le_succ _) ⟨?_, out, n, vals_back h3, hn⟩, rfl, q _ _ hp (SrtO.srtd_map (f := backV) (lt := fun x y => Rw.lexS (k x) (k y)) hs1) (I.hok.fresh (Nat.le_succ _))⟩
    rw [hp.length_eq]
    exact hz
end L2
end T_S6

section T_CB
set_option Elab.async false
set_option linter.all false
set_option maxRecDepth 100000
set_option maxHeartbeats 4000000
namespace Rw
open PySem L2 PyProof.Rows LamX
theorem sub_filter {p rest : List Str} (h : p.Sublist rest) (nd : rest.Nodup) : p = rest.filter fun z => decide (z ∈ p) := by
  induction h with
  | slnil => rfl
  | cons a h ih =>
    rename_i l1 l2
    have nd' := List.nodup_cons.mp nd
    have na : a ∉ l1 := fun m => nd'.1 (h.subset m)
    rw [List.filter_cons_of_neg (by rw [decide_eq_false na]; decide)]
    exact ih nd'.2
  | cons_cons a h ih =>
    rename_i l1 l2
    have nd' := List.nodup_cons.mp nd
    rw [List.filter_cons_of_pos (by rw [decide_eq_true List.mem_cons_self])]
    congr 1
    refine (ih nd'.2).trans (List.filter_congr fun z hz => ?_)
    have ne : z ≠ a := fun e => nd'.1 (e ▸ hz)
    by_cases m : z ∈ l1
    · rw [decide_eq_true m, decide_eq_true (List.mem_cons_of_mem _ m)]
    · rw [decide_eq_false m, decide_eq_false (fun q => (List.mem_cons.mp q).elim ne m)]
theorem sub_eq {p q rest : List Str} (hp : p.Sublist rest) (hq : q.Sublist rest) (nd : rest.Nodup) (h : ∀ z, z ∈ p ↔ z ∈ q) : p = q := by
  rw [sub_filter hp nd, sub_filter hq nd]
  refine List.filter_congr fun z _ => ?_
  by_cases m : z ∈ p
  · rw [decide_eq_true m, decide_eq_true ((h z).mp m)]
  · rw [decide_eq_false m, decide_eq_false fun q => m ((h z).mpr q)]
theorem sub_less {p q rest : List Str} (hp : p.Sublist rest) (hq : q.Sublist rest) (nd : rest.Nodup) (h : ∀ z ∈ p, z ∈ q) (ne : p ≠ q) : p.length < q.length := by
  rcases Nat.lt_or_ge p.length q.length with l | l
  · exact l
  · exfalso
    refine ne (sub_eq hp hq nd fun z => ⟨h z, fun hz => Decidable.byContradiction fun m => ?_⟩)
    have h1 := nodup_le (z :: p) q (List.nodup_cons.mpr ⟨m, nd.sublist hp⟩) fun y hy => (List.mem_cons.mp hy).elim (fun e => e ▸ hz) (h y)
    rw [List.length_cons] at h1
    omega
theorem numRow_le {p q : List Str} (h : numRow ((q.length : Int), q) ((p.length : Int), p) = false) : p.length ≤ q.length := by
  unfold numRow at h
  dsimp only at h
  by_cases e : (q.length : Int) = (p.length : Int)
  · omega
  · rw [if_neg e, decide_eq_false_iff_not] at h
    omega
theorem srt_ex (l : List (List Str)) : ∃ Ls : List (List Str), Ls.Perm l ∧ RowsSrt Ls := by
  have sw := numRow_swo fun p : List Str => ((p.length : Int), p)
  refine ⟨l.mergeSort fun p q => !numRow ((q.length : Int), q) ((p.length : Int), p), List.mergeSort_perm _ _, ?_⟩
  refine (List.pairwise_mergeSort (fun a b c h1 h2 => ?_) (fun a b => ?_) l).imp fun {a b} h => by simpa using h
  · simp only [Bool.not_eq_true'] at h1 h2 ⊢
    exact sw.2 a b c h1 h2
  · cases e : numRow ((b.length : Int), b) ((a.length : Int), a) with
    | false => rfl
    | true =>
      have := sw.1 _ _ e
      rw [this]
      rfl
theorem partsS_srt (zs : List Str) : RowsSrt (partsS zs) := by
  unfold partsS
  split
  · rename_i c
    exact (Classical.choose_spec c).2
  · rename_i c
    exact absurd (srt_ex (parts0 zs)) c
theorem partsS_mem {zs p : List Str} : p ∈ partsS zs ↔ p.Sublist zs := ⟨partsS_sub, partsS_has⟩
/-- the least lots are those that have no lesser one -/
theorem badB_fault {ends dots ss ps : List Str} {o n : Str → List (Str × V)} {on : List Str} {wd : Str} : badB ends dots ss ps o n on wd = (faultAt ends dots ss ps o n wd on).isSome := by
  unfold badB faultAt
  rw [List.isSome_find?]
theorem pair_some {H : Hp} {v : V} {r : Option (Str × Str)} (h : PairIs H v r) : (!decide (v = .non)) = r.isSome := by
  cases r with
  | none =>
    have e : v = .non := h
    rw [e]
    rfl
  | some q =>
    obtain ⟨e, z⟩ := q
    obtain ⟨p, rfl, _⟩ := h
    rfl
/-- two lists in order of the same lots -/
theorem lex_uniq : ∀ {l m : List (List Str)}, l.Perm m → (l.Pairwise fun p q => lexS q p = false) → (m.Pairwise fun p q => lexS q p = false) → l = m := by
  intro l
  induction l with
  | nil => intro m hp _ _; exact (List.nil_perm.mp hp).symm
  | cons a l ih =>
    intro m hp hl hm
    cases m with
    | nil => exact absurd hp.length_eq (by simp)
    | cons b m =>
      have hab : a = b := by
        have ha : a ∈ b :: m := hp.mem_iff.mp List.mem_cons_self
        have hb : b ∈ a :: l := hp.mem_iff.mpr List.mem_cons_self
        rcases List.mem_cons.mp ha with e | ha
        · exact e
        · rcases List.mem_cons.mp hb with e | hb
          · exact e.symm
          · exact lexS_tot ((List.pairwise_cons.mp hm).1 a ha) ((List.pairwise_cons.mp hl).1 b hb)
      subst hab
      rw [ih (List.perm_cons a |>.mp hp) (List.pairwise_cons.mp hl).2 (List.pairwise_cons.mp hm).2]
end Rw
end T_CB

section T_U0
set_option Elab.async false
set_option linter.all false
set_option maxRecDepth 100000
set_option maxHeartbeats 4000000
namespace Rw
open PySem L2 PyProof.Rows
/-! ### plans: lots, safe rounds, numbers of rounds, plans counted and numbered -/
/-- the nodes of either lot -/
def mixS (ys zs p : List Str) : List Str := ys.filter fun z => decide (z ∈ zs ∨ z ∈ p)
theorem mixS_sub (ys zs p : List Str) : (mixS ys zs p).Sublist ys := List.filter_sublist
theorem mixS_mem {ys zs p : List Str} (hz : zs.Sublist ys) (hp : p.Sublist ys) {x : Str} : x ∈ mixS ys zs p ↔ x ∈ zs ∨ x ∈ p := by
  unfold mixS
  rw [List.mem_filter]
  exact ⟨fun h => of_decide_eq_true h.2, fun h => ⟨h.elim (fun q => hz.subset q) (fun q => hp.subset q), decide_eq_true h⟩⟩
theorem mixS_is {ys zs p js : List Str} (so : sortedS ys = true) (nd : ys.Nodup) (hz : zs.Sublist ys) (hq : p.Sublist ys) (dis : ∀ x ∈ p, x ∉ zs) (hp : js.Perm (zs ++ p)) (hs : sortedS js = true) : js = mixS ys zs p := by
  refine sorted_uniq hs (sorted_sub List.filter_sublist so) (hp.trans ?_)
  have nd2 : (zs ++ p).Nodup := by
    rw [List.nodup_append]
    exact ⟨nd.sublist hz, nd.sublist hq, fun a ha b hb e => dis b hb (e ▸ ha)⟩
  refine (List.perm_ext_iff_of_nodup nd2 (List.Pairwise.filter _ nd)).mpr fun x => ?_
  rw [List.mem_append]
  exact (mixS_mem hz hq).symm
theorem mixS_nil {ys zs : List Str} (nd : ys.Nodup) (hz : zs.Sublist ys) : mixS ys zs [] = zs :=
  sub_eq (mixS_sub _ _ _) hz nd fun x => (mixS_mem hz (List.nil_sublist _)).trans ⟨fun h => h.resolve_right (fun q => nomatch q), .inl⟩
theorem restOf_mem {zs ys : List Str} {x : Str} : x ∈ restOf zs ys ↔ x ∈ ys ∧ x ∉ zs := by
  unfold restOf
  rw [List.mem_filter]
  exact ⟨fun h => ⟨h.1, of_decide_eq_true h.2⟩, fun h => ⟨h.1, decide_eq_true h.2⟩⟩
theorem rest_lot {ys zs p : List Str} (h : p.Sublist (restOf zs ys)) : p.Sublist ys ∧ ∀ x ∈ p, x ∉ zs := ⟨h.trans (restOf_sub _ _), fun x hx => (restOf_mem.mp (h.subset hx)).2⟩
theorem lot_rest {ys zs p : List Str} (nd : ys.Nodup) (h : p.Sublist ys) (hd : ∀ x ∈ p, x ∉ zs) : p.Sublist (restOf zs ys) := by
  have e : p = (restOf zs ys).filter fun z => decide (z ∈ p) := by
    rw [sub_filter h nd]
    unfold restOf
    rw [List.filter_filter]
    refine List.filter_congr fun z _ => ?_
    rw [← sub_filter h nd]
    by_cases m : z ∈ p
    · rw [decide_eq_true m, decide_eq_true (hd z m)]
      rfl
    · rw [decide_eq_false m]
      rfl
  rw [e]
  exact List.filter_sublist
/-- no lot within the round is broken -/
def okB (brk : List Str → Bool) (ys zs p : List Str) : Bool := (parts0 p).all fun q => !(brk (mixS ys zs q))
theorem okB_iff {brk : List Str → Bool} {ys zs p : List Str} : okB brk ys zs p = true ↔ ∀ q, q.Sublist p → brk (mixS ys zs q) = false := by
  unfold okB
  rw [List.all_eq_true]
  constructor
  · intro h q hq
    have := h q (parts0_has hq)
    rw [Bool.not_eq_true'] at this
    exact this
  · intro h q hq
    rw [h q (parts0_sub hq)]
    rfl
/-- the safe rounds behind zs as they are found -/
def safeM (brk : List Str → Bool) (ys zs l : List Str) : List (List Str) := (parts0 l).filter (okB brk ys zs)
theorem safeM_nil (brk : List Str → Bool) {ys zs : List Str} (nd : ys.Nodup) (hz : zs.Sublist ys) : safeM brk ys zs [] = if brk zs = true then [] else [[]] := by
  have e : okB brk ys zs [] = !(brk zs) := by
    unfold okB parts0
    show ((!(brk (mixS ys zs []))) && true) = _
    rw [Bool.and_true, mixS_nil nd hz]
  show List.filter (okB brk ys zs) [[]] = _
  cases h : brk zs with
  | true =>
    rw [h] at e
    rw [List.filter_cons_of_neg (by rw [e]; decide)]
    rfl
  | false =>
    rw [h] at e
    rw [List.filter_cons_of_pos (by rw [e]; rfl)]
    rfl
theorem okB_snoc {brk : List Str → Bool} {ys zs p : List Str} {z : Str} (nd : ys.Nodup) (hz : zs.Sublist ys) (hp : (p ++ [z]).Sublist (restOf zs ys)) : okB brk ys zs (p ++ [z]) = (okB brk ys zs p && okB brk ys (mixS ys zs [z]) p) := by
  obtain ⟨s1, d1⟩ := rest_lot hp
  have zin : z ∈ ys := s1.subset (List.mem_append_right _ List.mem_cons_self)
  have pz : p.Sublist ys := (List.sublist_append_left p [z]).trans s1
  have hz1 : ([z] : List Str).Sublist ys := List.singleton_sublist.mpr zin
  have key : ∀ q, q.Sublist p → mixS ys zs (q ++ [z]) = mixS ys (mixS ys zs [z]) q := fun q hq => by
    have q1 := hq.trans pz
    have q2 : (q ++ [z]).Sublist ys := (hq.append (List.Sublist.refl [z])).trans s1
    refine sub_eq (mixS_sub _ _ _) (mixS_sub _ _ _) nd fun x => ?_
    rw [mixS_mem hz q2, mixS_mem (mixS_sub _ _ _) q1, mixS_mem hz hz1, List.mem_append]
    constructor
    · rintro (h | h | h)
      · exact .inl (.inl h)
      · exact .inr h
      · exact .inl (.inr h)
    · rintro ((h | h) | h)
      · exact .inl h
      · exact .inr (.inr h)
      · exact .inr (.inl h)
  rw [Bool.eq_iff_iff, Bool.and_eq_true, okB_iff, okB_iff, okB_iff]
  constructor
  · intro h
    exact ⟨fun q hq => h q (hq.trans (List.sublist_append_left _ _)), fun q hq => by rw [← key q hq]; exact h _ (hq.append (List.Sublist.refl _))⟩
  · rintro ⟨h1, h2⟩ q hq
    obtain ⟨q1, q2, rfl, g1, g2⟩ := List.sublist_append_iff.mp hq
    rcases List.sublist_cons_iff.mp g2 with g3 | ⟨r, rfl, g3⟩
    · rw [List.sublist_nil.mp g3, List.append_nil]
      exact h1 q1 g1
    · rw [List.sublist_nil.mp g3, key q1 g1]
      exact h2 q1 g1
/-- the safe rounds behind a lot, all of them -/
def safeA (brk : List Str → Bool) (ys zs : List Str) : List (List Str) := safeM brk ys zs (restOf zs ys)
theorem safeM_mem {brk : List Str → Bool} {ys zs l p : List Str} : p ∈ safeM brk ys zs l ↔ p.Sublist l ∧ okB brk ys zs p = true := by
  unfold safeM
  rw [List.mem_filter]
  exact ⟨fun h => ⟨parts0_sub h.1, h.2⟩, fun h => ⟨parts0_has h.1, h.2⟩⟩
theorem safeA_mem {brk : List Str → Bool} {ys zs p : List Str} : p ∈ safeA brk ys zs ↔ p.Sublist (restOf zs ys) ∧ okB brk ys zs p = true := safeM_mem
theorem safeM_snoc {brk : List Str → Bool} {ys zs l : List Str} {z : Str} (nd : ys.Nodup) (hz : zs.Sublist ys) (hl : (l ++ [z]).Sublist (restOf zs ys)) :
    safeM brk ys zs (l ++ [z]) = safeM brk ys zs l ++ ((safeM brk ys zs l).filter fun p => decide (p ∈ safeA brk ys (mixS ys zs [z]))).map fun p => p ++ [z] := by
  have hlz := rest_lot hl
  have zin : z ∈ ys := hlz.1.subset (List.mem_append_right _ List.mem_cons_self)
  have hz1 : ([z] : List Str).Sublist ys := List.singleton_sublist.mpr zin
  have nl : (l ++ [z]).Nodup := nd.sublist hlz.1
  have zl : z ∉ l := fun h => (List.nodup_append.mp nl).2.2 z h z (List.mem_singleton.mpr rfl) rfl
  unfold safeM
  rw [parts0_snoc, List.filter_append]
  congr 1
  rw [List.filter_map, List.filter_filter]
  congr 1
  refine List.filter_congr fun p hp => ?_
  have ps := parts0_sub hp
  have hpz : (p ++ [z]).Sublist (restOf zs ys) := (ps.append (List.Sublist.refl _)).trans hl
  show okB brk ys zs (p ++ [z]) = _
  rw [okB_snoc nd hz hpz, Bool.and_comm]
  congr 1
  have pr : p.Sublist (restOf (mixS ys zs [z]) ys) := by
    obtain ⟨a, b⟩ := rest_lot ((List.sublist_append_left p [z]).trans hpz)
    refine lot_rest nd a fun x hx m => ?_
    rcases (mixS_mem hz hz1).mp m with m | m
    · exact b x hx m
    · rw [List.mem_singleton.mp m] at hx
      exact zl (ps.subset hx)
  rw [Bool.eq_iff_iff, decide_eq_true_iff]
  exact ⟨fun h => safeA_mem.mpr ⟨pr, h⟩, fun h => (safeA_mem.mp h).2⟩
theorem safeM_nodup {brk : List Str → Bool} {ys zs l : List Str} (nd : l.Nodup) : (safeM brk ys zs l).Nodup := by
  have h := parts0_nodup l.reverse (by rw [List.reverse_reverse]; exact nd)
  rw [List.reverse_reverse] at h
  exact List.Pairwise.filter _ h
theorem safeM_len {brk : List Str → Bool} {ys zs l : List Str} (h : l.length ≤ 6) : (safeM brk ys zs l).length ≤ 64 := by
  refine Nat.le_trans (List.length_filter_le _ _) ?_
  rw [parts0_len _ l rfl]
  exact Nat.le_trans (Nat.pow_le_pow_right (by decide) h) (by decide)
theorem parts0_head (l : List Str) : (parts0 l).head? = some [] := by
  have main : ∀ (l : List Str) (ps : List (List Str)), ps.head? = some [] → (l.foldl (fun ps z => ps ++ ps.map fun p => p ++ [z]) ps).head? = some [] := by
    intro l
    induction l with
    | nil => exact fun ps h => h
    | cons z l ih =>
      intro ps h
      refine ih _ ?_
      cases ps with
      | nil => cases h
      | cons p ps => exact h
  exact main l [[]] rfl
theorem safeA_head {brk : List Str → Bool} {ys zs p : List Str} (h : (safeA brk ys zs).head? = some p) : p = [] := by
  have e0 : okB brk ys zs [] = true := by
    have m : p ∈ safeA brk ys zs := List.mem_of_mem_head? h
    refine okB_iff.mpr fun q hq => ?_
    exact okB_iff.mp (safeA_mem.mp m).2 q (hq.trans (List.nil_sublist _))
  unfold safeA safeM at h
  have h0 := parts0_head (restOf zs ys)
  cases e : parts0 (restOf zs ys) with
  | nil => rw [e] at h0; cases h0
  | cons r rs =>
    rw [e] at h h0
    cases h0
    rw [List.filter_cons_of_pos e0] at h
    exact (Option.some.inj h).symm
/-- the same lots in order -/
def lexL (l : List (List Str)) : List (List Str) := l.mergeSort fun a b => !(lexS b a)
theorem lexL_perm (l : List (List Str)) : (lexL l).Perm l := List.mergeSort_perm _ _
theorem lexL_srt (l : List (List Str)) : (lexL l).Pairwise fun p q => lexS q p = false := by
  have h := List.pairwise_mergeSort (le := fun a b : List Str => !(lexS b a)) (fun a b c h1 h2 => by
    rw [Bool.not_eq_true'] at h1 h2 ⊢
    exact lexS_tr h1 h2) (fun a b => by
    cases e : lexS b a with
    | false => rfl
    | true => rw [lexS_no e]; rfl) l
  refine h.imp fun {a b} q => ?_
  rw [Bool.not_eq_true'] at q
  exact q
theorem lexL_is {l m : List (List Str)} (hp : m.Perm l) (hs : m.Pairwise fun p q => lexS q p = false) : m = lexL l := lex_uniq (hp.trans (lexL_perm l).symm) hs (lexL_srt l)
/-- the safe rounds behind a lot, in order -/
def safeS (brk : List Str → Bool) (ys zs : List Str) : List (List Str) := lexL (safeA brk ys zs)
theorem safeS_mem {brk : List Str → Bool} {ys zs p : List Str} : p ∈ safeS brk ys zs ↔ p.Sublist (restOf zs ys) ∧ okB brk ys zs p = true := (lexL_perm _).mem_iff.trans safeA_mem
theorem longer_ahead {ys zs q : List Str} {A B : List (List Str)} (h : (partsS ys).reverse = A ++ zs :: B) (hq : q.Sublist ys) (hl : zs.length < q.length) : q ∈ A := by
  have h1 : partsS ys = B.reverse ++ zs :: A.reverse := by
    have := congrArg List.reverse h
    rw [List.reverse_reverse, List.reverse_append, List.reverse_cons, List.append_assoc, List.singleton_append] at this
    exact this
  have srt := partsS_srt ys
  have m : q ∈ partsS ys := partsS_has hq
  rw [h1] at srt m
  rcases List.mem_append.mp m with m | m
  · have := numRow_le ((List.pairwise_append.mp srt).2.2 q m zs List.mem_cons_self)
    omega
  · rcases List.mem_cons.mp m with rfl | m
    · omega
    · exact List.mem_reverse.mp m
theorem mixS_longer {ys zs : List Str} {z : Str} (hz : zs.Sublist ys) (nd : ys.Nodup) (zin : z ∈ ys) (zn : z ∉ zs) : zs.length < (mixS ys zs [z]).length := by
  refine sub_less hz (mixS_sub _ _ _) nd (fun x hx => (mixS_mem hz (List.singleton_sublist.mpr zin)).mpr (.inl hx)) fun e => zn ?_
  rw [e]
  exact (mixS_mem hz (List.singleton_sublist.mpr zin)).mpr (.inr List.mem_cons_self)
/-- a dict from all lots to the lists of their safe rounds -/
structure SafeD (H : Hp) (p : Addr) (brk : List Str → Bool) (ys : List Str) : Prop where
  ex : ∃ T : List (List Str × Addr), H p = some (.dT (kT T)) ∧ T.map (·.1) = (partsS ys).reverse ∧ ∀ t ∈ T, ∃ L : List (Addr × List Str), H t.2 = some (.lst (L.map fun q => V.ref q.1)) ∧ RowsT H L ∧ L.map (·.2) = safeS brk ys t.1
theorem SafeD.to {H H' : Hp} {p : Addr} {brk : List Str → Bool} {ys : List Str} (h : SafeD H p brk ys) (x : Evl.Ex H H') : SafeD H' p brk ys := by
  obtain ⟨T, h1, h2, h3⟩ := h
  refine ⟨T, x _ _ h1, h2, fun t ht => ?_⟩
  obtain ⟨L, g1, g2, g3⟩ := h3 t ht
  exact ⟨L, x _ _ g1, g2.to x, g3⟩
theorem SafeD.nt {H : Hp} {p : Addr} {brk : List Str → Bool} {ys : List Str} (h : SafeD H p brk ys) : SafeD (nt H) p brk ys := by
  obtain ⟨T, h1, h2, h3⟩ := h
  refine ⟨T, nt_of h1 (fun _ z => by cases z), h2, fun t ht => ?_⟩
  obtain ⟨L, g1, g2, g3⟩ := h3 t ht
  exact ⟨L, nt_lst g1, g2.nt, g3⟩
theorem restOf_len (zs ys : List Str) : (restOf zs ys).length ≤ ys.length := (restOf_sub zs ys).length_le
end Rw
end T_U0

section T_V3
set_option Elab.async false
set_option linter.all false
set_option maxRecDepth 100000
set_option maxHeartbeats 4000000
/-! ### y = {k: v for ..} -/
namespace L2
open PySem PySem.Spec PyProof.Rows
section
variable {X : Cx}
theorem ps_setDc {i : Nat} {y : Str} {py : Pos} {kx vx tg iter : Expr} {ifs : List Expr} {scope : Scope} {own : List (Str × Nat)} {pos spos : Pos} {wi : TI} {g : TG} {tt : TT} {tk tv : TE} (hc : X.calm = true) (hN : X.N.Nodup) (hy : X.N[i]? = some y) (hyl : X.env.scope.names.lookup y = some .local)
    (hsw : swapsWith (.DictComp kx vx [⟨tg, iter, ifs, 0⟩] scope pos) (some (.Name y py)) spos.line X.env = pure true) (hi : PI X tg iter wi) (ok : BlkOk X.N X.env.scope scope own)
    (hg : ∀ (s : Shared) (H : Hp) (C : Addr) (cl : List (Str × Addr)) (fp : List Addr), PG (X.blk s H scope (compEnvC scope cl C X.env) fp) tg g) (ht : ∀ (s : Shared) (H : Hp) (C : Addr) (cl : List (Str × Addr)) (fp : List Addr), PTs (X.blk s H scope (compEnvC scope cl C X.env) fp) ifs tt)
    (hk : ∀ (s : Shared) (H : Hp) (C : Addr) (cl : List (Str × Addr)) (fp : List Addr), PE (X.blk s H scope (compEnvC scope cl C X.env) fp) kx tk)
    (he : ∀ (s : Shared) (H : Hp) (C : Addr) (cl : List (Str × Addr)) (fp : List Addr), PE (X.blk s H scope (compEnvC scope cl C X.env) fp) vx tv) (hs : ∀ x, foldedSetIterable iter X.env x = pure x := by intro _; rfl) :
    PS X (.Assign [.Name y py] (.DictComp kx vx [⟨tg, iter, ifs, 0⟩] scope pos) spos) (tAsg (tDc wi g tt tk tv (own.map (·.2))) (gName i)) := by
  refine ⟨fun pins s σ H D I h => ?_⟩
  rw [exec_Assign_Name_used _ _ _ _ hsw]
  refine wpAny_bind (wpAny_standAt (wpAny_bind ?_))
  show wpAny _ X.A (do let _ ← comprehension (.DictComp kx vx [⟨tg, iter, ifs, 0⟩] scope pos) scope X.env (firstIterPos [⟨tg, iter, ifs, 0⟩] pos) newDict false (eval iter X.env) (some (assign (.Name y py) X.env))) _ _ s
  have h : tDc wi g tt tk tv (own.map (·.2)) σ H (fun x H1 => gName i x σ H1 D.nx) := h
  refine wpAny_bind (thn (dc_core (Qf := fun _ s' => SP X pins D .next s') hc hN I hi ok hg ht hk he hs h fun L C s' m H' I' q hn f => ?_) fun _ s' hq => wpAny_pure (wpAny_pure hq))
  show wpAny _ _ (assign (.Name y py) X.env (.ref L)) _ _ _
  refine wpAny_assign_Name (store_ok2 (v := V.ref L) I' hN hy (.inl hyl) rfl (fun s2 I2 ⟨a, sb, ha⟩ => ?_) (.inr hyl))
  obtain ⟨f0, f1, f2, f3, f4, f5⟩ := f
  have haC : C ≠ a := by
    rcases ha with z | z
    · rw [z]; exact f1
    · exact fun e => f4 y a z e.symm
  refine ⟨m, hn.sameBut sb haC, fun h3 sb3 => ?_⟩
  exact ⟨_, H', I2.turned (t' := s2.toks) (fun b o hb e => (sb3.2 b hb).trans e) f0 f1 f3 f4 f5, q⟩
theorem sw_trueD {kx vx : Expr} {gs : List Comprehension} {scope : Scope} {pos py : Pos} {y : Str} {l : Nat} {env : Env} (hk : env.scope.kind = .function) (hy : env.scope.names.lookup y = some .local) (hl : (py.line == pos.line) = true)
    (ha : (scope.names.any fun (n, k) => n == y && (k == .local || k == .cell)) = false) : swapsWith (.DictComp kx vx gs scope pos) (some (.Name y py)) l env = pure true := by
  have ky : env.kindOf y = some .local := hy
  have hb : env.blockKind = .function := by unfold Env.blockKind; rw [hk]; rfl
  unfold swapsWith
  simp only [hb, ky, ha, Expr.pos, hl]
  rfl
end
end L2
end T_V3

section T_DQ
set_option Elab.async false
set_option linter.all false
set_option maxRecDepth 100000
set_option maxHeartbeats 4000000
/-! ### {k: v}, its key being a tuple -/
namespace L2
open PySem PySem.Spec PyProof.Rows
def tDispT (tk tv : TE) : TE := fun σ H Q => ∀ p, H p = none → tk σ (upd H p (.dT [])) fun x H1 => tv σ H1 fun v H2 => H2 p = some (.dT []) ∧ ∃ a k, x = V.ref a ∧ H2 a = some (.tup (k.map kV)) ∧ Q (.ref p) (upd H2 p (.dT [(k, v)]))
theorem pe_dispT {X : Cx} {pos : Pos} {kx vx : Expr} {tk tv : TE} (hu : X.A.units + 1 < cLine) (hk : PE X kx tk) (hv : PE X vx tv) : PE X (.Dict [some kx] [vx] pos) (tDispT tk tv) := by
  refine ⟨fun pins s σ H Q I q => ?_⟩
  have hn := I.hok.fresh (Nat.le_refl s.heap.objs.size)
  have I1 := I.laid (a := s.heap.objs.size) (o := .dT []) (h' := s.heap.push { cls := .type "dict", data := .dict #[] }) (t' := s.toks) (fun _ _ q => Heap.get?_push_of_some _ q) (Nat.le_refl _) (dt_empty s.heap I.big)
  refine wpAny_Dict_any rfl rfl (by simp) (by show 1 ≤ 15; omega) (pairTrees_cons_walk (thn (hk.run pins _ σ _ _ I1 (q _ hn)) fun kv s1 ⟨x, H1, I2, rx, q1⟩ => thn (hv.run pins s1 σ H1 _ I2 q1) fun vv s2 ⟨v, H2, I3, rv, e, a, k, ex, ea, q2⟩ => pairTrees_nil_walk ?_))
  subst ex
  obtain rfl : kv = Value.ref a := rx
  unfold storeAll
  rw [List.forIn_cons]
  refine wpAny_bind (wpAny_bind (d_dictSetT (roomT (by omega)) I3 e (by decide) ea rv fun s3 I4 => wpAny_pure ?_))
  show wpAny _ _ (forIn [] PUnit.unit _) _ _ _
  rw [List.forIn_nil]
  exact wpAny_pure ⟨.ref s.heap.objs.size, _, I4, rfl, q2⟩
/-! ### y = {k: v for ..}, its keys being tuples -/
section
variable {X : Cx}
theorem ps_setDcT {i : Nat} {y : Str} {py : Pos} {kx vx tg iter : Expr} {ifs : List Expr} {scope : Scope} {own : List (Str × Nat)} {pos spos : Pos} {wi : TI} {g : TG} {tt : TT} {tk tv : TE} (hu : X.A.units + 1 < cLine) (hc : X.calm = true) (hN : X.N.Nodup) (hy : X.N[i]? = some y) (hyl : X.env.scope.names.lookup y = some .local)
    (hsw : swapsWith (.DictComp kx vx [⟨tg, iter, ifs, 0⟩] scope pos) (some (.Name y py)) spos.line X.env = pure true) (hi : PI X tg iter wi) (ok : BlkOk X.N X.env.scope scope own)
    (hg : ∀ (s : Shared) (H : Hp) (C : Addr) (cl : List (Str × Addr)) (fp : List Addr), PG (X.blk s H scope (compEnvC scope cl C X.env) fp) tg g) (ht : ∀ (s : Shared) (H : Hp) (C : Addr) (cl : List (Str × Addr)) (fp : List Addr), PTs (X.blk s H scope (compEnvC scope cl C X.env) fp) ifs tt)
    (hk : ∀ (s : Shared) (H : Hp) (C : Addr) (cl : List (Str × Addr)) (fp : List Addr), PE (X.blk s H scope (compEnvC scope cl C X.env) fp) kx tk)
    (he : ∀ (s : Shared) (H : Hp) (C : Addr) (cl : List (Str × Addr)) (fp : List Addr), PE (X.blk s H scope (compEnvC scope cl C X.env) fp) vx tv) (hs : ∀ x, foldedSetIterable iter X.env x = pure x := by intro _; rfl) :
    PS X (.Assign [.Name y py] (.DictComp kx vx [⟨tg, iter, ifs, 0⟩] scope pos) spos) (tAsg (tDcT wi g tt tk tv (own.map (·.2))) (gName i)) := by
  refine ⟨fun pins s σ H D I h => ?_⟩
  rw [exec_Assign_Name_used _ _ _ _ hsw]
  refine wpAny_bind (wpAny_standAt (wpAny_bind ?_))
  show wpAny _ X.A (do let _ ← comprehension (.DictComp kx vx [⟨tg, iter, ifs, 0⟩] scope pos) scope X.env (firstIterPos [⟨tg, iter, ifs, 0⟩] pos) newDict false (eval iter X.env) (some (assign (.Name y py) X.env))) _ _ s
  have h : tDcT wi g tt tk tv (own.map (·.2)) σ H (fun x H1 => gName i x σ H1 D.nx) := h
  refine wpAny_bind (thn (dcT_core (Qf := fun _ s' => SP X pins D .next s') (roomT (by omega)) hc hN I hi ok hg ht hk he hs h fun L C s' m H' I' q hn f => ?_) fun _ s' hq => wpAny_pure (wpAny_pure hq))
  show wpAny _ _ (assign (.Name y py) X.env (.ref L)) _ _ _
  refine wpAny_assign_Name (store_ok2 (v := V.ref L) I' hN hy (.inl hyl) rfl (fun s2 I2 ⟨a, sb, ha⟩ => ?_) (.inr hyl))
  obtain ⟨f0, f1, f2, f3, f4, f5⟩ := f
  have haC : C ≠ a := by
    rcases ha with z | z
    · rw [z]; exact f1
    · exact fun e => f4 y a z e.symm
  refine ⟨m, hn.sameBut sb haC, fun h3 sb3 => ?_⟩
  exact ⟨_, H', I2.turned (t' := s2.toks) (fun b o hb e => (sb3.2 b hb).trans e) f0 f1 f3 f4 f5, q⟩
end
end L2
end T_DQ

section T_ST
set_option Elab.async false
set_option linter.all false
set_option maxRecDepth 100000
set_option maxHeartbeats 4000000
namespace Rw
open PySem PySem.Spec PyProof.Rows
/-! ### sorted(a dict whose keys are tuples of texts, the first one empty) -/
section
variable {prog : Program} {w : World} {A : Around} {E : Value → Shared → Prop} {s : Shared}
/-- a tuple of texts -/
def IsTE (h : Heap) (v : Value) (xs : List Str) : Prop := ∃ (a : Addr) (us : Array Value), v = .ref a ∧ IsTup h a us ∧ StrsAre us.toList xs
theorem IsTE.on {h h' : Heap} {v : Value} {k : List Str} (x : IsTE h v k) (keep : ∀ b o, h.get? b = some o → o.cls = .type "tuple" → h'.get? b = some o) : IsTE h' v k := by
  obtain ⟨a, us, e, ⟨o, h1, h2, h3⟩, r⟩ := x
  exact ⟨a, us, e, ⟨o, keep _ _ h1 h2, h2, h3⟩, r⟩
theorem te_lt {p q : Addr} {us vs : Array Value} {xs ys : List Str} {Q : Bool → Shared → Prop} (hp : IsTup s.heap p us) (hq : IsTup s.heap q vs) (hx : StrsAre us.toList xs) (hy : StrsAre vs.toList ys) (room : A.units < cLine) (h : Q (lexS xs ys) s) :
    wpAny (model prog w) A (oneLt' true (.ref p) (.ref q)) Q E s := by
  obtain ⟨⟨c1, e1, t1, z1⟩, at_p, x1, k1, y1⟩ := id hp
  obtain ⟨⟨c2, e2, t2, z2⟩, at_q, x2, k2, y2⟩ := id hq
  simp only at x1 y1 x2 y2
  subst x1 y1 x2 y2
  rw [oneLt'_eq]
  simp only [if_true]
  refine wpAny_bind (wpAny_cRoomFor room ?_)
  refine wpAny_bind (wpAny_callSpecialIfBound?_slot (T := "tuple") ⟨_, at_p, rfl⟩ PySem.F.slot_tuple_lt (PySem.call_meets PySem.F.slot_tuple_lt ⟨_, at_p, rfl⟩ PySem.F.entry_tuple_lt (PySem.F.args_tuple_lt_2 _ _) (tupS_lt p q us vs k1 k2 e1 e2 z1 z2 xs ys hx hy) ⟨at_p, at_q, ?_⟩))
  exact wpAny_truthy_bool h
theorem te_cmp {vs : List Value} {k : Value → List Str} (room : A.units < cLine) (hp : ∀ v ∈ vs, IsTE s.heap v (k v)) : SrtO.Cmp prog w A s oneType' (fun p => p.1 ∈ vs) (SrtO.lt2 fun v u => lexS (k v) (k u)) := by
  intro p q m1 m2
  have h1 := hp _ m1
  have h2 := hp _ m2
  show wpAny (model prog w) A (keyLt' oneType' p.1 q.1) (fun r t => t = s ∧ r = lexS (k p.1) (k q.1)) (fun _ _ => False) s
  generalize k p.1 = xs at h1 ⊢
  generalize k q.1 = ys at h2 ⊢
  obtain ⟨a, us, ep, t1, r1⟩ := h1
  obtain ⟨b, vs', eq, t2, r2⟩ := h2
  rw [ep, eq, keyLt'_oneType]
  exact te_lt t1 t2 r1 r2 room ⟨rfl, rfl⟩
theorem te_firsts {M : Model} : ∀ {vs : List Value} {k : Value → List Str}, (∀ v ∈ vs, IsTE s.heap v (k v)) → ∃ fs : List (Option Value), fs.length = vs.length ∧ ∀ Q : List (Option Value) → Shared → Prop, Q fs s → wpAny M A (vs.mapM firstOfTuple') Q E s
  | [], _, _ => ⟨[], rfl, fun Q h => by rw [List.mapM_nil]; exact wpAny_pure h⟩
  | v :: vs, k, hp => by
    obtain ⟨fs, g1, g2⟩ := te_firsts (vs := vs) fun u hu => hp u (List.mem_cons_of_mem _ hu)
    obtain ⟨a, us, rfl, ⟨o, h1, h2, n, h3⟩, r⟩ := hp v List.mem_cons_self
    refine ⟨us[0]? :: fs, congrArg (· + 1) g1, fun Q h => ?_⟩
    rw [List.mapM_cons]
    refine wpAny_bind ?_
    rw [PySem.W.kas_first_eq]
    refine wpAny_bind (PySem.W.Looks.here (show PySem.W.Looks M s.heap (typeOf (.ref a)) o.cls from (PySem.W.Looks.ld h1).andThen .now) ?_)
    rw [h2, if_neg (by first | decide | simp)]
    refine wpAny_bind (listItems_at h1 h3 (wpAny_pure ?_))
    exact wpAny_bind (g2 _ (wpAny_pure h))
theorem te_kind {M : Model} {v0 : Value} {vs : List Value} {k : Value → List Str} {Q : SortKind → Shared → Prop} (hp : ∀ v ∈ v0 :: vs, IsTE s.heap v (k v)) (h0 : k v0 = []) (h : Q oneType' s) : wpAny M A (keyKind' (v0 :: vs).toArray) Q E s := by
  rw [keyKind'_eq, List.mapM_toArray, map_eq_pure_bind]
  obtain ⟨fs, f1, f2⟩ := te_firsts (M := M) (A := A) (E := E) (s := s) (vs := vs) (k := k) fun u hu => hp u (List.mem_cons_of_mem _ hu)
  have hp0 := hp v0 List.mem_cons_self
  have looks : ∀ v ∈ v0 :: vs, PySem.W.Looks M s.heap (typeOf v) (Value.type "tuple") := fun v hv => by
    obtain ⟨a, us, rfl, ⟨o, h1, h2, n, h3⟩, r⟩ := hp v hv
    rw [← h2]
    exact (PySem.W.Looks.ld h1).andThen .now
  obtain ⟨a, us, e0, ⟨o, h1, h2, n, h3⟩, r⟩ := hp0
  rw [h0] at r
  have eus : us[0]? = none := by
    rw [← Array.getElem?_toList]
    generalize us.toList = L at r
    cases r
    rfl
  refine wpAny_bind (wpAny_bind ?_)
  rw [List.mapM_cons]
  refine wpAny_bind ?_
  rw [PySem.W.kas_first_eq, e0]
  refine wpAny_bind (PySem.W.Looks.here (show PySem.W.Looks M s.heap (typeOf (.ref a)) o.cls from (PySem.W.Looks.ld h1).andThen .now) ?_)
  rw [h2, if_neg (by first | decide | simp)]
  refine wpAny_bind (listItems_at h1 h3 (wpAny_pure ?_))
  rw [eus]
  refine wpAny_bind (f2 _ (wpAny_pure (wpAny_pure ?_)))
  rw [if_neg (by simp), if_neg (by simp)]
  rw [oneTypeOnly'_eq, List.mapM_toArray, map_eq_pure_bind]
  rw [← e0]
  refine wpAny_bind (wpAny_bind (wpAny_bind (PySem.W.kas_mapM (r := Value.type "tuple") _ (fun v hv Q' hq => (looks v hv).here hq) (wpAny_pure ?_))))
  have hall : ((List.map (fun _ => Value.type "tuple") (v0 :: vs)).toArray.all fun x => x == Value.type "tuple") = true := by
    simp only [List.all_toArray, List.all_map, List.all_eq_true]
    intro _ _
    rfl
  have hz : (List.map (fun _ => Value.type "tuple") (v0 :: vs)).toArray[0]? = some (Value.type "tuple") := by simp
  rw [hz]
  simp only [hall, if_true]
  exact wpAny_pure (wpAny_pure h)
theorem te_sortable {a : Addr} {vs : List Value} {k : Value → List Str} (room : A.units < cLine) (h0 : ∀ v, vs.head? = some v → k v = []) (ne : vs ≠ []) (hp : ∀ v ∈ vs, IsTE s.heap v (k v)) (ha : ∀ o, s.heap.get? a = some o → o.cls ≠ .type "tuple") : SrtO.SortableO prog w A s a vs fun v u => lexS (k v) (k u) := by
  intro h' keep
  have hp' : ∀ v ∈ vs, IsTE h' v (k v) := fun v hv => (hp v hv).on fun b o e c => keep b o (fun z => by subst z; exact ha o e c) e
  refine ⟨oneType', fun Q E hq => ?_, te_cmp (s := { s with heap := h' }) room hp'⟩
  cases vs with
  | nil => exact absurd rfl ne
  | cons v0 vs => exact te_kind (s := { s with heap := h' }) hp' (h0 v0 rfl) hq
end
end Rw
namespace L2
open PySem PySem.Spec PyProof.Rows
theorem kt_rows {H : Hp} {kvs : List (List Key × V)} {ks : List (List Key × Addr × Value)} (pr : KT H kvs ks) : ∀ M : List (List Str), kvs.map (·.1) = M.map (fun p => p.map Sum.inr) →
    ∃ L : List (Addr × List Str), (ks.map fun x => V.ref x.2.1) = L.map (fun q => V.ref q.1) ∧ Rw.RowsT H L ∧ L.map (·.2) = M := by
  induction pr with
  | nil =>
    intro M hM
    refine ⟨[], rfl, (fun q hq => nomatch hq), ?_⟩
    exact (List.map_eq_nil_iff.mp hM.symm).symm
  | @cons p x kvs' ks' h t ih =>
    intro M hM
    cases M with
    | nil => exact nomatch hM
    | cons m M =>
      rw [List.map_cons, List.map_cons] at hM
      injection hM with e1 e2
      obtain ⟨L, g1, g2, g3⟩ := ih M e2
      refine ⟨(x.2.1, m) :: L, by rw [List.map_cons, List.map_cons, g1], fun q hq => ?_, by rw [List.map_cons, g3]⟩
      rcases List.mem_cons.mp hq with rfl | hq
      · have := h.2.1
        rw [e1, List.map_map] at this
        exact this
      · exact g2 q hq
/-- sorted(d), d a dict whose keys are tuples of texts, the first of them (): a new list, in order -/
def rSortDT : List V → Hp → VK → Prop := fun vs H Q => ∃ (d : Addr) (kvs : List (List Key × V)) (M : List (List Str)), vs = [V.ref d] ∧ Rd H d (.dT kvs) ∧ kvs.map (·.1) = M.map (fun p => p.map Sum.inr) ∧ (∀ p, M.head? = some p → p = []) ∧
  ∀ (ys : List (Addr × List Str)) (p : Addr), (ys.map (·.2)).Perm M → (ys.map (·.2)).Pairwise (fun x y => Rw.lexS y x = false) → Rw.RowsT H ys → H p = none → Q (.ref p) (upd H p (.lst (ys.map fun q => V.ref q.1)))
theorem cr_sortDT {X : Cx} (hc : X.calm = true) (room : X.A.units + 2 < cLine) : CallR X (.builtin "sorted") rSortDT := by
  intro pins s σ H xs us Q I r h
  obtain ⟨d, kvs, M, rfl, hd, hM, h0, q⟩ := h
  obtain ⟨u, rfl, rx⟩ := r.one
  cases rx
  obtain ⟨z, hs, ks, pr, o, es, ep, ho, hx, hdt, he, hn⟩ := (show ObjOk X.prog X.w H s.heap d (.dT kvs) from hd.ok I.hok)
  have l1 : es.size = ks.length := size_of_entries he
  have l2 : kvs.length = ks.length := Paired.length pr
  refine Calls.call_function_entry kind_sorted plain_sorted entry_sorted (args_sorted1 _) ?_
  unfold Builtin.«sorted»
  refine wpAny_bind (m := checkCount "sorted" 1 1 _) (wpAny_pure ?_)
  refine wpAny_bind (PySem.W.kdu_collect (A := X.A.in1) (kdl_raw hs hx hdt) (I.ok.hd hc) ho (by omega) fun h' tk acc' kp it => ?_)
  have ea : acc'.toList = ks.map fun x => Value.ref x.2.1 := by
    have hl : acc'.toList.length = ks.length := by rw [Array.length_toList, it.1]; exact l1
    apply List.ext_getElem?
    intro j
    rw [List.getElem?_map]
    cases hj : acc'.toList[j]? with
    | none =>
      have h1 := List.getElem?_eq_none_iff.mp hj
      rw [List.getElem?_eq_none (by omega)]
      all_goals rfl
    | some v =>
      obtain ⟨en, hen, hv⟩ := it.2 j v (by rw [← Array.getElem?_toList]; exact hj)
      have qe := entry_at he j
      rw [hen] at qe
      cases hb : ks[j]? with
      | none =>
        rw [hb] at qe
        exact nomatch (show some en = none from qe)
      | some b =>
        rw [hb] at qe
        have e2 : en = entryOfKey (tupleKind (mixKind X.prog X.w)) b := Option.some.inj qe
        rw [hv, e2]
        all_goals rfl
  rw [ea]
  have I1 : Inv X pins σ H { s with heap := h', toks := tk } := I.kept kp
  obtain ⟨L, eL, rL, mL⟩ := kt_rows pr M hM
  have eV : (ks.map fun x => Value.ref x.2.1) = L.map fun q => Value.ref q.1 := by
    have e1 : (ks.map fun x => V.ref x.2.1) = (ks.map fun x => x.2.1).map V.ref := by rw [List.map_map]; rfl
    have e2 : (L.map fun q => V.ref q.1) = (L.map fun q => q.1).map V.ref := by rw [List.map_map]; rfl
    have e3 := (List.map_inj_right fun _ _ z => V.ref.inj z).mp (e1.symm.trans (eL.trans e2))
    have e4 := congrArg (List.map Value.ref) e3
    rw [List.map_map, List.map_map] at e4
    exact e4
  have lL : (L.map fun q => Value.ref q.1).length ≤ sizeLine := by rw [← eV, List.length_map]; omega
  rw [eV]
  have all : ∀ v ∈ L.map (fun q => Value.ref q.1), Rw.IsTE h' v (Rw.rowAt H (backV v)) := fun v hv => by
    obtain ⟨q', hq, rfl⟩ := List.mem_map.mp hv
    have ht := rL q' hq
    obtain ⟨_, i3, r3, o3, ho3, hc3, n3, hd3⟩ := I1.hok _ _ ht
    refine ⟨q'.1, i3.toArray, rfl, ⟨o3, ho3, hc3, n3, hd3⟩, ?_⟩
    show StrsAre _ (Rw.rowAt H (.ref q'.1))
    rw [Rw.rowAt_of ht]
    exact Vals.strs r3
  refine wpAny_bind (wpAny_newList ?_ lL)
  have hoL : (h'.push (seqObj "list" (L.map fun q => Value.ref q.1).toArray 0)).get? h'.objs.size = some (seqObj "list" (L.map fun q => Value.ref q.1).toArray 0) := Heap.get?_push_size _ rfl
  show wpAny _ _ _ _ _ { s with heap := h'.push (seqObj "list" (L.map fun q => Value.ref q.1).toArray 0), toks := tk }
  refine wpAny_bind (wpAny_holding (wpAny_call_entry slot_list_sort ⟨_, hoL, rfl⟩ entry_list_sort (SrtO.list_sort_ord (s := { s with heap := h'.push (seqObj "list" (L.map fun q => Value.ref q.1).toArray 0), toks := tk }) (Rw.lexS_swo fun v => Rw.rowAt H (backV v)) hoL lL (fun h2 => ?_) fun out hs1 hb1 => ⟨_, rfl, ?_⟩) (args_list_sort _)))
  · refine Rw.te_sortable (by show X.A.units + 1 + 1 < cLine; omega) (fun v hv => ?_) (fun z => by rw [z] at h2; exact absurd h2 (by simp)) (fun v hv => (all v hv).on fun b o e _ => Heap.get?_push_of_some _ e) fun o e => ?_
    · cases L with
      | nil => cases hv
      | cons q0 L =>
        cases hv
        show Rw.rowAt H (.ref q0.1) = []
        rw [Rw.rowAt_of (rL q0 List.mem_cons_self)]
        exact h0 _ (by rw [← mL]; rfl)
    · have e' := e.symm.trans hoL
      cases e'
      intro c
      exact absurd (Value.type.inj c) (by decide)
  · have h3 : ∀ u ∈ out, ∃ a, u = Value.ref a := fun u hu => by
      obtain ⟨q', _, e⟩ := List.mem_map.mp (hb1.perm.mem_iff.mp hu)
      exact ⟨_, e.symm⟩
    have hp : (out.map backV).Perm (L.map fun q => V.ref q.1) := by
      have z := hb1.perm.map backV
      rw [List.map_map] at z
      exact z
    obtain ⟨ys, ey, ry, py, my⟩ := Rw.rowsT_perm rL hp
    obtain ⟨c, at_out⟩ := sortedHeap_at (vs := L.map fun q => Value.ref q.1) (out := out.toArray) hoL
    have fresh : H h'.objs.size = none := I1.hok.fresh (Nat.le_refl _)
    have keep2 : ∀ b u, h'.get? b = some u → (sortedHeap (h'.push (seqObj "list" (L.map fun q => Value.ref q.1).toArray 0)) h'.objs.size (L.map fun q => Value.ref q.1) out.toArray).get? b = some u := fun b u e => by
      have hb : b < h'.objs.size := Heap.lt_size e
      rw [PyProof.Rows.sortedHeap_old (Nat.ne_of_lt hb) (by rw [size_push']; exact Nat.lt_succ_of_lt hb)]
      exact Heap.get?_push_of_some _ e
    have sorted : (ys.map (·.2)).Pairwise (fun x y => Rw.lexS y x = false) := by
      rw [my, List.map_map]
      have z : SrtO.Srtd (fun v u => Rw.lexS (Rw.rowAt H (backV v)) (Rw.rowAt H (backV u))) out := hs1
      exact List.pairwise_map.mpr z
    refine wpAny_pure ⟨_, rfl, .ref h'.objs.size, upd H h'.objs.size (.lst (out.map backV)), I1.laid (t' := tk) keep2 (Nat.le_refl _) ⟨?_, out, c, vals_back h3, at_out⟩, rfl, ?_⟩
    · rw [hp.length_eq, List.length_map]
      rw [List.length_map] at lL
      exact lL
    · rw [ey]
      exact q ys _ (by rw [← mL]; exact py) sorted ry fresh
end L2
end T_ST

section T_U2
set_option Elab.async false
set_option linter.all false
set_option maxRecDepth 100000
set_option maxHeartbeats 16000000
namespace Rw
open PySem L2 PyProof.Rows LamX
/-- the heap without one object -/
def woA (a : Addr) (H : Hp) : Hp := fun b => if b = a then none else H b
theorem woA_none (a : Addr) (H : Hp) : woA a H a = none := if_pos rfl
theorem woA_some {a b : Addr} {H : Hp} {o : HO} (h : H b = some o) (ne : b ≠ a) : woA a H b = some o := (if_neg ne).trans h
theorem woA_ex (a : Addr) (H : Hp) : Evl.Ex (woA a H) H := fun b o h => by
  unfold woA at h
  split at h
  · cases h
  · exact h
theorem codeO_dT {c : Addr} {q : Str} {xs : List (List Key × V)} (h : some (CodeO c q) = some (HO.dT xs)) : False := by
  have h1 := Option.some.inj h
  unfold CodeO at h1
  cases h1
theorem kB_put (M : List (List Str)) (p : List Str) : ∃ M', putK (kB M) (p.map Sum.inr) (.bl true) = kB M' ∧ (∀ q, q ∈ M' ↔ q ∈ M ∨ q = p) ∧ M'.length ≤ M.length + 1 := by
  by_cases m : p ∈ M
  · refine ⟨M, ?_, fun q => ⟨.inl, fun h => h.elim id fun e => e ▸ m⟩, Nat.le_succ _⟩
    unfold putK
    have ha : ((kB M).any fun kv => decide (kv.1 = p.map Sum.inr)) = true := by
      rw [List.any_eq_true]
      exact ⟨(p.map Sum.inr, .bl true), List.mem_map.mpr ⟨p, m, rfl⟩, decide_eq_true rfl⟩
    rw [if_pos ha]
    unfold kB
    rw [List.map_map]
    refine List.map_congr_left fun q hq => ?_
    show (if _ then _ else _) = _
    split
    · rfl
    · rfl
  · exact ⟨M ++ [p], kB_new m, fun q => by rw [List.mem_append, List.mem_singleton], by rw [List.length_append]; exact Nat.le_refl _⟩
theorem keys_rows {H : Hp} {bs : List Addr} : ∀ {M : List (List Str)}, IsKeys H (kB M) bs → ∃ L : List (Addr × List Str), bs.map V.ref = L.map (fun q => V.ref q.1) ∧ RowsT H L ∧ L.map (·.2) = M := by
  intro M
  induction M generalizing bs with
  | nil =>
    intro h
    unfold IsKeys at h
    cases h
    exact ⟨[], rfl, (fun q hq => nomatch hq), rfl⟩
  | cons m M ih =>
    intro h
    unfold IsKeys at h
    cases h with
    | cons h t =>
      obtain ⟨L, g1, g2, g3⟩ := ih t
      refine ⟨(_, m) :: L, by rw [List.map_cons, List.map_cons, g1], fun q hq => ?_, by rw [List.map_cons, g3]⟩
      rcases List.mem_cons.mp hq with rfl | hq
      · rw [keyS] at h
        exact h
      · exact g2 q hq
section
variable {P : Program} {w : World} {K : PySem.W.Frag} {mg : Str → Option Value} {base : Heap}
def spSafeRounds (T : List (Addr × Str)) : Sp := fun vs H Q _ => ∃ (a b : Addr) (ys : List Str) (B : List (Addr × List Str)), vs = [.ref a, .ref b] ∧ SqT K H a (ys.map V.str) ∧ ys.length ≤ 6 ∧ ys.Nodup ∧ sortedS ys = true ∧ H b = some (.lst (B.map fun q => V.ref q.1)) ∧ RowsT H B ∧ B.length ≤ 256 ∧ Tabs T H ∧
  ∀ (p : Addr) (H' : Hp), Evl.Ex (nt H) (nt H') → Tabs T H' → nt H p = none → SafeD H' p (fun on => decide (on ∈ B.map (·.2))) ys → Q (.ref p) H'
abbrev nSafeR : List Str := ["changing", "broken", "barred", "found", "done", "safe", "node", "behind", "lot", "longer", "changed", "other"]
theorem sc_safeR : FnScope nSafeR ["changing", "broken"] (defScope p_safe_rounds) := ⟨rfl, rfl, rfl, by decide +kernel, rfl, by decide +kernel, by decide +kernel⟩
theorem ok_safeR {f : Addr} {fd : FuncData} {T : List (Addr × Str)} (F : Fun K "safe_rounds" "safe_rounds" p_safe_rounds f fd) (C1 : Cal P w K mg base 5 "parts_of" ["lot"] (spParts (K := K) T)) (C2 : Cal P w K mg base 1 "joined" ["lot", "other"] (spJoined (K := K)))
    (mRev : mg "reversed" = none) (mList : mg "list" = none) (mSorted : mg "sorted" = none) : FnOk P w K mg base CX0 6 f fd ["changing", "broken"] (spSafeRounds (K := K) T) := by
  obtain ⟨f1, fd1, F1, k1, b1, g1⟩ := C1.ex
  obtain ⟨f2, fd2, F2, k2, b2, g2⟩ := C2.ex
  refine F.ok sc_safeR (fun vs H Q E h => ?_) (fun cdv A outer s H vs Q E hr h => ?_)
  · obtain ⟨a, b, ys, B, rfl, _⟩ := h
    rfl
  · obtain ⟨a, b, ys, B, rfl, ha, l6, nd, so, hb, tBr, lB, hT, k⟩ := h
    have ndN := sc_safeR.nd
    have hu := hu_of hr
    have hr1 : Room 1 _ := hr.mono (by decide)
    refine ⟨_, pss_cons (ps_setDcT (i := 2) hu rfl ndN rfl rfl (sw_trueD rfl rfl rfl rfl) (own := [("changed", 10)]) (g := gName 10) (tt := tYes) (tk := tVar 10) (tv := tC (.bl true)) (pi_list (pv 1)) (blkOk_by (own := [("changed", 10)]) (N := nSafeR) (sc := defScope p_safe_rounds) (by decide +kernel))
          (fun _ _ _ _ _ => pg_name (i := 10) ndN rfl (Or.inl rfl)) (fun _ _ _ _ _ => pts_nil) (fun _ _ _ _ _ => pv 10) (fun _ _ _ _ _ => pe_bl))
      (pss_cons (ps_set (i := 3) ndN rfl (.inr rfl) pe_dnewT)
      (pss_cons (ps_for PassesOwn.never rfl (pi_reversed (by rfl) mRev (pa_cons (pe_call F1 hr rfl g1 k1 b1 .nil pass0 (pa_cons (pv 0) pa_nil)) pa_nil)) (pg_name (i := 4) ndN rfl (.inr rfl))
        (pss_cons (ps_set (i := 5) ndN rfl (.inl rfl) (pe_ifExp (pt_cmp (pc_din hu (pv 4) (pv 2)) rfl) pe_dnewT (pe_dispT hu (pe_tup pa_nil) pe_bl)))
        (pss_cons (ps_for PassesOwn.never rfl (pi_list (pe_lc (own := [("other", 11)]) (g := gName 11) (tt := tTest (tOp (rIn K true) (tVar 11) (tVar 4))) (te := tVar 11) rfl ndN (pi_tup (pv 0)) (blkOk_by (own := [("other", 11)]) (N := nSafeR) (sc := defScope p_safe_rounds) (by decide +kernel))
            (fun _ _ _ _ _ => pg_name (i := 11) ndN rfl (Or.inl rfl)) (fun _ _ _ _ _ => pts_one (pt_cmpR op_notIn_seq (pv 11) (pv 4) rfl)) (fun _ _ _ _ _ => pv 11))) (pg_name (i := 6) ndN rfl (.inl rfl))
          (pss_cons (ps_set (i := 7) ndN rfl (.inl rfl) (pe_dget hu (pv 3) (pe_call F2 hr1 rfl g2 k2 b2 .nil pass0 (pa_cons (pv 4) (pa_cons (pe_tup (pa_cons (pv 6) pa_nil)) pa_nil))) (fun _ _ => rfl)))
          (pss_one (ps_for PassesOwn.never rfl (pi_list (pe_callTy (call_list_dT rfl) (by rfl) mList (by decide +kernel) (pa_cons (pv 5) pa_nil))) (pg_name (i := 8) ndN rfl (.inl rfl))
            (pss_one (ps_if (pt_cmp (pc_din hu (pv 8) (pv 7)) rfl)
              (pss_cons (ps_set (i := 9) ndN rfl (.inl rfl) (pe_tup (StX.pa_star (pv 8) (pa_cons (pv 6) pa_nil))))
              (pss_one (ps_dput hu (pv 5) (pv 9) pe_bl rfl))) pss_nil))))))
        (pss_one (ps_dput hu (pv 3) (pv 4) (pv 5) rfl)))))
      (pss_one (ps_ret (pe_lock (pe_dcT (own := [("done", 4)]) (g := gName 4) (tt := tYes) (tk := tVar 4) (tv := tCB rSortDT (tCons (tDGet (tVar 3) (tVar 4)) tNil)) hu rfl ndN (pi_keys (pv 3)) (blkOk_by (own := [("done", 4)]) (N := nSafeR) (sc := defScope p_safe_rounds) (by decide +kernel))
          (fun _ _ _ _ _ => pg_name (i := 4) ndN rfl (Or.inl rfl)) (fun _ _ _ _ _ => pts_nil) (fun _ _ _ _ _ => pv 4)
          (fun _ _ _ _ _ => pe_callB (cr_sortDT rfl (Nat.lt_of_le_of_lt (Nat.add_le_add_left (by decide) _) (un65 hr))) (by rfl) mSorted (by decide +kernel) (pa_cons (pe_dget hu (pv 3) (pv 4) (fun _ _ => rfl)) pa_nil)))))))), ?_⟩
    -- barred
    refine ⟨.ref b, rfl, b, rfl, ⟨_, Evl.sq_of hb⟩, fun D hD => dcT_it (walk_list (K := K) (a := b) (xs := B.map fun q => V.ref q.1))
      (fun i H' => Evl.Ex H H' ∧ ∃ M, H' D = some (.dT (kB M)) ∧ (∀ q, q ∈ M ↔ q ∈ (B.take i).map (·.2)) ∧ M.length ≤ i) ⟨Evl.Ex.new hD, [], upd_same, fun q => Iff.rfl, Nat.le_refl _⟩ (fun i H' _ h => Evl.sq_of (h.1 _ _ hb)) ?_ ?_⟩
    · rintro i v H1 H1' hi ⟨x1, M, d1, mM, lM⟩ ⟨rfl, hx⟩
      obtain ⟨q, hq, rfl⟩ := rowsT_at hx
      have hil := (List.getElem?_eq_some_iff.mp hq).1
      obtain ⟨M', e1, e2, e3⟩ := kB_put M q.2
      refine ⟨rfl, yes_if ⟨.ref q.1, rfl, _, q.2.map Sum.inr, q.1, rfl, by rw [keyS]; exact x1 _ _ (tBr q (List.mem_of_getElem? hq)), d1, by rw [kB_len]; exact small1000 (by omega), x1.mut hD, M', by rw [upd_same, e1], fun r => ?_, by omega⟩⟩
      rw [e2, mM, List.take_add_one, hq, List.map_append, List.mem_append]
      show _ ↔ _ ∨ r ∈ [q.2]
      rw [List.mem_singleton]
    rintro H1 ⟨x1, MB, d1, mB, lMB⟩
    rw [List.length_map] at lMB
    rw [List.length_map, List.take_length] at mB
    generalize hbk : (fun on => decide (on ∈ B.map (·.2))) = bk at k
    have ebk : ∀ on, decide (on ∈ MB) = bk on := fun on => by
      rw [← hbk]
      exact decide_eq_decide.mpr (mB on)
    -- found
    refine fun fo hfo => ?_
    have y1 : Evl.Ex H1 (upd H1 fo (.dT [])) := Evl.Ex.new hfo
    have f1' : (upd H1 fo (.dT [])) fo = some (.dT []) := upd_same
    have nD : D ≠ fo := fun e => by rw [e, hfo] at d1; cases d1
    generalize upd H1 fo (.dT []) = H2 at y1 f1'
    have x12 := x1.trans y1
    have hfoH : H fo = none := ex_none x1 hfo
    refine ⟨.ref a, rfl, a, ys, rfl, Evl.ex_t x12 ha, l6, hT.ext x12, fun p H3 L x3 T3 hp tL pL sL => ?_⟩
    have eL : L.map (·.2) = partsS ys := partsS_is pL sL
    have Ll : L.length ≤ 64 := by
      have := partsS_len (zs := ys) l6
      rw [← eL, List.length_map] at this
      exact this
    have Lnd : (L.map (·.2)).Nodup := by rw [eL]; exact partsS_nodup nd
    have hfo3 : H3 fo = some (.dT []) := (x3.trans (ex_nt H3)) _ _ (nt_of f1' fun _ z => by cases z)
    have base0 : Evl.Ex (nt H) (woA fo H3) := fun u o h => by
      have ne : u ≠ fo := fun e => by
        have := (nt_some h).1
        rw [e, hfoH] at this
        cases this
      exact woA_some ((nt_some ((nt_ex x12).trans x3 _ _ h)).1) ne
    have hpb : woA fo H3 p = some (.lst (L.map fun q => V.ref q.1)) := woA_some hp fun e => by rw [e, hfo3] at hp; cases hp
    have tLb : RowsT (woA fo H3) L := fun q hq => woA_some (tL q hq) fun e => by have := tL q hq; rw [e, hfo3] at this; cases this
    have dDb : woA fo H3 D = some (.dT (kB MB)) := woA_some ((nt_some (x3 _ _ (nt_of (y1 _ _ d1) fun _ z => by cases z))).1) nD
    have Tb : Tabs T (woA fo H3) := by
      intro q hq
      obtain ⟨ts, t1, t2, t3⟩ := T3 q hq
      refine ⟨ts, woA_some t1 (fun e => by rw [e, hfo3] at t1; cases t1), t2, fun pos cv hcv => ?_⟩
      obtain ⟨c', e1, e2⟩ := t3 pos cv hcv
      refine ⟨c', e1, woA_some e2 fun e => ?_⟩
      rw [e, hfo3] at e2
      exact codeO_dT e2.symm
    have hab : SqT K (woA fo H3) a (ys.map V.str) := sqt_to (sqt_nt ha) base0
    refine ⟨p, _, rfl, Evl.sq_of hp, for_it walk_rev
      (fun i σ H' => (∃ x4 x5 x6 x7 x8 x9 : Option V, σ = [some (.ref a), some (.ref b), some (.ref D), some (.ref fo), x4, x5, x6, x7, x8, x9, none, none]) ∧ Evl.Ex (woA fo H3) H' ∧ ∃ Tt : List (List Str × Addr), H' fo = some (.dT (kT Tt)) ∧ Tt.map (·.1) = (partsS ys).reverse.take i ∧ ∀ t ∈ Tt, t.2 ≠ fo ∧ H' t.2 = some (.dT (kB (safeA bk ys t.1))))
      ⟨⟨_, _, _, _, _, _, rfl⟩, woA_ex fo H3, [], hfo3, rfl, fun t ht => nomatch ht⟩ (fun i σ H' _ h => Evl.sq_of (h.2.1 _ _ hpb)) ?_ ?_⟩
    · rintro i v σ H4' H4 hi ⟨⟨x4, x5, x6, x7, x8, x9, rfl⟩, b4, Tt, f4, eT, tT⟩ ⟨rfl, hv⟩
      rw [List.length_map] at hi hv
      obtain ⟨q, hq, rfl⟩ := rowsT_at hv
      have mq := List.mem_of_getElem? hq
      have hqr : (partsS ys).reverse[i]? = some q.2 := by
        rw [← eL, List.getElem?_reverse (by rw [List.length_map]; exact hi), List.length_map, List.getElem?_map, hq]
        rfl
      have et : (partsS ys).reverse.take (i + 1) = (partsS ys).reverse.take i ++ [q.2] := by rw [List.take_add_one, hqr]; rfl
      have split : (partsS ys).reverse = (partsS ys).reverse.take i ++ q.2 :: (partsS ys).reverse.drop (i + 1) := by
        obtain ⟨hlt, he⟩ := List.getElem?_eq_some_iff.mp hqr
        rw [← he, List.getElem_cons_drop, List.take_append_drop]
      have zsub : q.2.Sublist ys := partsS_sub (by rw [← eL]; exact List.mem_map_of_mem mq)
      have zl : q.2.length ≤ 6 := Nat.le_trans zsub.length_le l6
      have tq4 := b4 _ _ (tLb q mq)
      have Ttl : Tt.length ≤ 64 := by
        have h1 := congrArg List.length eT
        rw [List.length_map, List.length_take, List.length_reverse, ← eL, List.length_map] at h1
        omega
      have qT : q.2 ∉ Tt.map (·.1) := fun m => by
        rw [eT] at m
        have h1 : ((partsS ys).reverse.take (i + 1)).Nodup := (List.pairwise_reverse.mpr ((eL ▸ Lnd : (partsS ys).Nodup).imp fun h => h.symm)).sublist (List.take_sublist _ _)
        rw [et] at h1
        exact (List.nodup_append.mp h1).2.2 _ m _ (List.mem_singleton.mpr rfl) rfl
      obtain ⟨zs, hzs⟩ : ∃ zs, zs = q.2 := ⟨_, rfl⟩
      rw [← hzs] at zsub zl tq4 qT split et
      -- safe = {} or {(): True}
      have pick : ∀ {R : V → Hp → Prop}, (∀ (sd : Addr) (H5 : Hp), H4 sd = none → Evl.Ex H4 H5 → H5 sd = some (.dT (kB (safeM bk ys zs []))) → R (.ref sd) H5) →
          tIf (tB (tDIn (tVar 4) (tVar 2))) tDNewT (tDispT (tTup tNil) (tC (.bl true))) [some (.ref a), some (.ref b), some (.ref D), some (.ref fo), some (.ref q.1), x5, x6, x7, x8, x9, none, none] H4 R := fun {R} r => by
        refine ⟨.ref q.1, rfl, .ref D, rfl, D, _, rfl, .inr ⟨kB MB, zs.map Sum.inr, q.1, .inl (b4 _ _ dDb), rfl, by rw [keyS]; exact tq4, rfl⟩, _, rfl, ?_⟩
        rw [kB_has, ebk]
        have sm := safeM_nil bk nd zsub
        cases hbz : bk zs with
        | true =>
          rw [hbz, if_pos rfl] at sm
          refine iteT fun sd hsd => r sd _ hsd (Evl.Ex.new hsd) ?_
          rw [sm]
          exact upd_same
        | false =>
          rw [hbz, if_neg (by decide)] at sm
          refine iteF fun sd hsd => ⟨by show 0 ≤ sizeLine; decide, fun e0 he0 => ?_⟩
          have ne : e0 ≠ sd := fun e => by rw [e, upd_same] at he0; cases he0
          refine ⟨by rw [upd_ne ne.symm]; exact upd_same, e0, [], rfl, upd_same, r sd _ hsd (((Evl.Ex.new hsd).trans (Evl.Ex.new he0)).mut hsd) ?_⟩
          rw [sm, upd_same]
          rfl
      refine pick fun sd H5 hsd x5' d5 => ?_
      have nsf : sd ≠ fo := fun e => by rw [e, f4] at hsd; cases hsd
      have hab5 := sqt_to hab (b4.trans x5')
      -- the nodes that are left
      refine ⟨.ref a, rfl, a, rfl, ⟨_, hab5⟩, fun R hR => lc_tup (K := K) (a := a) (xs := ys.map V.str)
        (fun j H' => Evl.Ex H5 H' ∧ H' R = some (.lst ((restOf zs (ys.take j)).map V.str))) ⟨Evl.Ex.new hR, upd_same⟩ (fun j H' _ h => sqt_to hab5 h.1) ?_ ?_⟩
      · rintro j y H6 hj ⟨x6', r6⟩
        obtain ⟨z, hz, rfl⟩ := str_at hj
        have ez : ys.take (j + 1) = ys.take j ++ [z] := by rw [List.take_add_one, hz]; rfl
        refine ⟨rfl, .str z, rfl, .ref q.1, rfl, q.1, zs.map V.str, rfl, .inr (Evl.st_of (x6' _ _ (x5' _ _ tq4))), rfl, flat_strs _, _, rfl, ?_⟩
        rw [inV_str]
        have few : (restOf zs (ys.take j)).length ≤ 6 := Nat.le_trans (restOf_len _ _) (by rw [List.length_take]; omega)
        by_cases mz : z ∈ zs
        · rw [decide_eq_true mz]
          refine iteF ⟨x6', ?_⟩
          rw [r6, ez, restOf_snoc, if_pos mz, List.append_nil]
        · rw [decide_eq_false mz]
          refine iteT ⟨.str z, rfl, _, r6, by rw [List.length_map]; exact small1000 (by omega), x6'.mut hR, ?_⟩
          rw [upd_same, ez, restOf_snoc, if_neg mz, List.map_append]
          rfl
      rintro H6 ⟨x6', r6⟩
      rw [List.length_map, List.take_length] at r6
      have d6 := x6' _ _ d5
      have nRs : R ≠ sd := fun e => by rw [e, d5] at hR; cases hR
      have x46 := x5'.trans x6'
      have rsub := restOf_sub zs ys
      have r6l : (restOf zs ys).length ≤ 6 := Nat.le_trans (restOf_len _ _) l6
      refine ⟨R, rfl, ⟨_, Evl.sq_of r6⟩, for_list (K := K) (a := R) (xs := (restOf zs ys).map V.str)
        (fun j σ H' => (∃ x6 x7 x8 x9 : Option V, σ = [some (.ref a), some (.ref b), some (.ref D), some (.ref fo), some (.ref q.1), some (.ref sd), x6, x7, x8, x9, none, none]) ∧ Evl.Ex H4 H' ∧ H' R = some (.lst ((restOf zs ys).map V.str)) ∧ H' sd = some (.dT (kB (safeM bk ys zs ((restOf zs ys).take j)))))
        ⟨⟨_, _, _, _, rfl⟩, x46, r6, d6⟩ (fun j σ H' _ h => Evl.sq_of h.2.2.1) ?_ ?_⟩
      · rintro j y σ H7 hj ⟨⟨x6, x7, x8, x9, rfl⟩, x7', r7, d7⟩
        obtain ⟨z, hz, rfl⟩ := str_at hj
        have zr := List.mem_of_getElem? hz
        obtain ⟨zin, zn⟩ := restOf_mem.mp zr
        have ej : (restOf zs ys).take (j + 1) = (restOf zs ys).take j ++ [z] := by rw [List.take_add_one, hz]; rfl
        have jsub : ((restOf zs ys).take j ++ [z]).Sublist (restOf zs ys) := by rw [← ej]; exact List.take_sublist _ _
        have hz1 : ([z] : List Str).Sublist ys := List.singleton_sublist.mpr zin
        -- behind
        refine ⟨.ref fo, rfl, .ref q.1, rfl, .str z, rfl, by show 1 ≤ sizeLine; decide, fun s1 hs1 => ?_⟩
        have y8 : Evl.Ex H7 (upd H7 s1 (.tup [.str z])) := Evl.Ex.new hs1
        have t8 : (upd H7 s1 (.tup [.str z])) s1 = some (.tup (([z] : List Str).map V.str)) := upd_same
        generalize upd H7 s1 (.tup [.str z]) = H8 at y8 t8
        refine ⟨q.1, s1, zs, [z], rfl, Evl.st_of ((x7'.trans y8) _ _ tq4), Evl.st_of t8, by simp only [List.length_cons, List.length_nil]; omega, fun jp H9 js x9' _ tj pj sj => ?_⟩
        have ejs : js = mixS ys zs [z] := mixS_is so nd zsub hz1 (fun x hx => by rw [List.mem_singleton.mp hx]; exact zn) pj sj
        subst ejs
        have x79 := y8.trans x9'
        have x49 := x7'.trans x79
        obtain ⟨bt, hbt, ebt⟩ : ∃ t ∈ Tt, t.1 = mixS ys zs [z] := by
          have m : mixS ys zs [z] ∈ Tt.map (·.1) := by
            rw [eT]
            exact longer_ahead split (mixS_sub _ _ _) (mixS_longer zsub nd zin zn)
          obtain ⟨t, h1, h2⟩ := List.mem_map.mp m
          exact ⟨t, h1, h2⟩
        have ndT : (Tt.map (·.1)).Nodup := by
          rw [eT]
          exact (List.pairwise_reverse.mpr ((eL ▸ Lnd : (partsS ys).Nodup).imp fun h => h.symm)).sublist (List.take_sublist _ _)
        have gb := kT_get ndT hbt
        rw [ebt] at gb
        obtain ⟨nbf, db4⟩ := tT bt hbt
        rw [ebt] at db4
        refine ⟨fo, .ref bt.2, rfl, .inr ⟨kT Tt, (mixS ys zs [z]).map Sum.inr, jp, .inl (x49 _ _ f4), rfl, by rw [keyS]; exact tj, gb.symm⟩, ?_⟩
        -- list(safe)
        have d9 := x79 _ _ d7
        have r9 := x79 _ _ r7
        refine ⟨.ref sd, rfl, sd, _, rfl, .inl d9, fun lp bs hlp kb => ?_⟩
        obtain ⟨Lk, eLk, tLk, mLk⟩ := keys_rows kb
        rw [eLk]
        obtain ⟨Ms, hMs⟩ : ∃ Ms, Ms = safeM bk ys zs ((restOf zs ys).take j) := ⟨_, rfl⟩
        rw [← hMs] at mLk d9
        have Msl : Ms.length ≤ 64 := by rw [hMs]; exact safeM_len (by rw [List.length_take]; omega)
        have Lkl : Lk.length ≤ 64 := by rw [← List.length_map (f := (·.2)), mLk]; exact Msl
        have MsS : ∀ r ∈ Ms, r.Sublist ((restOf zs ys).take j) := fun r hr' => by rw [hMs] at hr'; exact (safeM_mem.mp hr').1
        have zT : z ∉ (restOf zs ys).take j := fun h => (List.nodup_append.mp ((nd.sublist rsub).sublist jsub)).2.2 z h z (List.mem_singleton.mpr rfl) rfl
        have Msn : Ms.Nodup := by rw [hMs]; exact safeM_nodup ((nd.sublist rsub).sublist (List.take_sublist _ _))
        have y10 : Evl.Ex H9 (upd H9 lp (.lst (Lk.map fun q => V.ref q.1))) := Evl.Ex.new hlp
        have l10 : (upd H9 lp (.lst (Lk.map fun q => V.ref q.1))) lp = some (.lst (Lk.map fun q => V.ref q.1)) := upd_same
        generalize upd H9 lp (.lst (Lk.map fun q => V.ref q.1)) = H10 at y10 l10
        have d10 := y10 _ _ d9
        have nls : lp ≠ sd := fun e => by rw [e, d9] at hlp; cases hlp
        refine ⟨lp, rfl, ⟨_, Evl.sq_of l10⟩, for_list (K := K) (a := lp) (xs := Lk.map fun q => V.ref q.1)
          (fun l σ H' => (∃ x8 x9 : Option V, σ = [some (.ref a), some (.ref b), some (.ref D), some (.ref fo), some (.ref q.1), some (.ref sd), some (.str z), some (.ref bt.2), x8, x9, none, none]) ∧ Evl.Ex H4 H' ∧ H' R = some (.lst ((restOf zs ys).map V.str)) ∧ H' lp = some (.lst (Lk.map fun q => V.ref q.1)) ∧ RowsT H' Lk ∧
            H' sd = some (.dT (kB (Ms ++ ((Ms.take l).filter fun r => decide (r ∈ safeA bk ys (mixS ys zs [z]))).map fun r => r ++ [z]))))
          ⟨⟨_, _, rfl⟩, x49.trans y10, y10 _ _ r9, l10, tLk.to y10, by rw [List.take_zero, List.filter_nil, List.map_nil, List.append_nil]; exact d10⟩ (fun l σ H' _ h => Evl.sq_of h.2.2.2.1) ?_ ?_⟩
        · rintro l u σ H11 hl ⟨⟨x8, x9, rfl⟩, x11, r11, l11, tL11, d11⟩
          obtain ⟨r, hr', rfl⟩ := rowsT_at hl
          have mr := List.mem_of_getElem? hr'
          have trr := tL11 r mr
          have hMr : Ms[l]? = some r.2 := by rw [← mLk, List.getElem?_map, hr']; rfl
          have eM : Ms.take (l + 1) = Ms.take l ++ [r.2] := by rw [List.take_add_one, hMr]; rfl
          have rs := MsS r.2 (List.mem_of_getElem? hMr)
          have rl : r.2.length ≤ 6 := Nat.le_trans rs.length_le (by rw [List.length_take]; omega)
          have hil : l < Ms.length := (List.getElem?_eq_some_iff.mp hMr).1
          refine ⟨.ref r.1, rfl, .ref bt.2, rfl, bt.2, _, rfl, .inr ⟨_, r.2.map Sum.inr, r.1, .inl (x11 _ _ db4), rfl, by rw [keyS]; exact trr, rfl⟩, _, rfl, ?_⟩
          rw [kB_has]
          by_cases mb : r.2 ∈ safeA bk ys (mixS ys zs [z])
          · rw [decide_eq_true mb]
            refine iteT ⟨.ref r.1, rfl, r.1, _, rfl, .inl (Evl.st_of trr), .str z, rfl, ?_, fun t ht => ?_⟩
            · rw [List.length_append, List.length_map]
              exact Nat.le_of_lt (small1000 (by simp only [List.length_cons, List.length_nil]; omega))
            have y12 : Evl.Ex H11 (upd H11 t (.tup (r.2.map V.str ++ [.str z]))) := Evl.Ex.new ht
            have t12 : (upd H11 t (.tup (r.2.map V.str ++ [.str z]))) t = some (.tup ((r.2 ++ [z]).map V.str)) := by rw [upd_same, List.map_append]; rfl
            generalize upd H11 t (.tup (r.2.map V.str ++ [.str z])) = H12 at y12 t12
            have d12 := y12 _ _ d11
            have few : (Ms ++ ((Ms.take l).filter fun r => decide (r ∈ safeA bk ys (mixS ys zs [z]))).map fun r => r ++ [z]).length ≤ 128 := by
              rw [List.length_append, List.length_map]
              have := List.length_filter_le (fun r => decide (r ∈ safeA bk ys (mixS ys zs [z]))) (Ms.take l)
              rw [List.length_take] at this
              omega
            have new : r.2 ++ [z] ∉ Ms ++ ((Ms.take l).filter fun r => decide (r ∈ safeA bk ys (mixS ys zs [z]))).map fun r => r ++ [z] := fun h => by
              rcases List.mem_append.mp h with h | h
              · exact zT ((MsS _ h).subset (List.mem_append_right _ List.mem_cons_self))
              · obtain ⟨r', h1, h2⟩ := List.mem_map.mp h
                have e := (List.append_inj' h2 rfl).1
                rw [e] at h1
                have h3 : (Ms.take (l + 1)).Nodup := Msn.sublist (List.take_sublist _ _)
                rw [eM] at h3
                exact (List.nodup_append.mp h3).2.2 _ (List.mem_filter.mp h1).1 _ (List.mem_singleton.mpr rfl) rfl
            refine ⟨.ref sd, rfl, .ref t, rfl, sd, _, rfl, DPut.t (k := (r.2 ++ [z]).map Sum.inr) d12 (by rw [keyS]; exact t12) (by rw [kB_len]; exact small1000 (by omega)), ⟨_, _, rfl⟩, (x11.trans y12).mut hsd, ?_, ?_, fun q' hq' => ?_, ?_⟩
            · rw [upd_ne nRs]; exact y12 _ _ r11
            · rw [upd_ne nls]; exact y12 _ _ l11
            · rw [upd_ne (ne_of (y12 _ _ (tL11 q' hq')) d12 (by intro z; cases z))]
              exact y12 _ _ (tL11 q' hq')
            · rw [upd_same, kB_new new, eM, List.filter_append, List.filter_cons_of_pos (by rw [decide_eq_true mb]), List.map_append, List.append_assoc]
              rfl
          · rw [decide_eq_false mb]
            refine iteF ⟨⟨_, _, rfl⟩, x11, r11, l11, tL11, ?_⟩
            rw [d11, eM, List.filter_append, List.filter_cons_of_neg (by rw [decide_eq_false mb]; decide), List.filter_nil, List.append_nil]
        · rintro σ H11 ⟨⟨x8, x9, rfl⟩, x11, r11, l11, tL11, d11⟩
          refine ⟨⟨_, _, _, _, rfl⟩, x11, r11, ?_⟩
          have e1 : Lk.length = Ms.length := by rw [← mLk, List.length_map]
          rw [List.length_map, e1, List.take_length] at d11
          rw [d11, ej, safeM_snoc nd zsub jsub, ← hMs]
      · rintro σ H7 ⟨⟨x6, x7, x8, x9, rfl⟩, x7', r7, d7⟩
        rw [List.length_map, List.take_length] at d7
        have f7 := x7' _ _ f4
        refine ⟨.ref sd, rfl, .ref fo, rfl, .ref q.1, rfl, fo, _, rfl, DPut.t (k := zs.map Sum.inr) f7 (by rw [keyS]; exact x7' _ _ tq4) (by rw [kT_len]; exact small1000 (by omega)), ⟨_, _, _, _, _, _, rfl⟩, (b4.trans x7').mut (woA_none fo H3), Tt ++ [(zs, sd)], ?_, ?_, fun t ht => ?_⟩
        · rw [upd_same, kT_new qT]
        · rw [List.map_append, eT, et]
          rfl
        · rcases List.mem_append.mp ht with ht | ht
          · obtain ⟨n1, n2⟩ := tT t ht
            exact ⟨n1, by rw [upd_ne n1]; exact x7' _ _ n2⟩
          · rw [List.mem_singleton.mp ht]
            exact ⟨nsf, by rw [upd_ne nsf]; exact d7⟩
    · rintro σ H4 ⟨⟨x4, x5, x6, x7, x8, x9, rfl⟩, b4, Tt, f4, eT, tT⟩
      rw [List.length_map, ← List.length_map (f := (·.2)), eL, ← List.length_reverse, List.take_length] at eT
      have ndT : (Tt.map (·.1)).Nodup := by
        rw [eT]
        exact List.pairwise_reverse.mpr ((eL ▸ Lnd : (partsS ys).Nodup).imp fun h => h.symm)
      have Ttl : Tt.length ≤ 64 := by
        have h1 := congrArg List.length eT
        rw [List.length_map, List.length_reverse, ← eL, List.length_map] at h1
        omega
      have nfo : ∀ {u o}, woA fo H3 u = some o → u ≠ fo := fun {u o} h e => by rw [e, woA_none] at h; cases h
      refine ⟨fo, .dT (kT Tt), f4, trivial, fun od => ?_⟩
      have locked : (upd H4 fo (.frz od (.dT (kT Tt)))) fo = some (.frz od (.dT (kT Tt))) := upd_same
      have bL : Evl.Ex (woA fo H3) (upd H4 fo (.frz od (.dT (kT Tt)))) := fun u o h => by rw [upd_ne (nfo h)]; exact b4 _ _ h
      have tTL : ∀ t ∈ Tt, (upd H4 fo (.frz od (.dT (kT Tt)))) t.2 = some (.dT (kB (safeA bk ys t.1))) := fun t ht => by rw [upd_ne (tT t ht).1]; exact (tT t ht).2
      generalize upd H4 fo (.frz od (.dT (kT Tt))) = HL at locked bL tTL
      refine ⟨.ref fo, rfl, fo, od, rfl, .inr ⟨kT Tt, locked, fun R hR => dcT_it walk_keysT
        (fun i H' => Evl.Ex HL H' ∧ ∃ T2 : List (List Str × Addr), H' R = some (.dT (kT T2)) ∧ T2.map (·.1) = (Tt.take i).map (·.1) ∧ ∀ t ∈ T2, ∃ L : List (Addr × List Str), H' t.2 = some (.lst (L.map fun q => V.ref q.1)) ∧ RowsT H' L ∧ L.map (·.2) = safeS bk ys t.1)
        ⟨Evl.Ex.new hR, [], upd_same, rfl, fun t ht => nomatch ht⟩ (fun i H' _ h => h.1 _ _ locked) ?_ ?_⟩⟩
      · rintro i x H5 H5' hi ⟨x5', T2, r5, eT2, tT2⟩ ⟨rfl, kk, v, qa, hkv, rfl, hqa⟩
        rw [kT_len] at hi
        obtain ⟨t, ht, ekk⟩ : ∃ t, Tt[i]? = some t ∧ kk = t.1.map Sum.inr := by
          unfold kT at hkv
          rw [List.getElem?_map] at hkv
          cases z : Tt[i]? with
          | none => rw [z] at hkv; cases hkv
          | some t =>
            rw [z] at hkv
            exact ⟨t, rfl, (congrArg Prod.fst (Option.some.inj hkv)).symm⟩
        subst ekk
        rw [keyS] at hqa
        have mt := List.mem_of_getElem? ht
        have ei : Tt.take (i + 1) = Tt.take i ++ [t] := by rw [List.take_add_one, ht]; rfl
        have gT := kT_get ndT mt
        have new : t.1 ∉ T2.map (·.1) := fun m => by
          rw [eT2] at m
          have h1 : ((Tt.take (i + 1)).map (·.1)).Nodup := ndT.sublist ((List.take_sublist _ _).map _)
          rw [ei, List.map_append] at h1
          exact (List.nodup_append.mp h1).2.2 _ m _ (List.mem_singleton.mpr rfl) rfl
        have T2l : T2.length ≤ 64 := by
          have h1 := congrArg List.length eT2
          rw [List.length_map, List.length_map, List.length_take] at h1
          omega
        refine ⟨rfl, yes_if ⟨.ref qa, rfl, .ref fo, rfl, .ref qa, rfl, fo, .ref t.2, rfl, .inr ⟨kT Tt, t.1.map Sum.inr, qa, .inr ⟨od, x5' _ _ locked⟩, rfl, by rw [keyS]; exact hqa, gT.symm⟩, t.2, _, safeA bk ys t.1, rfl, .inl (x5' _ _ (tTL t mt)), by unfold kB; rw [List.map_map]; rfl, fun p hp => safeA_head hp, fun ws lp hpm hsr tws hlp => ?_⟩⟩
        have y6 : Evl.Ex H5' (upd H5' lp (.lst (ws.map fun q => V.ref q.1))) := Evl.Ex.new hlp
        have l6' : (upd H5' lp (.lst (ws.map fun q => V.ref q.1))) lp = some (.lst (ws.map fun q => V.ref q.1)) := upd_same
        generalize upd H5' lp (.lst (ws.map fun q => V.ref q.1)) = H6 at y6 l6'
        have r6 := y6 _ _ r5
        refine ⟨_, t.1.map Sum.inr, qa, rfl, by rw [keyS]; exact y6 _ _ hqa, r6, by rw [kT_len]; exact small1000 (by omega), (x5'.trans y6).mut hR, T2 ++ [(t.1, lp)], by rw [upd_same, kT_new new], by rw [List.map_append, eT2, ei, List.map_append]; rfl, fun u hu => ?_⟩
        have keep : ∀ {L : List (Addr × List Str)} {a : Addr}, H6 a = some (.lst (L.map fun q => V.ref q.1)) → RowsT H6 L → (upd H6 R (.dT (putK (kT T2) (t.1.map Sum.inr) (.ref lp)))) a = some (.lst (L.map fun q => V.ref q.1)) ∧ RowsT (upd H6 R (.dT (putK (kT T2) (t.1.map Sum.inr) (.ref lp)))) L := fun {L a} h1 h2 =>
          ⟨by rw [upd_ne (ne_of h1 r6 (by intro z; cases z))]; exact h1, fun q hq => by rw [upd_ne (ne_of (h2 q hq) r6 (by intro z; cases z))]; exact h2 q hq⟩
        rcases List.mem_append.mp hu with hu | hu
        · obtain ⟨L', g1, g2, g3⟩ := tT2 u hu
          obtain ⟨k1, k2⟩ := keep (y6 _ _ g1) (g2.to y6)
          exact ⟨L', k1, k2, g3⟩
        · rw [List.mem_singleton.mp hu]
          obtain ⟨k1, k2⟩ := keep l6' (tws.to y6)
          exact ⟨ws, k1, k2, lexL_is hpm hsr⟩
      · rintro H5 ⟨x5', T2, r5, eT2, tT2⟩
        rw [kT_len, List.take_length, eT] at eT2
        have l5 := x5' _ _ locked
        refine ⟨l5, ?_⟩
        have back : Evl.Ex (woA fo H3) (upd H5 fo (.dT (kT Tt))) := fun u o h => by rw [upd_ne (nfo h)]; exact x5' _ _ (bL _ _ h)
        have nRf : R ≠ fo := fun e => by rw [e, locked] at hR; cases hR
        refine k R _ (fun u o h => nt_of ((base0.trans back) _ _ h) (nt_some h).2) (Tb.ext back) ?_ ⟨T2, by rw [upd_ne nRf]; exact r5, eT2, fun t ht => ?_⟩
        · have := ex_none (base0.trans bL) hR
          exact this
        · obtain ⟨L', g1, g2, g3⟩ := tT2 t ht
          exact ⟨L', by rw [upd_ne (ne_of g1 l5 (by intro z; cases z))]; exact g1, fun q hq => by rw [upd_ne (ne_of (g2 q hq) l5 (by intro z; cases z))]; exact g2 q hq, g3⟩
end
end Rw
end T_U2

section T_U3
set_option Elab.async false
set_option linter.all false
set_option maxRecDepth 100000
set_option maxHeartbeats 16000000
namespace Rw
open PySem L2 PyProof.Rows LamX
/-! ### dicts from tuples of names to numbers -/
def kI (T : List (List Str × Nat)) : List (List Key × V) := T.map fun t => (t.1.map Sum.inr, .int (t.2 : Int))
theorem kI_none {T : List (List Str × Nat)} {p : List Str} (h : p ∉ T.map (·.1)) : valV (kI T) (p.map Sum.inr) = none := by
  induction T with
  | nil => rfl
  | cons t T ih =>
    show valV ((t.1.map Sum.inr, V.int (t.2 : Int)) :: kI T) (p.map Sum.inr) = none
    rw [valV_neg (fun e => h (by rw [← inr_inj e]; exact List.mem_cons_self))]
    exact ih fun q => h (List.mem_cons_of_mem _ q)
theorem kI_get {T : List (List Str × Nat)} {t : List Str × Nat} (nd : (T.map (·.1)).Nodup) (h : t ∈ T) : valV (kI T) (t.1.map Sum.inr) = some (.int (t.2 : Int)) := by
  induction T with
  | nil => cases h
  | cons u T ih =>
    show valV ((u.1.map Sum.inr, V.int (u.2 : Int)) :: kI T) (t.1.map Sum.inr) = _
    rcases List.mem_cons.mp h with rfl | h
    · exact valV_pos rfl
    · have nd' := List.nodup_cons.mp nd
      rw [valV_neg (fun e => nd'.1 (show u.1 ∈ T.map (·.1) by rw [inr_inj e]; exact List.mem_map_of_mem h))]
      exact ih nd'.2 h
theorem kI_has {T : List (List Str × Nat)} (nd : (T.map (·.1)).Nodup) (p : List Str) : (valV (kI T) (p.map Sum.inr)).isSome = decide (p ∈ T.map (·.1)) := by
  by_cases m : p ∈ T.map (·.1)
  · obtain ⟨t, h1, rfl⟩ := List.mem_map.mp m
    rw [kI_get nd h1, decide_eq_true m]
    rfl
  · rw [kI_none m, decide_eq_false m]
    rfl
theorem kI_new {T : List (List Str × Nat)} {p : List Str} {n : Nat} (h : p ∉ T.map (·.1)) : putK (kI T) (p.map Sum.inr) (.int (n : Int)) = kI (T ++ [(p, n)]) := by
  rw [putK_new _ (kI_none h)]
  unfold kI
  rw [List.map_append]
  rfl
theorem kI_len (T : List (List Str × Nat)) : (kI T).length = T.length := by unfold kI; rw [List.length_map]
/-! ### lots that safe rounds lead to -/
inductive Rch (brk : List Str → Bool) (ys : List Str) : Nat → List Str → Prop
  | zero : Rch brk ys 0 []
  | step {k : Nat} {d p : List Str} : Rch brk ys k d → p ∈ safeS brk ys d → Rch brk ys (k + 1) (mixS ys d p)
theorem Rch.sub {brk : List Str → Bool} {ys : List Str} {k : Nat} {d : List Str} (h : Rch brk ys k d) : d.Sublist ys := by
  cases h with
  | zero => exact List.nil_sublist _
  | step _ _ => exact mixS_sub _ _ _
/-- so few rounds, and no fewer -/
def Few (brk : List Str → Bool) (ys : List Str) (k : Nat) (d : List Str) : Prop := Rch brk ys k d ∧ ∀ j, j < k → ¬ Rch brk ys j d
theorem few_of {brk : List Str → Bool} {ys : List Str} : ∀ {k : Nat} {d : List Str}, Rch brk ys k d → ∃ j, j ≤ k ∧ Few brk ys j d := by
  intro k
  induction k using Nat.strongRecOn with
  | ind k ih =>
    intro d h
    by_cases c : ∃ j, j < k ∧ Rch brk ys j d
    · obtain ⟨j, h1, h2⟩ := c
      obtain ⟨i, h3, h4⟩ := ih j h1 h2
      exact ⟨i, by omega, h4⟩
    · exact ⟨k, Nat.le_refl _, h, fun j hj q => c ⟨j, hj, q⟩⟩
theorem few_uniq {brk : List Str → Bool} {ys : List Str} {k j : Nat} {d : List Str} (h1 : Few brk ys k d) (h2 : Few brk ys j d) : k = j := by
  rcases Nat.lt_trichotomy k j with l | l | l
  · exact absurd h1.1 (h2.2 k l)
  · exact l
  · exact absurd h2.1 (h1.2 j l)
theorem few_below {brk : List Str → Bool} {ys : List Str} {k : Nat} {d : List Str} (h : Few brk ys (k + 1) d) : ∃ d' p, Few brk ys k d' ∧ p ∈ safeS brk ys d' ∧ d = mixS ys d' p := by
  obtain ⟨h1, h2⟩ := h
  generalize e : k + 1 = m at h1
  cases h1 with
  | zero => omega
  | @step k' d' p h3 h4 =>
    have ek : k' = k := by omega
    subst ek
    exact ⟨d', p, ⟨h3, fun j hj q => h2 (j + 1) (by omega) (q.step h4)⟩, h4, rfl⟩
theorem few_all {brk : List Str → Bool} {ys : List Str} {n : Nat} : ∀ (m : Nat) {d : List Str}, Few brk ys (n + m) d → ∃ d', Few brk ys n d'
  | 0, d, h => ⟨d, h⟩
  | m + 1, d, h => by
    obtain ⟨d', _, h1, _⟩ := few_below (k := n + m) h
    exact few_all m h1
theorem few_zero {brk : List Str → Bool} {ys : List Str} {d : List Str} : Few brk ys 0 d ↔ d = [] := by
  constructor
  · rintro ⟨h, _⟩
    generalize e : (0 : Nat) = m at h
    cases h with
    | zero => rfl
    | step _ _ => omega
  · rintro rfl
    exact ⟨.zero, fun j hj => absurd hj (Nat.not_lt_zero _)⟩
/-- all lots that safe rounds lead to, with their numbers -/
structure NumsOk (brk : List Str → Bool) (ys : List Str) (N : List (List Str × Nat)) : Prop where
  hd : N.head? = some ([], 0)
  nd : (N.map (·.1)).Nodup
  iff : ∀ d k, (d, k) ∈ N ↔ Few brk ys k d
/-- as far as level n -/
structure Upto (brk : List Str → Bool) (ys : List Str) (n : Nat) (N : List (List Str × Nat)) : Prop where
  hd : N.head? = some ([], 0)
  nd : (N.map (·.1)).Nodup
  iff : ∀ d k, (d, k) ∈ N ↔ Few brk ys k d ∧ k ≤ n
theorem Upto.len {brk : List Str → Bool} {ys : List Str} {n : Nat} {N : List (List Str × Nat)} (h : Upto brk ys n N) (l6 : ys.length ≤ 6) : N.length ≤ 64 := by
  have h1 : (N.map (·.1)).length ≤ (partsS ys).length := nodup_le _ _ h.nd fun d hd => by
    obtain ⟨t, ht, rfl⟩ := List.mem_map.mp hd
    exact partsS_has ((h.iff t.1 t.2).mp ht).1.1.sub
  rw [List.length_map] at h1
  exact Nat.le_trans h1 (partsS_len l6)
theorem Upto.done {brk : List Str → Bool} {ys : List Str} {n : Nat} {N : List (List Str × Nat)} (h : Upto brk ys n N) (no : ∀ d, ¬ Few brk ys n d) : NumsOk brk ys N := by
  refine ⟨h.hd, h.nd, fun d k => ⟨fun m => ((h.iff d k).mp m).1, fun m => (h.iff d k).mpr ⟨m, ?_⟩⟩⟩
  rcases Nat.lt_or_ge n k with l | l
  · exfalso
    obtain ⟨d', q⟩ := few_all (n := n) (k - n) (d := d) (by rw [show n + (k - n) = k by omega]; exact m)
    exact no d' q
  · exact l
/-- while a level is walked: the new lots -/
structure Lvl (brk : List Str → Bool) (ys : List Str) (n : Nat) (N : List (List Str × Nat)) (V : List (List Str)) : Prop where
  nd : V.Nodup
  new : ∀ b ∈ V, Rch brk ys (n + 1) b ∧ b ∉ N.map (·.1)
theorem lvl_keys {N : List (List Str × Nat)} {V : List (List Str)} {n : Nat} : (N ++ V.map fun b => (b, n + 1)).map (·.1) = N.map (·.1) ++ V := by
  rw [List.map_append, List.map_map]
  congr 1
  exact List.map_id' V
theorem Lvl.nodup {brk : List Str → Bool} {ys : List Str} {n : Nat} {N : List (List Str × Nat)} {V : List (List Str)} (h : Lvl brk ys n N V) (u : Upto brk ys n N) : ((N ++ V.map fun b => (b, n + 1)).map (·.1)).Nodup := by
  rw [lvl_keys, List.nodup_append]
  exact ⟨u.nd, h.nd, fun a ha b hb e => (h.new b hb).2 (e ▸ ha)⟩
theorem Lvl.few {brk : List Str → Bool} {ys : List Str} {n : Nat} {N : List (List Str × Nat)} {V : List (List Str)} (h : Lvl brk ys n N V) (u : Upto brk ys n N) {b : List Str} (hb : b ∈ V) : Few brk ys (n + 1) b := by
  obtain ⟨h1, h2⟩ := h.new b hb
  refine ⟨h1, fun j hj q => h2 ?_⟩
  obtain ⟨i, h3, h4⟩ := few_of q
  exact List.mem_map.mpr ⟨(b, i), (u.iff b i).mpr ⟨h4, by omega⟩, rfl⟩
theorem Lvl.next {brk : List Str → Bool} {ys : List Str} {n : Nat} {N : List (List Str × Nat)} {V : List (List Str)} (h : Lvl brk ys n N V) (u : Upto brk ys n N) (all : ∀ d, Few brk ys n d → ∀ p ∈ safeS brk ys d, mixS ys d p ∈ N.map (·.1) ∨ mixS ys d p ∈ V) :
    Upto brk ys (n + 1) (N ++ V.map fun b => (b, n + 1)) ∧ ∀ b, b ∈ V ↔ Few brk ys (n + 1) b := by
  have iff : ∀ b, b ∈ V ↔ Few brk ys (n + 1) b := fun b => ⟨h.few u, fun q => by
    obtain ⟨d, p, h1, h2, rfl⟩ := few_below q
    rcases all d h1 p h2 with m | m
    · exfalso
      obtain ⟨t, ht, e⟩ := List.mem_map.mp m
      obtain ⟨h3, h4⟩ := (u.iff t.1 t.2).mp ht
      rw [e] at h3
      have := few_uniq h3 q
      omega
    · exact m⟩
  refine ⟨⟨by rw [List.head?_append, u.hd]; rfl, h.nodup u, fun d k => ?_⟩, iff⟩
  rw [List.mem_append, u.iff]
  constructor
  · rintro (⟨h1, h2⟩ | m)
    · exact ⟨h1, by omega⟩
    · obtain ⟨b, hb, e⟩ := List.mem_map.mp m
      cases e
      exact ⟨(iff _).mp hb, Nat.le_refl _⟩
  · rintro ⟨h1, h2⟩
    by_cases l : k ≤ n
    · exact .inl ⟨h1, l⟩
    · have ek : k = n + 1 := by omega
      subst ek
      exact .inr (List.mem_map.mpr ⟨d, (iff d).mpr h1, rfl⟩)
theorem SafeD.get {H : Hp} {p : Addr} {brk : List Str → Bool} {ys d : List Str} (h : SafeD H p brk ys) (nd : ys.Nodup) (hd : d.Sublist ys) : ∃ (T : List (List Str × Addr)) (a : Addr) (L : List (Addr × List Str)), H p = some (.dT (kT T)) ∧ valV (kT T) (d.map Sum.inr) = some (.ref a) ∧ H a = some (.lst (L.map fun q => V.ref q.1)) ∧ RowsT H L ∧ L.map (·.2) = safeS brk ys d := by
  obtain ⟨T, h1, h2, h3⟩ := h
  have m : d ∈ T.map (·.1) := by rw [h2]; exact List.mem_reverse.mpr (partsS_has hd)
  have ndT : (T.map (·.1)).Nodup := by rw [h2]; exact List.pairwise_reverse.mpr ((partsS_nodup nd).imp fun h => h.symm)
  obtain ⟨t, ht, rfl⟩ := List.mem_map.mp m
  obtain ⟨L, g1, g2, g3⟩ := h3 t ht
  exact ⟨T, t.2, L, h1, kT_get ndT ht, g1, g2, g3⟩
theorem safeS_len {brk : List Str → Bool} {ys d : List Str} (l6 : ys.length ≤ 6) : (safeS brk ys d).length ≤ 64 := by
  unfold safeS
  rw [(lexL_perm _).length_eq]
  exact safeM_len (Nat.le_trans (restOf_len _ _) l6)
end Rw
end T_U3

section T_U4
set_option Elab.async false
set_option linter.all false
set_option maxRecDepth 100000
set_option maxHeartbeats 16000000
namespace Rw
open PySem L2 PyProof.Rows LamX
section
variable {P : Program} {w : World} {K : PySem.W.Frag} {mg : Str → Option Value} {base : Heap}
def spNums : Sp := fun vs H Q _ => ∃ (sp : Addr) (brk : List Str → Bool) (ys : List Str), vs = [.ref sp] ∧ SafeD H sp brk ys ∧ ys.length ≤ 6 ∧ ys.Nodup ∧ sortedS ys = true ∧
  ∀ (D : Addr) (H' : Hp) (N : List (List Str × Nat)), Evl.Ex H H' → H D = none → H' D = some (.dT (kI N)) → NumsOk brk ys N → N.length ≤ 64 → Q (.ref D) H'
abbrev nNums : List Str := ["safe", "found", "newest", "later", "done", "behind", "lot"]
theorem sc_nums : FnScope nNums ["safe"] (defScope p_round_numbers) := ⟨rfl, rfl, rfl, by decide +kernel, rfl, by decide +kernel, by decide +kernel⟩
theorem ok_nums {f : Addr} {fd : FuncData} (F : Fun K "round_numbers" "round_numbers" p_round_numbers f fd) (C2 : Cal P w K mg base 1 "joined" ["lot", "other"] (spJoined (K := K))) : FnOk P w K mg base CX0 2 f fd ["safe"] spNums := by
  obtain ⟨f2, fd2, F2, k2, b2, g2⟩ := C2.ex
  refine F.ok sc_nums (fun vs H Q E h => ?_) (fun cdv A outer s H vs Q E hr h => ?_)
  · obtain ⟨sp, brk, ys, rfl, _⟩ := h
    rfl
  · obtain ⟨sp, brk, ys, rfl, S, l6, nd, so, k⟩ := h
    have ndN := sc_nums.nd
    have hu := hu_of hr
    refine ⟨_, pss_cons (ps_set (i := 1) ndN rfl (.inl rfl) (pe_dispT hu (pe_tup pa_nil) pe_int))
      (pss_cons (ps_set (i := 2) ndN rfl (.inl rfl) (pe_lst (pa_cons (pe_tup pa_nil) pa_nil)))
      (pss_cons (ps_while PassesOwn.never (pt_truth (pv 2) (fun _ => rfl))
        (pss_cons (ps_set (i := 3) ndN rfl (.inl rfl) (pe_lst pa_nil))
        (pss_cons (ps_for PassesOwn.never rfl (pi_list (pv 2)) (pg_name (i := 4) ndN rfl (.inr rfl))
          (pss_one (ps_for PassesOwn.never rfl (pi_list (pe_lc (own := [("lot", 6)]) (g := gName 6) (tt := tYes) (te := tCall (spJoined (K := K)) [] E0 (tCons (tVar 4) (tCons (tVar 6) tNil))) rfl ndN (pi_list (pe_dget hu (pv 0) (pv 4) (fun _ _ => rfl))) (blkOk_by (own := [("lot", 6)]) (N := nNums) (sc := defScope p_round_numbers) (by decide +kernel))
              (fun _ _ _ _ _ => pg_name (i := 6) ndN rfl (Or.inl rfl)) (fun _ _ _ _ _ => pts_nil) (fun _ _ _ _ _ => pe_call F2 hr rfl g2 k2 b2 .nil pass0 (pa_cons (pv 4) (pa_cons (pv 6) pa_nil))))) (pg_name (i := 5) ndN rfl (.inl rfl))
            (pss_one (ps_if (pt_cmp (pc_dnotin hu (pv 5) (pv 1)) rfl)
              (pss_cons (ps_dput hu (pv 1) (pv 5) (pe_op op_add (pe_dget hu (pv 1) (pv 4) (fun _ _ => rfl)) pe_int) rfl)
              (pss_one (ps_expr (pe_bm PySem.F.plainAttrs_list PySem.F.slot_list_append PySem.F.type_list_append mt_append (pv 3) (pa_cons (pv 5) pa_nil))))) pss_nil)))))
        (pss_one (ps_set (i := 2) ndN rfl (.inl rfl) (pv 3))))))
      (pss_one (ps_ret (pv 1))))), ?_⟩
    -- found = {(): 0}
    refine fun fo hfo => ⟨by show 0 ≤ sizeLine; decide, fun e0 he0 => ?_⟩
    have ne0 : e0 ≠ fo := fun e => by rw [e, upd_same] at he0; cases he0
    refine ⟨by rw [upd_ne ne0.symm]; exact upd_same, e0, [], rfl, upd_same, ?_⟩
    have x1 : Evl.Ex H (upd (upd (upd H fo (.dT [])) e0 (.tup [])) fo (.dT [([], .int 0)])) := ((Evl.Ex.new hfo).trans (Evl.Ex.new he0)).mut hfo
    have f1 : (upd (upd (upd H fo (.dT [])) e0 (.tup [])) fo (.dT [([], .int 0)])) fo = some (.dT (kI [([], 0)])) := upd_same
    generalize upd (upd (upd H fo (.dT [])) e0 (.tup [])) fo (.dT [([], .int 0)]) = H1 at x1 f1
    -- newest = [()]
    refine ⟨by show 0 ≤ sizeLine; decide, fun e1 he1 => ⟨by show 1 ≤ sizeLine; decide, fun w0 hw0 => ?_⟩⟩
    have y1 : Evl.Ex H1 (upd (upd H1 e1 (.tup [])) w0 (.lst [.ref e1])) := (Evl.Ex.new he1).trans (Evl.Ex.new hw0)
    have w1 : (upd (upd H1 e1 (.tup [])) w0 (.lst [.ref e1])) w0 = some (.lst ([(e1, ([] : List Str))].map fun q => V.ref q.1)) := upd_same
    have t1 : RowsT (upd (upd H1 e1 (.tup [])) w0 (.lst [.ref e1])) [(e1, [])] := fun q hq => by
      rw [List.mem_singleton.mp hq, upd_ne (ne_of_none (upd_same (H := H1) (a := e1) (o := .tup [])) hw0)]
      exact upd_same
    generalize upd (upd H1 e1 (.tup [])) w0 (.lst [.ref e1]) = H2 at y1 w1 t1
    have f2 := y1 _ _ f1
    -- while newest
    refine ⟨fun μ σ H' => ∃ (n : Nat) (wa : Addr) (W : List (Addr × List Str)) (N : List (List Str × Nat)) (x3 x4 x5 : Option V), σ = [some (.ref sp), some (.ref fo), some (.ref wa), x3, x4, x5, none] ∧ Evl.Ex H H' ∧ H' fo = some (.dT (kI N)) ∧ H' wa = some (.lst (W.map fun q => V.ref q.1)) ∧ RowsT H' W ∧
      Upto brk ys n N ∧ (∀ d, d ∈ W.map (·.2) ↔ Few brk ys n d) ∧ W.length ≤ 64 ∧ μ = 2 * (64 - N.length) + (if W = [] then 0 else 1),
      ⟨_, 0, w0, [(e1, [])], [([], 0)], none, none, none, rfl, x1.trans y1, f2, w1, t1, ⟨rfl, by simp, fun d k => ?_⟩, fun d => ?_, by show 1 ≤ 64; omega, rfl⟩, ?_⟩
    · rw [List.mem_singleton]
      constructor
      · intro e
        cases e
        exact ⟨few_zero.mpr rfl, Nat.le_refl _⟩
      · rintro ⟨h1, h2⟩
        have : k = 0 := by omega
        subst this
        rw [few_zero.mp h1]
    · rw [few_zero]
      show d ∈ [[]] ↔ _
      exact List.mem_singleton
    · rintro μ σ H3 ⟨n, wa, W, N, x3, x4, x5, rfl, x03, f3, w3, t3, U, mW, W64, rfl⟩
      refine ⟨.ref wa, rfl, !(W.map fun q => V.ref q.1).isEmpty, .inl ⟨_, Evl.sq_of w3, rfl⟩, ?_⟩
      have eb : (!(W.map fun q => V.ref q.1).isEmpty) = !W.isEmpty := by rw [List.isEmpty_map]
      rw [eb]
      cases hW : W with
      | nil =>
        show if false = true then _ else _
        refine iteF ⟨.ref fo, rfl, k fo H3 N x03 hfo f3 (U.done fun d q => ?_) (U.len l6)⟩
        have := (mW d).mpr q
        rw [hW] at this
        cases this
      | cons q0 W' =>
        show if true = true then _ else _
        rw [← hW]
        have Wne : W ≠ [] := by rw [hW]; exact List.cons_ne_nil _ _
        refine iteT ⟨fun σ' H' => ∃ (wa' : Addr) (W2 : List (Addr × List Str)) (N2 : List (List Str × Nat)) (x3 x4 x5 : Option V), σ' = [some (.ref sp), some (.ref fo), some (.ref wa'), x3, x4, x5, none] ∧ Evl.Ex H H' ∧ H' fo = some (.dT (kI N2)) ∧ H' wa' = some (.lst (W2.map fun q => V.ref q.1)) ∧ RowsT H' W2 ∧
          Upto brk ys (n + 1) N2 ∧ (∀ d, d ∈ W2.map (·.2) ↔ Few brk ys (n + 1) d) ∧ W2.length ≤ 64 ∧ N2.length = N.length + W2.length, ?_, ?_⟩
        · rintro σ' H' ⟨wa', W2, N2, x3, x4, x5, rfl, a1, a2, a3, a4, a5, a6, a7, a8⟩
          refine ⟨_, ?_, n + 1, wa', W2, N2, x3, x4, x5, rfl, a1, a2, a3, a4, a5, a6, a7, rfl⟩
          have h64 := a5.len l6
          rw [if_neg Wne]
          cases W2 with
          | nil =>
            rw [if_pos rfl]
            rw [List.length_nil] at a8
            omega
          | cons u W2 =>
            rw [if_neg (List.cons_ne_nil _ _)]
            rw [List.length_cons] at a8
            omega
        -- later = []
        refine ⟨by show 0 ≤ sizeLine; decide, fun la hla => ?_⟩
        have y3 : Evl.Ex H3 (upd H3 la (.lst [])) := Evl.Ex.new hla
        have l3 : (upd H3 la (.lst [])) la = some (.lst (([] : List (Addr × List Str)).map fun q => V.ref q.1)) := upd_same
        have hlaH : H la = none := ex_none x03 hla
        have nlf : la ≠ fo := fun e => by rw [e, f3] at hla; cases hla
        have nlw : la ≠ wa := fun e => by rw [e, w3] at hla; cases hla
        generalize upd H3 la (.lst []) = H4 at y3 l3
        have w4 := y3 _ _ w3
        -- what stays through the level
        refine ⟨.ref wa, rfl, wa, rfl, ⟨_, Evl.sq_of w4⟩, for_list (K := K) (a := wa) (xs := W.map fun q => V.ref q.1)
          (fun i σ H' => (∃ x4 x5 : Option V, σ = [some (.ref sp), some (.ref fo), some (.ref wa), some (.ref la), x4, x5, none]) ∧ Evl.Ex H H' ∧ H' wa = some (.lst (W.map fun q => V.ref q.1)) ∧ RowsT H' W ∧ ∃ V2 : List (Addr × List Str), H' fo = some (.dT (kI (N ++ (V2.map (·.2)).map fun b => (b, n + 1)))) ∧ H' la = some (.lst (V2.map fun q => V.ref q.1)) ∧ RowsT H' V2 ∧ Lvl brk ys n N (V2.map (·.2)) ∧ V2.length ≤ 64 ∧
            ∀ d ∈ (W.take i).map (·.2), ∀ p ∈ safeS brk ys d, mixS ys d p ∈ N.map (·.1) ∨ mixS ys d p ∈ V2.map (·.2))
          ⟨⟨_, _, rfl⟩, x03.trans y3, w4, t3.to y3, [], by rw [List.map_nil, List.map_nil, List.append_nil]; exact y3 _ _ f3, l3, (fun q hq => nomatch hq), ⟨List.nodup_nil, fun b hb => nomatch hb⟩, Nat.zero_le _, fun d hd => nomatch hd⟩ (fun i σ H' _ h => Evl.sq_of h.2.2.1) ?_ ?_⟩
        · rintro i v σ H5 hi ⟨⟨x4, x5, rfl⟩, x05, w5, t5, V2, f5, l5, tV5, lv, V64, all⟩
          obtain ⟨q, hq, rfl⟩ := rowsT_at hi
          have mq := List.mem_of_getElem? hq
          have ei : W.take (i + 1) = W.take i ++ [q] := by rw [List.take_add_one, hq]; rfl
          have fq : Few brk ys n q.2 := (mW q.2).mp (List.mem_map_of_mem mq)
          have qsub := fq.1.sub
          obtain ⟨T, sa, L, s1, s2, s3, s4, s5⟩ := (S.to x05).get nd qsub
          have tq := t5 q mq
          have Ll : L.length ≤ 64 := by
            have := congrArg List.length s5
            rw [List.length_map] at this
            rw [this]
            exact safeS_len l6
          -- [joined(done, lot) for lot in safe[done]]
          refine ⟨.ref sp, rfl, .ref q.1, rfl, sp, .ref sa, rfl, .inr ⟨kT T, q.2.map Sum.inr, q.1, .inl s1, rfl, by rw [keyS]; exact tq, s2.symm⟩, sa, rfl, ⟨_, Evl.sq_of s3⟩, fun R hR => lc_list (K := K) (a := sa) (xs := L.map fun q => V.ref q.1)
            (fun j H' => Evl.Ex H5 H' ∧ ∃ M : List (Addr × List Str), H' R = some (.lst (M.map fun q => V.ref q.1)) ∧ RowsT H' M ∧ M.map (·.2) = (L.take j).map fun r => mixS ys q.2 r.2) ⟨Evl.Ex.new hR, [], upd_same, (fun q hq => nomatch hq), rfl⟩ (fun j H' _ h => Evl.sq_of (h.1 _ _ s3)) ?_ ?_⟩
          · rintro j u H6 hj ⟨x6, M, r6, tM, eM⟩
            obtain ⟨r, hr', rfl⟩ := rowsT_at hj
            have mr := List.mem_of_getElem? hr'
            have rS : r.2 ∈ safeS brk ys q.2 := by rw [← s5]; exact List.mem_map_of_mem mr
            obtain ⟨rs, rd⟩ := rest_lot (safeS_mem.mp rS).1
            have rl : r.2.length ≤ 6 := Nat.le_trans rs.length_le l6
            have ql : q.2.length ≤ 6 := Nat.le_trans qsub.length_le l6
            have Ml : M.length ≤ 64 := by
              have := congrArg List.length eM
              rw [List.length_map, List.length_map, List.length_take] at this
              omega
            refine ⟨rfl, yes_if ⟨.ref q.1, rfl, .ref r.1, rfl, q.1, r.1, q.2, r.2, rfl, Evl.st_of (x6 _ _ tq), Evl.st_of (x6 _ _ (s4 r mr)), by omega, fun jp H7 js x7 _ tj pj sj => ?_⟩⟩
            have ejs : js = mixS ys q.2 r.2 := mixS_is so nd qsub rs rd pj sj
            subst ejs
            have r7 := x7 _ _ r6
            refine ⟨_, r7, by rw [List.length_map]; exact small1000 (by omega), (x6.trans x7).mut hR, M ++ [(jp, mixS ys q.2 r.2)], ?_, ?_, ?_⟩
            · rw [upd_same, List.map_append]
              rfl
            · refine RowsT.mut (RowsT.app (tM.to x7) fun q' hq' => ?_) r7
              rw [List.mem_singleton.mp hq']
              exact tj
            · rw [List.map_append, eM, List.take_add_one, hr', List.map_append]
              rfl
          rintro H6 ⟨x6, M, r6, tM, eM⟩
          rw [List.length_map, List.take_length] at eM
          have eM2 : M.map (·.2) = (safeS brk ys q.2).map (mixS ys q.2) := by rw [eM, ← s5, List.map_map]; rfl
          have Ml : M.length ≤ 64 := by
            have := congrArg List.length eM
            rw [List.length_map, List.length_map] at this
            omega
          have nRl : R ≠ la := fun e => by rw [e, l5] at hR; cases hR
          have nRf : R ≠ fo := fun e => by rw [e, f5] at hR; cases hR
          have nwl : wa ≠ la := nlw.symm
          have nwf : wa ≠ fo := ne_of w5 f5 (by intro z; cases z)
          have mid : ∀ r ∈ M.map (·.2), Rch brk ys (n + 1) r := fun r hr' => by
            rw [eM2] at hr'
            obtain ⟨p, hp, rfl⟩ := List.mem_map.mp hr'
            exact fq.1.step hp
          refine ⟨R, rfl, ⟨_, Evl.sq_of r6⟩, for_list (K := K) (a := R) (xs := M.map fun q => V.ref q.1)
            (fun j σ H' => (∃ x5 : Option V, σ = [some (.ref sp), some (.ref fo), some (.ref wa), some (.ref la), some (.ref q.1), x5, none]) ∧ Evl.Ex H H' ∧ H' wa = some (.lst (W.map fun q => V.ref q.1)) ∧ RowsT H' W ∧ H' R = some (.lst (M.map fun q => V.ref q.1)) ∧ RowsT H' M ∧ ∃ V3 : List (Addr × List Str), H' fo = some (.dT (kI (N ++ (V3.map (·.2)).map fun b => (b, n + 1)))) ∧ H' la = some (.lst (V3.map fun q => V.ref q.1)) ∧ RowsT H' V3 ∧ Lvl brk ys n N (V3.map (·.2)) ∧ V3.length ≤ 64 ∧
              (∀ d ∈ (W.take i).map (·.2), ∀ p ∈ safeS brk ys d, mixS ys d p ∈ N.map (·.1) ∨ mixS ys d p ∈ V3.map (·.2)) ∧ ∀ b ∈ (M.take j).map (·.2), b ∈ N.map (·.1) ∨ b ∈ V3.map (·.2))
            ⟨⟨_, rfl⟩, x05.trans x6, x6 _ _ w5, t5.to x6, r6, tM, V2, x6 _ _ f5, x6 _ _ l5, tV5.to x6, lv, V64, all, fun b hb => nomatch hb⟩ (fun j σ H' _ h => Evl.sq_of h.2.2.2.2.1) ?_ ?_⟩
          · rintro j u σ H7 hj ⟨⟨x5, rfl⟩, x07, w7, t7, r7, tM7, V3, f7, l7, tV7, lv3, V364, all3, alj⟩
            obtain ⟨r, hr', rfl⟩ := rowsT_at hj
            have mr := List.mem_of_getElem? hr'
            have ej : M.take (j + 1) = M.take j ++ [r] := by rw [List.take_add_one, hr']; rfl
            have tr := tM7 r mr
            have ndN3 := lv3.nodup U
            refine ⟨.ref r.1, rfl, .ref fo, rfl, fo, _, rfl, .inr ⟨_, r.2.map Sum.inr, r.1, .inl f7, rfl, by rw [keyS]; exact tr, rfl⟩, _, rfl, ?_⟩
            rw [kI_has ndN3, lvl_keys]
            by_cases m : r.2 ∈ N.map (·.1) ++ V3.map (·.2)
            · rw [decide_eq_true m]
              refine iteF ⟨⟨_, rfl⟩, x07, w7, t7, r7, tM7, V3, f7, l7, tV7, lv3, V364, all3, fun b hb => ?_⟩
              rw [ej, List.map_append] at hb
              rcases List.mem_append.mp hb with hb | hb
              · exact alj b hb
              · rw [List.mem_singleton.mp hb]
                exact List.mem_append.mp m
            · rw [decide_eq_false m]
              have mqN : (q.2, n) ∈ N ++ (V3.map (·.2)).map fun b => (b, n + 1) := List.mem_append_left _ ((U.iff _ _).mpr ⟨fq, Nat.le_refl _⟩)
              have gq := kI_get ndN3 mqN
              have lv4 : Lvl brk ys n N ((V3 ++ [r]).map (·.2)) := by
                rw [List.map_append]
                refine ⟨?_, fun b hb => ?_⟩
                · rw [List.nodup_append]
                  exact ⟨lv3.nd, by simp, fun a ha b hb e => m (List.mem_append_right _ (by rw [List.mem_singleton.mp hb] at e; exact (show a = r.2 from e) ▸ ha))⟩
                · rcases List.mem_append.mp hb with hb | hb
                  · exact lv3.new b hb
                  · rw [List.mem_singleton.mp hb]
                    exact ⟨mid r.2 (List.mem_map_of_mem mr), fun h => m (List.mem_append_left _ h)⟩
              have V4l : (V3 ++ [r]).length ≤ 64 := by
                have h1 := nodup_le _ (partsS ys) lv4.nd fun b hb => partsS_has (lv4.few U hb).1.sub
                rw [List.length_map] at h1
                exact Nat.le_trans h1 (partsS_len l6)
              have few : (N ++ (V3.map (·.2)).map fun b => (b, n + 1)).length ≤ 128 := by
                rw [List.length_append, List.length_map, List.length_map]
                have := U.len l6
                omega
              refine iteT ⟨.ref fo, rfl, .ref q.1, rfl, fo, .int (n : Int), rfl, .inr ⟨_, q.2.map Sum.inr, q.1, .inl f7, rfl, by rw [keyS]; exact t7 q mq, gq.symm⟩, _, _, rfl, rfl, .ref fo, rfl, .ref r.1, rfl, fo, _, rfl, DPut.t (k := r.2.map Sum.inr) (v := .int ((n + 1 : Nat) : Int)) f7 (by rw [keyS]; exact tr) (by rw [kI_len]; exact small1000 (by omega)), ?_⟩
              rw [kI_new (by rw [lvl_keys]; exact m)]
              have x08 : Evl.Ex H (upd H7 fo (.dT (kI ((N ++ (V3.map (·.2)).map fun b => (b, n + 1)) ++ [(r.2, n + 1)])))) := x07.mut hfo
              have kp : ∀ {u : Addr} {xs : List V}, H7 u = some (.lst xs) → (upd H7 fo (.dT (kI ((N ++ (V3.map (·.2)).map fun b => (b, n + 1)) ++ [(r.2, n + 1)])))) u = some (.lst xs) := fun {u xs} h => by rw [upd_ne (ne_of h f7 (by intro z; cases z))]; exact h
              have kt : ∀ {L : List (Addr × List Str)}, RowsT H7 L → RowsT (upd H7 fo (.dT (kI ((N ++ (V3.map (·.2)).map fun b => (b, n + 1)) ++ [(r.2, n + 1)])))) L := fun {L} h q hq => by rw [upd_ne (ne_of (h q hq) f7 (by intro z; cases z))]; exact h q hq
              have f8 : (upd H7 fo (.dT (kI ((N ++ (V3.map (·.2)).map fun b => (b, n + 1)) ++ [(r.2, n + 1)])))) fo = some (.dT (kI ((N ++ (V3.map (·.2)).map fun b => (b, n + 1)) ++ [(r.2, n + 1)]))) := upd_same
              have l8 := kp l7
              have w8 := kp w7
              have r8 := kp r7
              have t8 := kt t7
              have tM8 := kt tM7
              have tV8 := kt tV7
              generalize upd H7 fo (.dT (kI ((N ++ (V3.map (·.2)).map fun b => (b, n + 1)) ++ [(r.2, n + 1)]))) = H8 at x08 f8 l8 w8 r8 t8 tM8 tV8
              refine ⟨.ref la, rfl, .inl ⟨rfl, _, Evl.sq_of l8⟩, .ref r.1, rfl, la, _, _, rfl, rfl, l8, by rw [List.length_map]; exact small1000 (by omega), ⟨_, rfl⟩, x08.mut hlaH, by rw [upd_ne nwl]; exact w8, t8.mut l8, by rw [upd_ne nRl]; exact r8, tM8.mut l8, V3 ++ [r], ?_, ?_, ?_, lv4, V4l, fun d hd p hp => ?_, fun b hb => ?_⟩
              · rw [upd_ne nlf.symm, f8, List.map_append, List.map_append, List.append_assoc]
                rfl
              · rw [upd_same, List.map_append]
                rfl
              · refine RowsT.mut (RowsT.app tV8 fun q' hq' => ?_) l8
                rw [List.mem_singleton.mp hq']
                exact tM8 r mr
              · rw [List.map_append]
                exact (all3 d hd p hp).imp id fun h => List.mem_append_left _ h
              · rw [ej, List.map_append] at hb
                rw [List.map_append]
                rcases List.mem_append.mp hb with hb | hb
                · exact (alj b hb).imp id fun h => List.mem_append_left _ h
                · exact .inr (List.mem_append_right _ hb)
          · rintro σ H7 ⟨⟨x5, rfl⟩, x07, w7, t7, r7, tM7, V3, f7, l7, tV7, lv3, V364, all3, alj⟩
            rw [List.length_map, List.take_length] at alj
            refine ⟨⟨_, _, rfl⟩, x07, w7, t7, V3, f7, l7, tV7, lv3, V364, fun d hd p hp => ?_⟩
            rw [ei, List.map_append] at hd
            rcases List.mem_append.mp hd with hd | hd
            · exact all3 d hd p hp
            · rw [List.mem_singleton.mp hd] at hp ⊢
              exact alj _ (by rw [eM2]; exact List.mem_map_of_mem hp)
        · rintro σ H5 ⟨⟨x4, x5, rfl⟩, x05, w5, t5, V2, f5, l5, tV5, lv, V64, all⟩
          rw [List.length_map, List.take_length] at all
          obtain ⟨U2, iff2⟩ := lv.next U fun d hd p hp => all d ((mW d).mpr hd) p hp
          exact ⟨.ref la, rfl, la, V2, _, _, _, _, rfl, x05, f5, l5, tV5, U2, iff2, V64, by rw [List.length_append, List.length_map, List.length_map]⟩
end
end Rw
end T_U4

section T_U5
set_option Elab.async false
set_option linter.all false
set_option maxRecDepth 100000
set_option maxHeartbeats 16000000
namespace Rw
open PySem L2 PyProof.Rows LamX
/-! ### plans, counted -/
/-- the truth of a variable's value -/
def tTru (K : PySem.W.Frag) (i : Nat) : TT := fun σ H Q => tVar i σ H fun x H' => ∃ k, TruV K x H' k ∧ Q k H'
def natI (l : List Nat) : List Int := l.map fun m : Nat => (m : Int)
theorem natI_sum (l : List Nat) : (natI l).sum = (l.sum : Int) := by
  unfold natI
  induction l with
  | nil => rfl
  | cons m l ih =>
    rw [List.map_cons, List.sum_cons, List.sum_cons, ih]
    omega
def cnt (brk : List Str → Bool) (ys : List Str) : Nat → List Str → Nat
  | 0, d => if d = ys then (safeS brk ys d).length else 0
  | k + 1, d => (((safeS brk ys d).filter fun p => !p.isEmpty).map fun p => cnt brk ys k (mixS ys d p)).sum
/-- the dict of the counts at one level -/
def cntT (brk : List Str → Bool) (ys : List Str) (k : Nat) (l : List (List Str)) : List (List Str × Nat) := l.map fun d => (d, cnt brk ys k d)
theorem cntT_keys (brk : List Str → Bool) (ys : List Str) (k : Nat) (l : List (List Str)) : (cntT brk ys k l).map (·.1) = l := by
  unfold cntT
  rw [List.map_map]
  exact List.map_id' l
theorem cntT_get {brk : List Str → Bool} {ys d : List Str} {k : Nat} (nd : ys.Nodup) (hd : d.Sublist ys) : valV (kI (cntT brk ys k (partsS ys).reverse)) (d.map Sum.inr) = some (.int (cnt brk ys k d : Int)) :=
  kI_get (t := (d, cnt brk ys k d)) (by rw [cntT_keys]; exact List.pairwise_reverse.mpr ((partsS_nodup nd).imp fun h => h.symm)) (List.mem_map.mpr ⟨d, List.mem_reverse.mpr (partsS_has hd), rfl⟩)
/-- a list of such dicts, levels 0 .. k -/
structure CountsD (H : Hp) (c : Addr) (brk : List Str → Bool) (ys : List Str) (Cs : List Addr) : Prop where
  hc : H c = some (.lst (Cs.map V.ref))
  at_ : ∀ j a, Cs[j]? = some a → H a = some (.dT (kI (cntT brk ys j (partsS ys).reverse)))
theorem CountsD.to {H H' : Hp} {c : Addr} {brk : List Str → Bool} {ys : List Str} {Cs : List Addr} (h : CountsD H c brk ys Cs) (x : Evl.Ex H H') : CountsD H' c brk ys Cs := ⟨x _ _ h.hc, fun j a e => x _ _ (h.at_ j a e)⟩
section
variable {P : Program} {w : World} {K : PySem.W.Frag} {mg : Str → Option Value} {base : Heap}
/-! ### rounds_needed -/
def spNeeded : Sp := fun vs H Q _ => ∃ (a sp : Addr) (brk : List Str → Bool) (ys : List Str), vs = [.ref a, .ref sp] ∧ H a = some (.tup (ys.map V.str)) ∧ SafeD H sp brk ys ∧ ys.length ≤ 6 ∧ ys.Nodup ∧ sortedS ys = true ∧
  ∀ (H' : Hp) (v : V), Evl.Ex H H' → (v = .non ∧ (safeS brk ys ys = [] ∨ ∀ k, ¬ Few brk ys k ys) ∨ ∃ k : Nat, v = .int (k : Int) ∧ Few brk ys k ys ∧ safeS brk ys ys ≠ [] ∧ k ≤ 64) → Q v H'
theorem sc_needed : FnScope ["changing", "safe"] ["changing", "safe"] (defScope p_rounds_needed) := ⟨rfl, rfl, rfl, by decide +kernel, rfl, by decide +kernel, by decide +kernel⟩
theorem few_le {brk : List Str → Bool} {ys : List Str} {N : List (List Str × Nat)} (h : NumsOk brk ys N) (l64 : N.length ≤ 64) {k : Nat} {d : List Str} (q : Few brk ys k d) : k ≤ 64 := by
  have all : ∀ m, m ≤ k → ∃ d', (d', m) ∈ N := fun m hm => by
    obtain ⟨d', h1⟩ := few_all (n := m) (k - m) (d := d) (by rw [show m + (k - m) = k by omega]; exact q)
    exact ⟨d', (h.iff d' m).mpr h1⟩
  have h1 := nodup_le (List.range (k + 1)) (N.map (·.2)) List.nodup_range fun m hm => by
    obtain ⟨d', h2⟩ := all m (by have := List.mem_range.mp hm; omega)
    exact List.mem_map.mpr ⟨(d', m), h2, rfl⟩
  rw [List.length_range, List.length_map] at h1
  omega
theorem ok_needed {f : Addr} {fd : FuncData} (F : Fun K "rounds_needed" "rounds_needed" p_rounds_needed f fd) (C1 : Cal P w K mg base 2 "round_numbers" ["safe"] spNums) : FnOk P w K mg base CX0 3 f fd ["changing", "safe"] spNeeded := by
  obtain ⟨f1, fd1, F1, k1, b1, g1⟩ := C1.ex
  refine F.ok sc_needed (fun vs H Q E h => ?_) (fun cdv A outer s H vs Q E hr h => ?_)
  · obtain ⟨a, sp, brk, ys, rfl, _⟩ := h
    rfl
  · obtain ⟨a, sp, brk, ys, rfl, ha, S, l6, nd, so, k⟩ := h
    have ndN := sc_needed.nd
    have hu := hu_of hr
    refine ⟨_, pss_one (ps_ret (pe_ifExp (pt_truth (pe_dget hu (pv 1) (pv 0) (fun _ _ => rfl)) (fun _ => rfl)) (pe_dget1 hu (pe_call F1 hr rfl g1 k1 b1 .nil pass0 (pa_cons (pv 1) pa_nil)) (pv 0) ⟨rfl, rfl, rfl, rfl⟩) pe_non)), ?_⟩
    obtain ⟨T, sa, L, s1, s2, s3, s4, s5⟩ := S.get nd (List.Sublist.refl ys)
    refine ⟨.ref sp, rfl, .ref a, rfl, sp, .ref sa, rfl, .inr ⟨kT T, ys.map Sum.inr, a, .inl s1, rfl, by rw [keyS]; exact ha, s2.symm⟩, !(L.map fun q => V.ref q.1).isEmpty, .inl ⟨_, Evl.sq_of s3, rfl⟩, ?_⟩
    have eb : (!(L.map fun q => V.ref q.1).isEmpty) = !(safeS brk ys ys).isEmpty := by rw [← s5, List.isEmpty_map, List.isEmpty_map]
    rw [eb]
    cases hS : safeS brk ys ys with
    | nil =>
      show if false = true then _ else _
      exact iteF (k H .non (Evl.Ex.refl H) (.inl ⟨rfl, .inl hS⟩))
    | cons r rs =>
      show if true = true then _ else _
      have ne : safeS brk ys ys ≠ [] := by rw [hS]; exact List.cons_ne_nil _ _
      refine iteT ⟨.ref sp, rfl, sp, brk, ys, rfl, S, l6, nd, so, fun D H1 N x1 hD d1 ok n64 => ?_⟩
      refine ⟨D, rfl, .inr ⟨_, .inl d1⟩, .ref a, rfl, _, .inr ⟨_, ys.map Sum.inr, a, .inl d1, rfl, by rw [keyS]; exact x1 _ _ ha, rfl⟩, ?_⟩
      by_cases m : ys ∈ N.map (·.1)
      · obtain ⟨t, ht, e⟩ := List.mem_map.mp m
        have g := kI_get ok.nd ht
        rw [e] at g
        rw [g]
        have q : Few brk ys t.2 ys := by
          have := (ok.iff t.1 t.2).mp ht
          rwa [e] at this
        exact k H1 _ x1 (.inr ⟨t.2, rfl, q, ne, few_le ok n64 q⟩)
      · rw [kI_none m]
        exact k H1 _ x1 (.inl ⟨rfl, .inr fun j q => m (List.mem_map.mpr ⟨(ys, j), (ok.iff ys j).mpr q, rfl⟩)⟩)
/-! ### plan_counts -/
def spCounts : Sp := fun vs H Q _ => ∃ (a sp : Addr) (k : Nat) (brk : List Str → Bool) (ys : List Str), vs = [.ref a, .ref sp, .int (k : Int)] ∧ H a = some (.tup (ys.map V.str)) ∧ SafeD H sp brk ys ∧ ys.length ≤ 6 ∧ ys.Nodup ∧ sortedS ys = true ∧ (∀ z ∈ ys, Nm z) ∧ k ≤ 64 ∧
  ∀ (c : Addr) (H' : Hp) (Cs : List Addr), Evl.Ex H H' → H c = none → CountsD H' c brk ys Cs → Cs.length = k + 1 → Q (.ref c) H'
abbrev nCounts : List Str := ["changing", "safe", "many", "counts", "at", "fewer", "done", "lot"]
abbrev scCo : Scope := { kind := .function, names := [(".0", .local), ("done", .cell), ("sum", .globalImplicit), ("fewer", .cell), ("safe", .cell)], isGenerator := false, isCoroutine := false }
theorem sc_counts : FnScope nCounts ["changing", "safe", "many"] (defScope p_plan_counts) := ⟨rfl, rfl, rfl, by decide +kernel, rfl, by decide +kernel, by decide +kernel⟩
theorem ok_counts {f : Addr} {fd : FuncData} (F : Fun K "plan_counts" "plan_counts" p_plan_counts f fd) (C2 : Cal P w K mg base 1 "joined" ["lot", "other"] (spJoined (K := K))) (mLen : mg "len" = none) (mSum : mg "sum" = none) (mRange : mg "range" = none) : FnOk P w K mg base CX0 2 f fd ["changing", "safe", "many"] spCounts := by
  obtain ⟨f2, fd2, F2, k2, b2, g2⟩ := C2.ex
  refine F.ok sc_counts (fun vs H Q E h => ?_) (fun cdv A outer s H vs Q E hr h => ?_)
  · obtain ⟨a, sp, kk, brk, ys, rfl, _⟩ := h
    rfl
  · obtain ⟨a, sp, kk, brk, ys, rfl, ha, S, l6, nd, so, nm, k64, k⟩ := h
    have ndN := sc_counts.nd
    have hu := hu_of hr
    refine ⟨_, pss_cons (ps_set (i := 3) ndN rfl (.inl rfl) (pe_lst (pa_cons (pe_lock (pe_dcT (own := [("done", 6)]) (g := gName 6) (tt := tYes) (tk := tVar 6)
          (tv := tIf (tTest (tOp (rEqD K) (tVar 6) (tVar 0))) (tCB (fun xs H Q => ∃ x n, xs = [x] ∧ LenV K x H n ∧ Q (.int n) H) (tCons (tDGet (tVar 1) (tVar 6)) tNil)) (tC (.int 0))) hu rfl ndN (pi_keys (pv 1)) (blkOk_by (own := [("done", 6)]) (N := nCounts) (sc := defScope p_plan_counts) (by decide +kernel))
          (fun _ _ _ _ _ => pg_name (i := 6) ndN rfl (Or.inl rfl)) (fun _ _ _ _ _ => pts_nil) (fun _ _ _ _ _ => pv 6)
          (fun _ _ _ _ _ => pe_ifExp (pt_cmpR (op_eqD hr.units) (pv 6) (pv 0) (nomark _)) (pe_callB call_len (by rfl) mLen PySem.boot_len (pa_cons (pe_dget hu (pv 1) (pv 6) (fun _ _ => rfl)) pa_nil)) pe_int))) pa_nil)))
      (pss_cons (ps_for PassesOwn.never rfl (pi_range1 (by rfl) mRange (pa_cons (pv 2) pa_nil)) (pg_name (i := 4) ndN rfl (.inl rfl))
        (pss_cons (ps_set (i := 5) ndN rfl (.inr rfl) (pe_ix ix_list (pv 3) (pv 4) (fun _ _ => rfl)))
        (pss_one (ps_expr (pe_bm PySem.F.plainAttrs_list PySem.F.slot_list_append PySem.F.type_list_append mt_append (pv 3) (pa_cons (pe_lock (pe_dcT (own := [("done", 6)]) (g := gName 6) (tt := tYes) (tk := tVar 6)
          (tv := tCB (rSum K) (tCons (tLc (iList K (tDGet (tVar 1) (tVar 6))) (gName 7) (tTru K 7) (tDGet (tVar 5) (tCall (spJoined (K := K)) [] E0 (tCons (tVar 6) (tCons (tVar 7) tNil)))) [7]) tNil)) hu rfl ndN (pi_keys (pv 1)) (blkOk_by (own := [("done", 6)]) (N := nCounts) (sc := defScope p_plan_counts) (by decide +kernel))
          (fun _ _ _ _ _ => pg_name (i := 6) ndN rfl (Or.inr rfl)) (fun _ _ _ _ _ => pts_nil) (fun _ _ _ _ _ => pv 6)
          (fun _ _ _ _ _ => pe_callB (cr_sum rfl) (by rfl) mSum (by decide +kernel) (pa_cons
            (pe_lc (own := [("lot", 7)]) (g := gName 7) (tt := tTru K 7) (te := tDGet (tVar 5) (tCall (spJoined (K := K)) [] E0 (tCons (tVar 6) (tCons (tVar 7) tNil)))) rfl ndN (pi_list (pe_dget hu (pv 1) (pv 6) (fun _ _ => rfl))) (by
              have q : ∀ {sc : Scope}, blkC nCounts scCo sc [("lot", 7)] = true → BlkOk nCounts scCo sc [("lot", 7)] := fun h => blkOk_by h
              refine q ?_
              decide +kernel)
              (fun _ _ _ _ _ => pg_name (i := 7) ndN rfl (Or.inl rfl)) (fun _ _ _ _ _ => pts_one (pt_truth (pv 7) (fun _ => rfl))) (fun _ _ _ _ _ => pe_dget hu (pv 5) (pe_call F2 hr rfl g2 k2 b2 .nil pass0 (pa_cons (pv 6) (pa_cons (pv 7) pa_nil))) (fun _ _ => rfl))) pa_nil)))) pa_nil))))))
      (pss_one (ps_ret (pv 3)))), ?_⟩
    obtain ⟨T, hsp, eT, sT⟩ := S
    have ndR : (partsS ys).reverse.Nodup := List.pairwise_reverse.mpr ((partsS_nodup nd).imp fun h => h.symm)
    have ndT : (T.map (·.1)).Nodup := by rw [eT]; exact ndR
    have Tl : T.length ≤ 64 := by
      have h1 := congrArg List.length eT
      rw [List.length_map, List.length_reverse] at h1
      rw [h1]
      exact partsS_len l6
    have Tsub : ∀ t ∈ T, t.1.Sublist ys := fun t ht => partsS_sub (List.mem_reverse.mp (by rw [← eT]; exact List.mem_map_of_mem ht))
    -- the walk over the dict of safe rounds, for any numbers
    have walked : ∀ {H1 : Hp} {tv : TE} {σ : L2.St} {Qd : V → Hp → Prop} {u : List Str → Nat}, H1 sp = some (.dT (kT T)) → σ[1]? = some (some (.ref sp)) → (wipe σ [6])[1]? = some (some (.ref sp)) → (∀ v : V, ((wipe σ [6]).set 6 (some v))[6]? = some (some v)) → (∀ v : V, wipe ((wipe σ [6]).set 6 (some v)) [6] = wipe σ [6]) →
        (∀ (HL H5 : Hp) (od : Obj) (t : List Str × Addr) (qa : Addr), Evl.Ex (woA sp H1) HL → HL sp = some (.frz od (.dT (kT T))) → Evl.Ex HL H5 → t ∈ T → H5 qa = some (.tup (t.1.map V.str)) →
          ∀ R : V → Hp → Prop, (∀ H6, Evl.Ex H5 H6 → R (.int (u t.1 : Int)) H6) → tv ((wipe σ [6]).set 6 (some (.ref qa))) H5 R) →
        (∀ (R : Addr) (H5 : Hp), Evl.Ex H1 H5 → H1 R = none → H5 R = some (.dT (kI (T.map fun t => (t.1, u t.1)))) → Qd (.ref R) H5) →
        tLockE (tDcT (iKeys (tVar 1)) (gName 6) tYes (tVar 6) tv [6]) σ H1 Qd := by
      intro H1 tv σ Qd u h1 hσ hσ1 hσ6 hwp hv hQ
      refine ⟨sp, .dT (kT T), h1, trivial, fun od => ?_⟩
      have locked : (upd H1 sp (.frz od (.dT (kT T)))) sp = some (.frz od (.dT (kT T))) := upd_same
      have bL : Evl.Ex (woA sp H1) (upd H1 sp (.frz od (.dT (kT T)))) := fun b o h => by
        have ne : b ≠ sp := fun e => by rw [e, woA_none] at h; cases h
        rw [upd_ne ne]
        exact woA_ex sp H1 _ _ h
      have back : ∀ {Hx : Hp}, Evl.Ex (upd H1 sp (.frz od (.dT (kT T)))) Hx → Evl.Ex H1 (upd Hx sp (.dT (kT T))) := fun {Hx} x b o h => by
        by_cases z : b = sp
        · subst z
          rw [upd_same, ← h1, h]
        · rw [upd_ne z]
          exact x _ _ (by rw [upd_ne z]; exact h)
      have fresh : ∀ {R : Addr}, (upd H1 sp (.frz od (.dT (kT T)))) R = none → H1 R = none ∧ R ≠ sp := fun {R} h => by
        have ne : R ≠ sp := fun z => by rw [z, upd_same] at h; cases h
        exact ⟨by rw [upd_ne ne] at h; exact h, ne⟩
      generalize upd H1 sp (.frz od (.dT (kT T))) = HL at locked bL back fresh
      refine ⟨.ref sp, hσ, sp, od, rfl, .inr ⟨kT T, locked, fun R hR => dcT_it walk_keysT
        (fun i H' => Evl.Ex HL H' ∧ H' R = some (.dT (kI ((T.take i).map fun t => (t.1, u t.1))))) ⟨Evl.Ex.new hR, upd_same⟩ (fun i H' _ h => h.1 _ _ locked) ?_ ?_⟩⟩
      · rintro i x H5 H5' hi ⟨x5, r5⟩ ⟨rfl, kk, v, qa, hkv, rfl, hqa⟩
        rw [kT_len] at hi
        obtain ⟨t, ht, ekk⟩ : ∃ t, T[i]? = some t ∧ kk = t.1.map Sum.inr := by
          unfold kT at hkv
          rw [List.getElem?_map] at hkv
          cases z : T[i]? with
          | none => rw [z] at hkv; cases hkv
          | some t =>
            rw [z] at hkv
            exact ⟨t, rfl, (congrArg Prod.fst (Option.some.inj hkv)).symm⟩
        subst ekk
        rw [keyS] at hqa
        have mt := List.mem_of_getElem? ht
        have ei : T.take (i + 1) = T.take i ++ [t] := by rw [List.take_add_one, ht]; rfl
        refine ⟨hwp _, yes_if ⟨.ref qa, hσ6 _, hv HL H5' od t qa bL locked x5 mt hqa _ fun H6 x6 => ?_⟩⟩
        have r6 := x6 _ _ r5
        have new : t.1 ∉ ((T.take i).map fun t => (t.1, u t.1)).map (·.1) := fun m => by
          rw [List.map_map] at m
          have m' : t.1 ∈ (T.take i).map (·.1) := m
          have h1 : ((T.take (i + 1)).map (·.1)).Nodup := ndT.sublist ((List.take_sublist _ _).map _)
          rw [ei, List.map_append] at h1
          exact (List.nodup_append.mp h1).2.2 _ m' _ (List.mem_singleton.mpr rfl) rfl
        refine ⟨_, t.1.map Sum.inr, qa, rfl, by rw [keyS]; exact x6 _ _ hqa, r6, by rw [kI_len, List.length_map, List.length_take]; exact small1000 (by omega), (x5.trans x6).mut hR, ?_⟩
        rw [upd_same, kI_new new, ei, List.map_append]
        rfl
      · rintro H5 ⟨x5, r5⟩
        rw [kT_len, List.take_length] at r5
        obtain ⟨n1, n2⟩ := fresh hR
        exact ⟨x5 _ _ locked, hQ R _ (back x5) n1 (by rw [upd_ne n2]; exact r5)⟩
    have Tmap : ∀ u : List Str → Nat, (T.map fun t => (t.1, u t.1)) = (partsS ys).reverse.map fun d => (d, u d) := fun u => by
      rw [← eT, List.map_map]
      rfl
    -- counts = [{..}]
    refine walked (u := cnt brk ys 0) hsp rfl rfl (fun _ => rfl) (fun _ => rfl) (fun HL H5 od t qa bL lk x5 mt hqa R hR => ?_) fun R H1 x1 hR d1 => ?_
    · have tsub := Tsub t mt
      obtain ⟨L, g1, g2, g3⟩ := sT t mt
      have nsp : t.2 ≠ sp := ne_of g1 hsp (by intro z; cases z)
      have g5 := x5 _ _ (bL _ _ (woA_some g1 nsp))
      have ha5 := x5 _ _ (bL _ _ (woA_some ha (ne_of ha hsp (by intro z; cases z))))
      refine ⟨.ref qa, rfl, .ref a, rfl, .tuple (t.1.map PyData.str), .tuple (ys.map PyData.str), dp_row hqa, dp_row ha5, row_shaped fun z hz => nm z (tsub.subset hz), row_shaped nm, _, rfl, ?_⟩
      have ev : PyData.eqv (.tuple (t.1.map PyData.str)) (.tuple (ys.map PyData.str)) = decide (t.1 = ys) := eqvAll_strs _ _
      rw [ev]
      by_cases e : t.1 = ys
      · rw [decide_eq_true e]
        refine iteT ⟨.ref sp, rfl, .ref qa, rfl, sp, .ref t.2, rfl, .inr ⟨kT T, t.1.map Sum.inr, qa, .inr ⟨od, x5 _ _ lk⟩, rfl, by rw [keyS]; exact hqa, (kT_get ndT mt).symm⟩, .ref t.2, L.length, rfl, .inl ⟨_, Evl.sq_of g5, by rw [List.length_map]⟩, ?_⟩
        have ec : cnt brk ys 0 t.1 = L.length := by
          show (if _ then _ else _) = _
          rw [if_pos e, ← g3, List.length_map]
        have := hR H5 (Evl.Ex.refl _)
        rw [ec] at this
        exact this
      · rw [decide_eq_false e]
        have ec : cnt brk ys 0 t.1 = 0 := by
          show (if _ then _ else _) = _
          rw [if_neg e]
        have := hR H5 (Evl.Ex.refl _)
        rw [ec] at this
        exact iteF this
    rw [Tmap] at d1
    refine ⟨by show 1 ≤ sizeLine; decide, fun co hco => ?_⟩
    have hRs : R ≠ sp := fun e => by rw [e, hsp] at hR; cases hR
    have y1 : Evl.Ex H1 (upd H1 co (.lst [.ref R])) := Evl.Ex.new hco
    have c1 : (upd H1 co (.lst [.ref R])) co = some (.lst (([R] : List Addr).map V.ref)) := upd_same
    have hcoH : H co = none := ex_none x1 hco
    generalize upd H1 co (.lst [.ref R]) = H2 at y1 c1
    have ncs : co ≠ sp := fun e => by rw [e, hsp] at hcoH; cases hcoH
    refine ⟨.int (kk : Int), rfl, (kk : Int), rfl, by omega, by omega, for_it walk_range
      (fun i σ H' => (∃ x4 x5 : Option V, σ = [some (.ref a), some (.ref sp), some (.int (kk : Int)), some (.ref co), x4, x5, none, none]) ∧ Evl.Ex H H' ∧ ∃ Cs : List Addr, CountsD H' co brk ys Cs ∧ Cs.length = i + 1 ∧ ∀ b ∈ Cs, b ≠ sp)
      ⟨⟨_, _, rfl⟩, x1.trans y1, [R], ⟨c1, fun j b e => ?_⟩, rfl, fun b hb => by rw [List.mem_singleton.mp hb]; exact hRs⟩ (fun _ _ _ _ _ => trivial) ?_ ?_⟩
    · cases j with
      | zero =>
        cases e
        exact y1 _ _ d1
      | succ j => cases e
    · rintro i v σ H3' H3 hi ⟨⟨x4, x5, rfl⟩, x03, Cs, CD, lC, nC⟩ ⟨rfl, hv⟩
      have hv' : v = .int (i : Int) := by rw [hv]; show V.int (0 + (i : Int)) = _; rw [Int.zero_add]
      subst hv'
      rw [Int.toNat_natCast] at hi
      have iC : i < Cs.length := by omega
      obtain ⟨fa, hfa⟩ : ∃ fa, Cs[i]? = some fa := ⟨_, List.getElem?_eq_getElem iC⟩
      have dfa := CD.at_ i fa hfa
      have nfs := nC fa (List.mem_of_getElem? hfa)
      have hsp3 := x03 _ _ hsp
      refine ⟨.ref co, rfl, .int (i : Int), rfl, co, _, (i : Int), .ref fa, rfl, rfl, Evl.sq_of CD.hc, atI_nat (by rw [List.getElem?_map, hfa]; rfl), ?_⟩
      refine ⟨.ref co, rfl, .inl ⟨rfl, _, Evl.sq_of CD.hc⟩, walked (u := cnt brk ys (i + 1)) hsp3 rfl rfl (fun _ => rfl) (fun _ => rfl) (fun HL H5 od t qa bL lk x5' mt hqa R2 hR2 => ?_) fun R2 H5 x5' hR2 d5 => ?_⟩
      · have tsub := Tsub t mt
        obtain ⟨L, g1, g2, g3⟩ := sT t mt
        have toB : ∀ {b : Addr} {o : HO}, H b = some o → b ≠ sp → H5 b = some o := fun {b o} h ne => x5' _ _ (bL _ _ (woA_some (x03 _ _ h) ne))
        have g5 := toB g1 (ne_of g1 hsp (by intro z; cases z))
        have gr : RowsT H5 L := fun q hq => toB (g2 q hq) (ne_of (g2 q hq) hsp (by intro z; cases z))
        have fa5 := x5' _ _ (bL _ _ (woA_some dfa nfs))
        have Ll : L.length ≤ 64 := by
          have := congrArg List.length g3
          rw [List.length_map] at this
          rw [this]
          exact safeS_len l6
        refine ⟨.ref sp, rfl, .ref qa, rfl, sp, .ref t.2, rfl, .inr ⟨kT T, t.1.map Sum.inr, qa, .inr ⟨od, x5' _ _ lk⟩, rfl, by rw [keyS]; exact hqa, (kT_get ndT mt).symm⟩, t.2, rfl, ⟨_, Evl.sq_of g5⟩, fun B hB => lc_list (K := K) (a := t.2) (xs := L.map fun q => V.ref q.1)
          (fun j H' => Evl.Ex H5 H' ∧ H' B = some (.lst ((natI ((((L.take j).map (·.2)).filter fun p => !p.isEmpty).map fun p => cnt brk ys i (mixS ys t.1 p))).map V.int))) ⟨Evl.Ex.new hB, upd_same⟩ (fun j H' _ h => Evl.sq_of (h.1 _ _ g5)) ?_ ?_⟩
        · rintro j v H6 hj ⟨x6, b6⟩
          obtain ⟨r, hr', rfl⟩ := rowsT_at hj
          have mr := List.mem_of_getElem? hr'
          have ej : (L.take (j + 1)).map (·.2) = (L.take j).map (·.2) ++ [r.2] := by rw [List.take_add_one, hr', List.map_append]; rfl
          have rS : r.2 ∈ safeS brk ys t.1 := by rw [← g3]; exact List.mem_map_of_mem mr
          obtain ⟨rs, rd⟩ := rest_lot (safeS_mem.mp rS).1
          have rl : r.2.length ≤ 6 := Nat.le_trans rs.length_le l6
          have tl : t.1.length ≤ 6 := Nat.le_trans tsub.length_le l6
          have tr := x6 _ _ (gr r mr)
          have few : (natI ((((L.take j).map (·.2)).filter fun p => !p.isEmpty).map fun p => cnt brk ys i (mixS ys t.1 p))).length ≤ 64 := by
            unfold natI
            rw [List.length_map, List.length_map]
            refine Nat.le_trans (List.length_filter_le _ _) ?_
            rw [List.length_map, List.length_take]
            omega
          have eb : (!(r.2.map V.str).isEmpty) = !r.2.isEmpty := by rw [List.isEmpty_map]
          refine ⟨rfl, .ref r.1, rfl, !(r.2.map V.str).isEmpty, .inr (.inl ⟨_, Evl.st_of tr, rfl⟩), ?_⟩
          rw [eb]
          cases hz : r.2.isEmpty with
          | true =>
            show if false = true then _ else _
            refine iteF ⟨x6, ?_⟩
            rw [b6, ej, List.filter_append, List.filter_cons_of_neg (by rw [hz]; decide), List.filter_nil, List.append_nil]
          | false =>
            show if true = true then _ else _
            refine iteT ⟨.ref fa, rfl, .ref qa, rfl, .ref r.1, rfl, qa, r.1, t.1, r.2, rfl, Evl.st_of (x6 _ _ hqa), Evl.st_of tr, by omega, fun jp H7 js x7 _ tj pj sj => ?_⟩
            have ejs : js = mixS ys t.1 r.2 := mixS_is so nd tsub rs rd pj sj
            subst ejs
            refine ⟨fa, .int (cnt brk ys i (mixS ys t.1 r.2) : Int), rfl, .inr ⟨_, (mixS ys t.1 r.2).map Sum.inr, jp, .inl ((x6.trans x7) _ _ fa5), rfl, by rw [keyS]; exact tj, (cntT_get nd (mixS_sub _ _ _)).symm⟩, _, x7 _ _ b6, by rw [List.length_map]; exact small1000 (by omega), (x6.trans x7).mut hB, ?_⟩
            unfold natI
            rw [upd_same, ej, List.filter_append, List.filter_cons_of_pos (by rw [hz]; rfl), List.map_append, List.map_append, List.map_append]
            rfl
        · rintro H6 ⟨x6, b6⟩
          rw [List.length_map, List.take_length, g3] at b6
          refine ⟨B, _, rfl, Evl.sq_of b6, ?_⟩
          rw [natI_sum]
          exact hR2 H6 x6
      · rw [Tmap] at d5
        have c5 := x5' _ _ CD.hc
        have nRc : R2 ≠ co := fun e => by rw [e, CD.hc] at hR2; cases hR2
        refine ⟨co, _, _, rfl, rfl, c5, by rw [List.length_map]; exact small1000 (by omega), ⟨_, _, rfl⟩, (x03.trans x5').mut hcoH, Cs ++ [R2], ⟨by rw [upd_same, List.map_append]; rfl, fun j b e => ?_⟩, by rw [List.length_append, lC]; rfl, fun b hb => ?_⟩
        · rcases Nat.lt_or_ge j Cs.length with l | l
          · rw [List.getElem?_append_left l] at e
            have h1 := x5' _ _ (CD.at_ j b e)
            rw [upd_ne (ne_of h1 c5 (by intro z; cases z))]
            exact h1
          · rw [List.getElem?_append_right l] at e
            have ej : j = Cs.length := by
              rcases Nat.eq_zero_or_pos (j - Cs.length) with q | q
              · omega
              · rw [List.getElem?_eq_none (by simp only [List.length_cons, List.length_nil]; omega)] at e
                cases e
            subst ej
            rw [Nat.sub_self] at e
            cases e
            rw [upd_ne nRc, lC]
            exact d5
        · rcases List.mem_append.mp hb with hb | hb
          · exact nC b hb
          · rw [List.mem_singleton.mp hb]
            exact fun e => by rw [e, hsp3] at hR2; cases hR2
    · rintro σ H3 ⟨⟨x4, x5, rfl⟩, x03, Cs, CD, lC, nC⟩
      rw [Int.toNat_natCast] at lC
      exact ⟨.ref co, rfl, k co H3 Cs x03 hcoH CD lC⟩
end
end Rw
end T_U5

section T_U6
set_option Elab.async false
set_option linter.all false
set_option maxRecDepth 100000
set_option maxHeartbeats 16000000
namespace Rw
open PySem L2 PyProof.Rows LamX
/-! ### the plan with a place -/
/-- the first of some lots within whose plans the place lies, and the place among them -/
def pickP (f : List Str → Nat) : List (List Str) → Nat → Option (List Str × Nat)
  | [], _ => none
  | p :: l, n => if n < f p then some (p, n) else pickP f l (n - f p)
theorem pick_some {f : List Str → Nat} : ∀ {l : List (List Str)} {n : Nat}, n < (l.map f).sum → ∃ p m, pickP f l n = some (p, m) ∧ p ∈ l ∧ m < f p
  | [], n, h => absurd h (Nat.not_lt_zero _)
  | p :: l, n, h => by
    rw [List.map_cons, List.sum_cons] at h
    unfold pickP
    by_cases c : n < f p
    · rw [if_pos c]
      exact ⟨p, n, rfl, List.mem_cons_self, c⟩
    · rw [if_neg c]
      obtain ⟨q, m, h1, h2, h3⟩ := pick_some (f := f) (l := l) (n := n - f p) (by omega)
      exact ⟨q, m, h1, List.mem_cons_of_mem _ h2, h3⟩
/-- the rounds behind a lot that are no empty ones -/
def fullS (brk : List Str → Bool) (ys d : List Str) : List (List Str) := (safeS brk ys d).filter fun p => !p.isEmpty
def planOf (brk : List Str → Bool) (ys : List Str) : Nat → List Str → Nat → List (List Str)
  | 0, _, _ => []
  | k + 1, d, n => match pickP (fun p => cnt brk ys k (mixS ys d p)) (fullS brk ys d) n with
    | some (p, m) => p :: planOf brk ys k (mixS ys d p) m
    | none => []
theorem plan_step {brk : List Str → Bool} {ys d p : List Str} {k n m : Nat} (h : pickP (fun p => cnt brk ys k (mixS ys d p)) (fullS brk ys d) n = some (p, m)) : planOf brk ys (k + 1) d n = p :: planOf brk ys k (mixS ys d p) m := by
  show (match pickP (fun p => cnt brk ys k (mixS ys d p)) (fullS brk ys d) n with
    | some (p, m) => p :: planOf brk ys k (mixS ys d p) m
    | none => []) = _
  rw [h]
/-- rounds that make a plan from a lot on -/
inductive PlanFrom (brk : List Str → Bool) (ys : List Str) : List Str → List (List Str) → Prop
  | done : safeS brk ys ys ≠ [] → PlanFrom brk ys ys []
  | step {d p : List Str} {l : List (List Str)} : p ∈ safeS brk ys d → p ≠ [] → PlanFrom brk ys (mixS ys d p) l → PlanFrom brk ys d (p :: l)
theorem plan_of {brk : List Str → Bool} {ys : List Str} : ∀ {k : Nat} {d : List Str} {n : Nat}, n < cnt brk ys k d → PlanFrom brk ys d (planOf brk ys k d n) ∧ (planOf brk ys k d n).length = k := by
  intro k
  induction k with
  | zero =>
    intro d n h
    have e : cnt brk ys 0 d = if d = ys then (safeS brk ys d).length else 0 := rfl
    rw [e] at h
    by_cases c : d = ys
    · subst c
      rw [if_pos rfl] at h
      exact ⟨.done fun z => by rw [z] at h; exact absurd h (Nat.not_lt_zero _), rfl⟩
    · rw [if_neg c] at h
      exact absurd h (Nat.not_lt_zero _)
  | succ k ih =>
    intro d n h
    obtain ⟨p, m, h1, h2, h3⟩ := pick_some (f := fun p => cnt brk ys k (mixS ys d p)) (l := fullS brk ys d) (n := n) h
    rw [plan_step h1]
    obtain ⟨h4, h5⟩ := ih h3
    obtain ⟨h6, h7⟩ := List.mem_filter.mp h2
    exact ⟨h4.step h6 (fun z => by rw [z] at h7; cases h7), by rw [List.length_cons, h5]⟩
theorem cnt_pos {brk : List Str → Bool} {ys : List Str} : ∀ {l : List (List Str)} {d : List Str}, PlanFrom brk ys d l → 0 < cnt brk ys l.length d := by
  intro l d h
  induction h with
  | done ne =>
    show 0 < if _ then _ else _
    rw [if_pos rfl]
    exact List.length_pos_iff.mpr ne
  | @step d p l h1 h2 h3 ih =>
    show 0 < (((safeS brk ys d).filter fun p => !p.isEmpty).map fun p => cnt brk ys l.length (mixS ys d p)).sum
    have m : p ∈ (safeS brk ys d).filter fun p => !p.isEmpty := List.mem_filter.mpr ⟨h1, by
      cases p with
      | nil => exact absurd rfl h2
      | cons z p => rfl⟩
    obtain ⟨A, B, e⟩ := List.append_of_mem m
    rw [e, List.map_append, List.map_cons, List.sum_append, List.sum_cons]
    omega
section
variable {P : Program} {w : World} {K : PySem.W.Frag} {mg : Str → Option Value} {base : Heap}
def spPlanAt : Sp := fun vs H Q _ => ∃ (c sp : Addr) (k n : Nat) (brk : List Str → Bool) (ys : List Str) (Cs : List Addr), vs = [.ref c, .ref sp, .int (n : Int)] ∧ CountsD H c brk ys Cs ∧ Cs.length = k + 1 ∧ SafeD H sp brk ys ∧ ys.length ≤ 6 ∧ ys.Nodup ∧ sortedS ys = true ∧ k ≤ 64 ∧ n < cnt brk ys k [] ∧
  ∀ (p : Addr) (H' : Hp) (L : List (Addr × List Str)), Evl.Ex H H' → H p = none → H' p = some (.lst (L.map fun q => V.ref q.1)) → RowsT H' L → L.map (·.2) = planOf brk ys k [] n → Q (.ref p) H'
abbrev nPlanAt : List Str := ["counts", "safe", "place", "done", "plan", "fewer", "lot", "many", "other"]
theorem sc_planAt : FnScope nPlanAt ["counts", "safe", "place"] (defScope p_plan_with_place) := ⟨rfl, rfl, rfl, by decide +kernel, rfl, by decide +kernel, by decide +kernel⟩
theorem ok_planAt {f : Addr} {fd : FuncData} (F : Fun K "plan_with_place" "plan_with_place" p_plan_with_place f fd) (C2 : Cal P w K mg base 1 "joined" ["lot", "other"] (spJoined (K := K))) (mRev : mg "reversed" = none) : FnOk P w K mg base CX0 2 f fd ["counts", "safe", "place"] spPlanAt := by
  obtain ⟨f2, fd2, F2, k2, b2, g2⟩ := C2.ex
  refine F.ok sc_planAt (fun vs H Q E h => ?_) (fun cdv A outer s H vs Q E hr h => ?_)
  · obtain ⟨c, sp, kk, n, brk, ys, Cs, rfl, _⟩ := h
    rfl
  · obtain ⟨c, sp, kk, n, brk, ys, Cs, rfl, CD, lC, S, l6, nd, so, k64, hn, k⟩ := h
    have ndN := sc_planAt.nd
    have hu := hu_of hr
    refine ⟨_, pss_cons (ps_set (i := 3) ndN rfl (.inl rfl) (pe_tup pa_nil))
      (pss_cons (ps_set (i := 4) ndN rfl (.inl rfl) (pe_lst pa_nil))
      (pss_cons (ps_for PassesOwn.never rfl (pi_reversed (by rfl) mRev (pa_cons (pe_slice sl_list (pv 0) po_none (po_some (pe_un un_neg pe_int))) pa_nil)) (pg_name (i := 5) ndN rfl (.inl rfl))
        (pss_cons (ps_for PassesOwn.never rfl (pi_list (pe_lc (own := [("other", 8)]) (g := gName 8) (tt := tTru K 8) (te := tVar 8) rfl ndN (pi_list (pe_dget hu (pv 1) (pv 3) (fun _ _ => rfl))) (blkOk_by (own := [("other", 8)]) (N := nPlanAt) (sc := defScope p_plan_with_place) (by decide +kernel))
              (fun _ _ _ _ _ => pg_name (i := 8) ndN rfl (Or.inl rfl)) (fun _ _ _ _ _ => pts_one (pt_truth (pv 8) (fun _ => rfl))) (fun _ _ _ _ _ => pv 8))) (pg_name (i := 6) ndN rfl (.inl rfl))
          (pss_cons (ps_set (i := 7) ndN rfl (.inl rfl) (pe_dget hu (pv 5) (pe_call F2 hr rfl g2 k2 b2 .nil pass0 (pa_cons (pv 3) (pa_cons (pv 6) pa_nil))) (fun _ _ => rfl)))
          (pss_cons (ps_if (pt_cmpR op_lt (pv 2) (pv 7) (nomark _)) (pss_one ps_break) pss_nil)
          (pss_one (ps_aug (i := 2) ndN rfl (.inl rfl) (pv 7) ip_sub)))))
        (pss_cons (ps_expr (pe_bm PySem.F.plainAttrs_list PySem.F.slot_list_append PySem.F.type_list_append mt_append (pv 4) (pa_cons (pv 6) pa_nil)))
        (pss_one (ps_set (i := 3) ndN rfl (.inl rfl) (pe_call F2 hr rfl g2 k2 b2 .nil pass0 (pa_cons (pv 3) (pa_cons (pv 6) pa_nil))))))))
      (pss_one (ps_ret (pv 4))))), ?_⟩
    refine ⟨by show 0 ≤ sizeLine; decide, fun d0 hd0 => ⟨by show 0 ≤ sizeLine; decide, fun pl hpl => ?_⟩⟩
    have x1 : Evl.Ex H (upd (upd H d0 (.tup [])) pl (.lst [])) := (Evl.Ex.new hd0).trans (Evl.Ex.new hpl)
    have t1 : (upd (upd H d0 (.tup [])) pl (.lst [])) d0 = some (.tup (([] : List Str).map V.str)) := by
      rw [upd_ne (ne_of_none (upd_same (H := H) (a := d0) (o := .tup [])) hpl)]
      exact upd_same
    have p1 : (upd (upd H d0 (.tup [])) pl (.lst [])) pl = some (.lst (([] : List (Addr × List Str)).map fun q => V.ref q.1)) := upd_same
    have hplH : H pl = none := ex_none (Evl.Ex.new hd0) hpl
    generalize upd (upd H d0 (.tup [])) pl (.lst []) = H1 at x1 t1 p1
    refine ⟨.ref c, rfl, 1, rfl, _, rfl, c, _, rfl, Evl.sq_of (x1 _ _ CD.hc), fun cs hcs => ?_⟩
    have ecut : cutV (Cs.map V.ref) none (some (-1)) = (Cs.take kk).map V.ref := by
      rw [cut_last, List.dropLast_eq_take, List.length_map, lC, List.map_take]
      rfl
    rw [ecut]
    have y1 : Evl.Ex H1 (upd H1 cs (.lst ((Cs.take kk).map V.ref))) := Evl.Ex.new hcs
    have c1 : (upd H1 cs (.lst ((Cs.take kk).map V.ref))) cs = some (.lst ((Cs.take kk).map V.ref)) := upd_same
    have ncp : cs ≠ pl := fun e => by rw [e, p1] at hcs; cases hcs
    generalize upd H1 cs (.lst ((Cs.take kk).map V.ref)) = H2 at y1 c1
    have lk : ((Cs.take kk).map V.ref).length = kk := by rw [List.length_map, List.length_take]; omega
    refine ⟨cs, _, rfl, Evl.sq_of c1, for_it walk_rev
      (fun i σ H' => ∃ (da : Addr) (d : List Str) (m : Nat) (Pl : List (Addr × List Str)) (x5 x6 x7 : Option V), σ = [some (.ref c), some (.ref sp), some (.int (m : Int)), some (.ref da), some (.ref pl), x5, x6, x7, none] ∧ Evl.Ex H H' ∧ H' cs = some (.lst ((Cs.take kk).map V.ref)) ∧ H' da = some (.tup (d.map V.str)) ∧ d.Sublist ys ∧ H' pl = some (.lst (Pl.map fun q => V.ref q.1)) ∧ RowsT H' Pl ∧ Pl.length = i ∧
        planOf brk ys kk [] n = Pl.map (·.2) ++ planOf brk ys (kk - i) d m ∧ m < cnt brk ys (kk - i) d)
      ⟨d0, [], n, [], none, none, none, rfl, x1.trans y1, c1, y1 _ _ t1, List.nil_sublist _, y1 _ _ p1, (fun q hq => nomatch hq), rfl, rfl, hn⟩ (fun i σ H' _ ⟨_, _, _, _, _, _, _, _, _, h, _⟩ => Evl.sq_of h) ?_ ?_⟩
    · rintro i v σ H3' H3 hi ⟨da, d, m, Pl, x5, x6, x7, rfl, x03, c3, t3, dsub, p3, tP, lP, ePl, hm⟩ ⟨rfl, hv⟩
      rw [lk] at hi hv
      obtain ⟨j, hj⟩ : ∃ j, kk - i = j + 1 := ⟨kk - 1 - i, by omega⟩
      have hj1 : kk - 1 - i = j := by omega
      have hj2 : kk - (i + 1) = j := by omega
      rw [hj] at ePl hm
      rw [hj1, List.getElem?_map] at hv
      obtain ⟨fa, hfa, rfl⟩ : ∃ fa, Cs[j]? = some fa ∧ v = .ref fa := by
        rw [List.getElem?_take] at hv
        rw [if_pos (by omega)] at hv
        cases z : Cs[j]? with
        | none => rw [z] at hv; cases hv
        | some fa =>
          rw [z] at hv
          exact ⟨fa, rfl, (Option.some.inj hv).symm⟩
      have dfa := x03 _ _ (CD.at_ j fa hfa)
      obtain ⟨T, sa, L, s1, s2, s3, s4, s5⟩ := (S.to x03).get nd dsub
      have Ll : L.length ≤ 64 := by
        have := congrArg List.length s5
        rw [List.length_map] at this
        rw [this]
        exact safeS_len l6
      -- the rounds that are no empty ones
      refine ⟨.ref sp, rfl, .ref da, rfl, sp, .ref sa, rfl, .inr ⟨kT T, d.map Sum.inr, da, .inl s1, rfl, by rw [keyS]; exact t3, s2.symm⟩, sa, rfl, ⟨_, Evl.sq_of s3⟩, fun R hR => lc_list (K := K) (a := sa) (xs := L.map fun q => V.ref q.1)
        (fun l H' => Evl.Ex H3 H' ∧ H' R = some (.lst (((L.take l).filter fun q => !q.2.isEmpty).map fun q => V.ref q.1))) ⟨Evl.Ex.new hR, upd_same⟩ (fun l H' _ h => Evl.sq_of (h.1 _ _ s3)) ?_ ?_⟩
      · rintro l u H4 hl ⟨x4, r4⟩
        obtain ⟨r, hr', rfl⟩ := rowsT_at hl
        have mr := List.mem_of_getElem? hr'
        have el : L.take (l + 1) = L.take l ++ [r] := by rw [List.take_add_one, hr']; rfl
        have few : ((L.take l).filter fun q => !q.2.isEmpty).length ≤ 64 := Nat.le_trans (List.length_filter_le _ _) (by rw [List.length_take]; omega)
        have eb : (!(r.2.map V.str).isEmpty) = !r.2.isEmpty := by rw [List.isEmpty_map]
        refine ⟨rfl, .ref r.1, rfl, !(r.2.map V.str).isEmpty, .inr (.inl ⟨_, Evl.st_of (x4 _ _ (s4 r mr)), rfl⟩), ?_⟩
        rw [eb]
        cases hz : r.2.isEmpty with
        | true =>
          show if false = true then _ else _
          refine iteF ⟨x4, ?_⟩
          rw [r4, el, List.filter_append, List.filter_cons_of_neg (by rw [hz]; decide), List.filter_nil, List.append_nil]
        | false =>
          show if true = true then _ else _
          refine iteT ⟨.ref r.1, rfl, _, r4, by rw [List.length_map]; exact small1000 (by omega), x4.mut hR, ?_⟩
          rw [upd_same, el, List.filter_append, List.filter_cons_of_pos (by rw [hz]; rfl), List.map_append]
          rfl
      rintro H4 ⟨x4, r4⟩
      rw [List.length_map, List.take_length] at r4
      obtain ⟨F', hF'⟩ : ∃ F', F' = L.filter fun q => !q.2.isEmpty := ⟨_, rfl⟩
      rw [← hF'] at r4
      have eF : F'.map (·.2) = fullS brk ys d := by
        unfold fullS
        rw [hF', ← s5, List.filter_map]
        rfl
      have tF : RowsT H4 F' := fun q hq => by
        rw [hF'] at hq
        exact x4 _ _ (s4 q (List.mem_filter.mp hq).1)
      obtain ⟨pk, mk, hpk, pkm, mkl⟩ := pick_some (f := fun p => cnt brk ys j (mixS ys d p)) (l := fullS brk ys d) (n := m) hm
      have x04 := x03.trans x4
      have lot_ok : ∀ r ∈ F', r.2.Sublist ys ∧ ∀ x ∈ r.2, x ∉ d := fun r hr' => by
        have h1 : r.2 ∈ fullS brk ys d := by rw [← eF]; exact List.mem_map_of_mem hr'
        exact rest_lot (safeS_mem.mp (List.mem_filter.mp h1).1).1
      have dl : d.length ≤ 6 := Nat.le_trans dsub.length_le l6
      refine ⟨R, rfl, ⟨_, Evl.sq_of r4⟩, for_list (K := K) (a := R) (xs := F'.map fun q => V.ref q.1)
        (fun l σ H' => ∃ (m' : Nat) (x6 x7 : Option V), σ = [some (.ref c), some (.ref sp), some (.int (m' : Int)), some (.ref da), some (.ref pl), some (.ref fa), x6, x7, none] ∧ Evl.Ex H4 H' ∧ pickP (fun p => cnt brk ys j (mixS ys d p)) ((F'.drop l).map (·.2)) m' = some (pk, mk))
        ⟨m, _, _, rfl, Evl.Ex.refl _, by rw [List.drop_zero, eF]; exact hpk⟩ (fun l σ H' _ ⟨_, _, _, _, h, _⟩ => Evl.sq_of (h _ _ r4)) ?_ ?_⟩
      · rintro l u σ H5 hl ⟨m', x6, x7, rfl, x5', hp⟩
        obtain ⟨r, hr', rfl⟩ := rowsT_at hl
        have mr := List.mem_of_getElem? hr'
        obtain ⟨rs, rd⟩ := lot_ok r mr
        have rl : r.2.length ≤ 6 := Nat.le_trans rs.length_le l6
        have tr := x5' _ _ (tF r mr)
        have ed : (F'.drop l).map (·.2) = r.2 :: (F'.drop (l + 1)).map (·.2) := by
          obtain ⟨hlt, he⟩ := List.getElem?_eq_some_iff.mp hr'
          rw [List.drop_eq_getElem_cons hlt, he, List.map_cons]
        rw [ed] at hp
        have x35 := x4.trans x5'
        refine ⟨.ref fa, rfl, .ref da, rfl, .ref r.1, rfl, da, r.1, d, r.2, rfl, Evl.st_of (x35 _ _ t3), Evl.st_of tr, by omega, fun jp H6 js x6' _ tj pj sj => ?_⟩
        have ejs : js = mixS ys d r.2 := mixS_is so nd dsub rs rd pj sj
        subst ejs
        refine ⟨fa, .int (cnt brk ys j (mixS ys d r.2) : Int), rfl, .inr ⟨_, (mixS ys d r.2).map Sum.inr, jp, .inl ((x35.trans x6') _ _ dfa), rfl, by rw [keyS]; exact tj, (cntT_get nd (mixS_sub _ _ _)).symm⟩, ?_⟩
        refine ⟨.int (m' : Int), rfl, .int (cnt brk ys j (mixS ys d r.2) : Int), rfl, (m' : Int), (cnt brk ys j (mixS ys d r.2) : Int), rfl, rfl, _, rfl, ?_⟩
        unfold pickP at hp
        by_cases lt : m' < cnt brk ys j (mixS ys d r.2)
        · rw [if_pos lt] at hp
          cases hp
          rw [decide_eq_true (by omega)]
          -- break: plan.append(lot), done = joined(done, lot)
          refine iteT ?_
          have x56 := x5'.trans x6'
          have x36 := x4.trans x56
          have p6 := x36 _ _ p3
          have tP6 := tP.to x36
          have npl6 : H pl = none := hplH
          refine ⟨.ref pl, rfl, .inl ⟨rfl, _, Evl.sq_of p6⟩, .ref r.1, rfl, pl, _, _, rfl, rfl, p6, by rw [List.length_map]; exact small1000 (by omega), ?_⟩
          have x07 : Evl.Ex H (upd H6 pl (.lst ((Pl.map fun q => V.ref q.1) ++ [V.ref r.1]))) := (x03.trans x36).mut hplH
          have kt : ∀ {u : Addr} {xs : List V}, H6 u = some (.tup xs) → (upd H6 pl (.lst ((Pl.map fun q => V.ref q.1) ++ [V.ref r.1]))) u = some (.tup xs) := fun {u xs} h => by rw [upd_ne (ne_of h p6 (by intro z; cases z))]; exact h
          have p7 : (upd H6 pl (.lst ((Pl.map fun q => V.ref q.1) ++ [V.ref r.1]))) pl = some (.lst ((Pl ++ [r]).map fun q => V.ref q.1)) := by
            rw [upd_same, List.map_append]
            rfl
          have t7 := kt (x36 _ _ t3)
          have r7 := kt (x6' _ _ tr)
          have c7 : (upd H6 pl (.lst ((Pl.map fun q => V.ref q.1) ++ [V.ref r.1]))) cs = some (.lst ((Cs.take kk).map V.ref)) := by rw [upd_ne ncp]; exact x36 _ _ c3
          have tP7 : RowsT (upd H6 pl (.lst ((Pl.map fun q => V.ref q.1) ++ [V.ref r.1]))) (Pl ++ [r]) := fun q hq => by
            rcases List.mem_append.mp hq with hq | hq
            · exact kt (tP6 q hq)
            · rw [List.mem_singleton.mp hq]
              exact r7
          generalize upd H6 pl (.lst ((Pl.map fun q => V.ref q.1) ++ [V.ref r.1])) = H7 at x07 p7 t7 r7 c7 tP7
          refine ⟨.ref da, rfl, .ref r.1, rfl, da, r.1, d, r.2, rfl, Evl.st_of t7, Evl.st_of r7, by omega, fun jp2 H8 js2 x8 _ tj2 pj2 sj2 => ?_⟩
          have ejs2 : js2 = mixS ys d r.2 := mixS_is so nd dsub rs rd pj2 sj2
          subst ejs2
          refine ⟨jp2, mixS ys d r.2, mk, Pl ++ [r], _, _, _, rfl, x07.trans x8, x8 _ _ c7, tj2, mixS_sub _ _ _, x8 _ _ p7, tP7.to x8, by rw [List.length_append, lP]; rfl, ?_, ?_⟩
          · rw [ePl, plan_step hpk, hj2, List.map_append, List.append_assoc]
            rfl
          · rw [hj2]
            exact lt
        · rw [if_neg lt] at hp
          rw [decide_eq_false (by omega)]
          have e : (m' : Int) - (cnt brk ys j (mixS ys d r.2) : Int) = ((m' - cnt brk ys j (mixS ys d r.2) : Nat) : Int) := by omega
          refine iteF ⟨_, rfl, .int (cnt brk ys j (mixS ys d r.2) : Int), rfl, (m' : Int), (cnt brk ys j (mixS ys d r.2) : Int), rfl, rfl, m' - cnt brk ys j (mixS ys d r.2), _, _, by rw [← e]; rfl, x5'.trans x6', hp⟩
      · rintro σ H5 ⟨m', x6, x7, rfl, x5', hp⟩
        rw [List.length_map, List.drop_length] at hp
        cases hp
    · rintro σ H3 ⟨da, d, m, Pl, x5, x6, x7, rfl, x03, c3, t3, dsub, p3, tP, lP, ePl, hm⟩
      rw [lk, Nat.sub_self] at ePl
      have e0 : planOf brk ys 0 d m = [] := rfl
      rw [e0, List.append_nil] at ePl
      exact ⟨.ref pl, rfl, k pl H3 Pl x03 hplH p3 tP ePl.symm⟩
end
end Rw
end T_U6

section T_NT
set_option Elab.async false
set_option linter.all false
set_option maxRecDepth 100000
set_option maxHeartbeats 4000000
namespace Rw
open PySem L2 PyProof.Rows LamX
theorem NetAt.nt {C : Addr} {H : Hp} {m : Addr} {ends dots ss ps : List Str} {o n : Str → List (Str × V)} (h : NetAt C H m ends dots ss ps o n) : NetAt C (nt H) m ends dots ss ps o n := by
  obtain ⟨dx, T, N, S, P, rows, h1, h2, h3, h4, h5, h6, h7⟩ := h
  refine ⟨dx, T, N, S, P, rows, nt_of h1 (fun _ z => by cases z), nt_dK h2, nt_tup h3, nt_tup h4, nt_tup h5, h6, fun e he => ?_⟩
  obtain ⟨p, po, pn, hv, pa⟩ := h7 e he
  exact ⟨p, po, pn, hv, nt_tup pa.hp, nt_dK pa.ho, nt_dK pa.hn, pa.o1, pa.o2⟩
theorem SqS.nt {K : PySem.W.Frag} {H : Hp} {a : Addr} {zs : List Str} (h : SqS K H a zs) : SqS K (nt H) a zs := by
  rcases h with h | h
  · refine .inl ?_
    rcases h with (h | ⟨o, h⟩) | h
    · exact .inl (.inl (nt_lst h))
    · exact .inl (.inr ⟨o, nt_of h fun _ z => by cases z⟩)
    · exact .inr h
  · exact .inr (sqt_nt h)
theorem LotAt.nt {H : Hp} {a : Addr} {zs ys : List Str} (h : LotAt H a zs ys) : LotAt (nt H) a zs ys := ⟨nt_tup h.ha, h.sub, h.nd, h.so, h.nm, h.few⟩
theorem sql_nt {K : PySem.W.Frag} {H : Hp} {a : Addr} {xs : List V} (h : SqL K H a xs) : SqL K (nt H) a xs := by
  rcases h with (h | ⟨o, h⟩) | h
  · exact .inl (.inl (nt_lst h))
  · exact .inl (.inr ⟨o, nt_of h fun _ z => by cases z⟩)
  · exact .inr h
theorem codeO_lst {c : Addr} {q : Str} {xs : List V} (h : some (CodeO c q) = some (HO.lst xs)) : False := by
  unfold CodeO at h
  cases h
theorem nt_mut {H H3 : Hp} {D : Addr} {o : HO} (x : Evl.Ex (nt H) (nt H3)) (hD : H D = none) (n : ∀ ps, o ≠ .tbl ps) : Evl.Ex (nt H) (nt (upd H3 D o)) := fun p' o' h' => by
  have h1 := x _ _ h'
  have np : p' ≠ D := fun z => by rw [z] at h'; rw [nt_free hD] at h'; cases h'
  exact nt_of (by rw [upd_ne np]; exact (nt_some h1).1) (nt_some h1).2
theorem nt_mutL {H H3 : Hp} {D : Addr} {xs : List V} (x : Evl.Ex (nt H) (nt H3)) (hD : H D = none) : Evl.Ex (nt H) (nt (upd H3 D (.lst xs))) := nt_mut x hD fun _ z => by cases z
theorem tabs_mutL {T : List (Addr × Str)} {H3 : Hp} {D : Addr} {xs ys : List V} (T3 : Tabs T H3) (d3 : H3 D = some (.lst xs)) : Tabs T (upd H3 D (.lst ys)) := fun q hq => by
  obtain ⟨ts, t1, t2, t3⟩ := T3 q hq
  refine ⟨ts, by rw [upd_ne (fun z => by rw [z, d3] at t1; cases t1)]; exact t1, t2, fun pos cv hcv => ?_⟩
  obtain ⟨c', e1, e2⟩ := t3 pos cv hcv
  exact ⟨c', e1, by rw [upd_ne (fun z => by rw [z, d3] at e2; exact codeO_lst e2.symm)]; exact e2⟩
abbrev wishesL : List Str := ["home", "lost", "posts", "rings"]
theorem moving_sub {ends dots : List Str} {o n : Str → List (Str × V)} {z : Str} (h : z ∈ moving ends dots o n) : z ∈ dots := (List.mem_filter.mp h).1
theorem LotAt.l6 {H : Hp} {a : Addr} {zs ends dots : List Str} {o n : Str → List (Str × V)} (L : LotAt H a zs (moving ends dots o n)) (d6 : dots.length ≤ 6) : zs.length ≤ 6 :=
  Nat.le_trans (nodup_le zs dots L.nd fun z hz => moving_sub (L.sub z hz)) d6
end Rw
end T_NT

section T_CW
set_option Elab.async false
set_option linter.all false
set_option maxRecDepth 100000
set_option maxHeartbeats 4000000
namespace Rw
open PySem L2 PyProof.Rows LamX
section
variable {P : Program} {w : World} {K : PySem.W.Frag} {mg : Str → Option Value} {base : Heap}
def spCheckWishes : Sp := fun vs H Q _ => ∃ (c : Addr) (ws : List Str), vs = [.ref c] ∧ SqS K H c ws ∧ ws.Nodup ∧ (∀ x ∈ ws, x ∈ wishesL) ∧ ws.length ≤ 100 ∧ ∀ H', Evl.Ex H H' → Q .non H'
theorem sc_check_wishes : FnScope ["wishes"] ["wishes"] (defScope p_check_wishes) := ⟨rfl, rfl, rfl, by decide +kernel, rfl, by decide +kernel, by decide +kernel⟩
theorem ok_check_wishes {f Wa : Addr} {fd : FuncData} (F : Fun K "check_wishes" "check_wishes" p_check_wishes f fd) (C1 : Cal P w K mg base 2 "are_different" ["value", "nodes"] (spDiff K)) (mW : mg "WISHES" = some (.ref Wa)) (hW : ∀ H, SqT K H Wa (wishesL.map V.str)) :
    FnOk P w K mg base CX0 3 f fd ["wishes"] (spCheckWishes (K := K)) := by
  obtain ⟨f1, fd1, F1, k1, b1, g1⟩ := C1.ex
  refine F.ok sc_check_wishes (fun vs H Q E h => ?_) (fun cdv A outer s H vs Q E hr h => ?_)
  · obtain ⟨c, ws, rfl, _⟩ := h
    rfl
  · obtain ⟨c, ws, rfl, hc, hn, hs, hl, k⟩ := h
    refine ⟨_, pss_one (ps_if (pt_not (pt_val (pe_call F1 hr rfl g1 k1 b1 .nil pass0 (pa_cons (pv 0) (pa_cons (pe_glob (v := .ref Wa) (by rfl) mW rfl) pa_nil))))) (pss_one ps_never) pss_nil), ?_⟩
    exact ⟨.ref c, rfl, c, Wa, ws, wishesL, rfl, hc, .inr (hW H), hn, hs, hl, fun H1 x1 => ⟨true, rfl, k _ x1⟩⟩
end
end Rw
end T_CW

section T_LC
set_option Elab.async false
set_option linter.all false
set_option maxRecDepth 100000
set_option maxHeartbeats 4000000
namespace Rw
open PySem L2 PyProof.Rows
/-! ### comprehensions with two for -/
theorem lc2_out {J : It} {n : Nat} {G : Hp → Prop} {Y : Nat → Hp → V → Hp → Prop} (wk : Walk J n G Y) {g g1 : TG} {tt tt1 : TT} {te : TE} {wi1 : TI} {vs vs1 : List Nat} {σ : L2.St} {H1 : Hp} {D : Addr} {Qd : Hp → Prop} (Pv : Nat → Hp → Prop) (start : Pv 0 (upd H1 D (.lst []))) (hG : ∀ i H, i ≤ n → Pv i H → G H)
    (turn : ∀ i x H H', i < n → Pv i H → Y i H x H' → g x (wipe σ vs) H' fun σ2 H2 => wipe σ2 vs = wipe σ vs ∧ tt σ2 H2 fun b H3 => if b = true then wi1 σ2 H3 fun J1 H4 => ∃ W1 : Nat → Nat → Hp → Prop, (∃ m, W1 0 m H4) ∧ ∀ j k H, W1 j k H →
      (J1.stop j H ∧ Pv (i + 1) H) ∨ (J1.go j H ∧ ∃ Nx1 : Hp → Prop, (∀ H', Nx1 H' → ∃ k', k' < k ∧ W1 (j + 1) k' H') ∧ ∀ x H', J1.yld j H x H' → g1 x (wipe σ2 vs1) H' fun σ3 H5 => wipe σ3 vs1 = wipe σ2 vs1 ∧ tt1 σ3 H5 fun b H6 =>
        if b = true then te σ3 H6 fun y H7 => ∃ acc, H7 D = some (.lst acc) ∧ acc.length < sizeLine ∧ Nx1 (upd H7 D (.lst (acc ++ [y]))) else Nx1 H6) else Pv (i + 1) H3) (fin : ∀ H, Pv n H → Qd H) :
    ∃ W : Nat → Nat → Hp → Prop, (∃ m, W 0 m (upd H1 D (.lst []))) ∧ ∀ i m H, W i m H →
      (J.stop i H ∧ Qd H) ∨ (J.go i H ∧ ∃ Nx : Hp → Prop, (∀ H', Nx H' → ∃ m', m' < m ∧ W (i + 1) m' H') ∧ ∀ x H', J.yld i H x H' → g x (wipe σ vs) H' fun σ2 H2 => wipe σ2 vs = wipe σ vs ∧ tt σ2 H2 fun b H3 =>
        if b = true then wi1 σ2 H3 fun J1 H4 => ∃ W1 : Nat → Nat → Hp → Prop, (∃ m, W1 0 m H4) ∧ ∀ j k H, W1 j k H →
          (J1.stop j H ∧ Nx H) ∨ (J1.go j H ∧ ∃ Nx1 : Hp → Prop, (∀ H', Nx1 H' → ∃ k', k' < k ∧ W1 (j + 1) k' H') ∧ ∀ x H', J1.yld j H x H' → g1 x (wipe σ2 vs1) H' fun σ3 H5 => wipe σ3 vs1 = wipe σ2 vs1 ∧ tt1 σ3 H5 fun b H6 =>
            if b = true then te σ3 H6 fun y H7 => ∃ acc, H7 D = some (.lst acc) ∧ acc.length < sizeLine ∧ Nx1 (upd H7 D (.lst (acc ++ [y]))) else Nx1 H6)
        else Nx H3) := by
  refine ⟨fun i m H => m = n - i ∧ i ≤ n ∧ Pv i H, ⟨n, by simp, Nat.zero_le _, start⟩, ?_⟩
  rintro i m H ⟨rfl, hi, p⟩
  by_cases lt : i < n
  · exact .inr ⟨wk.goes i H lt (hG i H hi p), Pv (i + 1), fun H' p' => ⟨n - (i + 1), by omega, rfl, lt, p'⟩, fun x H' y => turn i x H H' lt p (wk.yields i H x H' lt (hG i H hi p) y)⟩
  · have e : i = n := by omega
    subst e
    exact .inl ⟨wk.stops H (hG _ H hi p), fin H p⟩
theorem lc2_in {J : It} {n : Nat} {G : Hp → Prop} {Y : Nat → Hp → V → Hp → Prop} (wk : Walk J n G Y) {g1 : TG} {tt1 : TT} {te : TE} {vs1 : List Nat} {σ : L2.St} {H4 : Hp} {D : Addr} {Nx : Hp → Prop} (Pv : Nat → Hp → Prop) (start : Pv 0 H4) (hG : ∀ i H, i ≤ n → Pv i H → G H)
    (turn : ∀ j x H H', j < n → Pv j H → Y j H x H' → g1 x (wipe σ vs1) H' fun σ3 H5 => wipe σ3 vs1 = wipe σ vs1 ∧ tt1 σ3 H5 fun b H6 =>
      if b = true then te σ3 H6 fun y H7 => ∃ acc, H7 D = some (.lst acc) ∧ acc.length < sizeLine ∧ Pv (j + 1) (upd H7 D (.lst (acc ++ [y]))) else Pv (j + 1) H6) (fin : ∀ H, Pv n H → Nx H) :
    ∃ W1 : Nat → Nat → Hp → Prop, (∃ m, W1 0 m H4) ∧ ∀ j k H, W1 j k H →
      (J.stop j H ∧ Nx H) ∨ (J.go j H ∧ ∃ Nx1 : Hp → Prop, (∀ H', Nx1 H' → ∃ k', k' < k ∧ W1 (j + 1) k' H') ∧ ∀ x H', J.yld j H x H' → g1 x (wipe σ vs1) H' fun σ3 H5 => wipe σ3 vs1 = wipe σ vs1 ∧ tt1 σ3 H5 fun b H6 =>
        if b = true then te σ3 H6 fun y H7 => ∃ acc, H7 D = some (.lst acc) ∧ acc.length < sizeLine ∧ Nx1 (upd H7 D (.lst (acc ++ [y]))) else Nx1 H6) := by
  refine ⟨fun j k H => k = n - j ∧ j ≤ n ∧ Pv j H, ⟨n, by simp, Nat.zero_le _, start⟩, ?_⟩
  rintro j k H ⟨rfl, hj, p⟩
  by_cases lt : j < n
  · exact .inr ⟨wk.goes j H lt (hG j H hj p), Pv (j + 1), fun H' p' => ⟨n - (j + 1), by omega, rfl, lt, p'⟩, fun x H' y => turn j x H H' lt p (wk.yields j H x H' lt (hG j H hj p) y)⟩
  · have e : j = n := by omega
    subst e
    exact .inl ⟨wk.stops H (hG _ H hj p), fin H p⟩
end Rw
end T_LC

section T_U1
set_option Elab.async false
set_option linter.all false
set_option maxRecDepth 100000
set_option maxHeartbeats 8000000
namespace Rw
open PySem L2 PyProof.Rows LamX
section
variable {P : Program} {w : World} {K : PySem.W.Frag} {mg : Str → Option Value} {base : Heap}
/-- the lots at which a wish is broken -/
noncomputable def brokenL (ends dots ss ps : List Str) (o n : Str → List (Str × V)) (wd : Str) : List (List Str) := (partsS (moving ends dots o n)).filter fun on => badB ends dots ss ps o n on wd
theorem nt_none {H H' : Hp} {p : Addr} (x : Evl.Ex (nt H) (nt H')) (h : H' p = none) : nt H p = none := by
  cases e : nt H p with
  | none => rfl
  | some u =>
    have := (nt_some (x _ _ e)).1
    rw [h] at this
    cases this
theorem nt_none2 {H H' : Hp} {p : Addr} (x : Evl.Ex (nt H) (nt H')) (h : nt H' p = none) : nt H p = none := by
  cases e : nt H p with
  | none => rfl
  | some u =>
    rw [x _ _ e] at h
    cases h
/-! ### broken_moments -/
def spBrokenMoments (T : List (Addr × Str)) (C : Addr) : Sp := fun vs H Q _ => ∃ (m : Addr) (wd : Str) (ends dots ss ps : List Str) (o n : Str → List (Str × V)), vs = [.ref m, .str wd] ∧ NetAt C H m ends dots ss ps o n ∧ ModelOk ends dots ss ps ∧ TabsOk ends dots o n ∧ Tabs T H ∧
  ∀ (p : Addr) (H' : Hp) (L : List (Addr × List Str)), Evl.Ex (nt H) (nt H') → Tabs T H' → nt H p = none → H' p = some (.lst (L.map fun q => V.ref q.1)) → RowsT H' L → L.map (·.2) = brokenL ends dots ss ps o n wd → Q (.ref p) H'
abbrev nBrk : List Str := ["net", "wish", "changed"]
theorem sc_brk : FnScope nBrk ["net", "wish"] (defScope p_broken_moments) := ⟨rfl, rfl, rfl, by decide +kernel, rfl, by decide +kernel, by decide +kernel⟩
theorem ok_brk {f C : Addr} {fd : FuncData} {T : List (Addr × Str)} (F : Fun K "broken_moments" "broken_moments" p_broken_moments f fd) (NX : NetTxt K C) (Pg : Prp P w K mg base C 2 "changing" (spChanging C)) (C1 : Cal P w K mg base 5 "parts_of" ["lot"] (spParts (K := K) T))
    (C2 : Cal P w K mg base 4 "fault_at" ["net", "changed", "wish"] (spFaultAt (K := K) C)) : FnOk P w K mg base CX0 6 f fd ["net", "wish"] (spBrokenMoments T C) := by
  obtain ⟨p0, g0, fd0, at0, F0, b0⟩ := Pg.ex
  obtain ⟨f1, fd1, F1, k1, b1, g1⟩ := C1.ex
  obtain ⟨f2, fd2, F2, k2, b2, g2⟩ := C2.ex
  refine F.ok sc_brk (fun vs H Q E h => ?_) (fun cdv A outer s H vs Q E hr h => ?_)
  · obtain ⟨m, wd, ends, dots, ss, ps, o, n, rfl, _⟩ := h
    rfl
  · obtain ⟨m, wd, ends, dots, ss, ps, o, n, rfl, N, ok, tok, hT, k⟩ := h
    have nd := sc_brk.nd
    have e2 := ok.e2
    have d6 := ok.d6
    refine ⟨_, pss_one (ps_ret (pe_lc (own := [("changed", 2)]) (g := gName 2) (tt := tTest (tOp (fun x y H Q => y = .non ∧ Q (.bl (!decide (x = .non))) H) (tCall (spFaultAt (K := K) C) [] E0 (tCons (tVar 0) (tCons (tVar 2) (tCons (tVar 1) tNil)))) (tC .non))) (te := tVar 2) rfl nd
        (pi_list (pe_call F1 hr rfl g1 k1 b1 .nil pass0 (pa_cons (pe_prop (pv 0) NX.cl at0 F0 (hr.mono (by decide)) b0 .nil pass0 rfl) pa_nil))) (blkOk_by (own := [("changed", 2)]) (N := nBrk) (sc := defScope p_broken_moments) (by decide +kernel))
          (fun _ _ _ _ _ => pg_name (i := 2) nd rfl (Or.inl rfl)) (fun _ _ _ _ _ => pts_one (pt_cmpR op_notN (pe_call F2 (hr.mono (by decide)) rfl g2 k2 b2 .nil pass0 (pa_cons (pv 0) (pa_cons (pv 2) (pa_cons (pv 1) pa_nil)))) pe_non (nomark _))) (fun _ _ _ _ _ => pv 2))), ?_⟩
    obtain ⟨dx, T', N', S, Po, rows, h1, _⟩ := N.ex
    refine ⟨.ref m, rfl, m, dx, _, rfl, h1, m, ends, dots, ss, ps, o, n, rfl, N, by omega, by omega, ok.en, fun l H1 x1 _ hl => ?_⟩
    have ml : (moving ends dots o n).length ≤ 6 := Nat.le_trans (List.length_filter_le _ _) d6
    unfold brokenL at k
    generalize moving ends dots o n = ys at hl ml k
    refine ⟨l, ys, rfl, Evl.st_of hl, ml, hT.ext x1, fun p H2 L x2 T2 hp tL pL sL => ?_⟩
    have eL : L.map (·.2) = partsS ys := partsS_is pL sL
    have x02 := (nt_ex x1).trans x2
    have Ll : L.length ≤ 64 := by
      have := partsS_len (zs := ys) ml
      rw [← eL, List.length_map] at this
      exact this
    rw [← eL] at k
    refine ⟨p, rfl, ⟨_, Evl.sq_of hp⟩, fun D hD => lc_list (K := K) (a := p) (xs := L.map fun q => V.ref q.1)
      (fun i H' => Evl.Ex H2 H' ∧ H' D = some (.lst (((L.take i).filter fun q => badB ends dots ss ps o n q.2 wd).map fun q => V.ref q.1))) ⟨Evl.Ex.new hD, upd_same⟩ (fun i H' _ h => Evl.sq_of (h.1 _ _ hp)) ?_ ?_⟩
    · rintro i v H3 hi ⟨x3, d3⟩
      obtain ⟨q, hq, rfl⟩ := rowsT_at hi
      have mq := List.mem_of_getElem? hq
      have et : L.take (i + 1) = L.take i ++ [q] := by rw [List.take_add_one, hq]; rfl
      refine ⟨rfl, .ref m, rfl, .ref q.1, rfl, .str wd, rfl, m, q.1, wd, q.2, ends, dots, ss, ps, o, n, rfl, N.nt.to ((x02.trans (nt_ex x3)).trans (ex_nt H3)), ok, tok, Evl.st_of (x3 _ _ (tL q mq)), fun u H4 x4 pr => ?_⟩
      refine ⟨rfl, _, rfl, ?_⟩
      rw [pair_some pr, ← badB_fault]
      have d4 := x4 _ _ d3
      have few : ((L.take i).filter fun q => badB ends dots ss ps o n q.2 wd).length ≤ 64 := Nat.le_trans (List.length_filter_le _ _) (by rw [List.length_take]; omega)
      cases hb : badB ends dots ss ps o n q.2 wd with
      | true =>
        refine iteT ⟨.ref q.1, rfl, _, d4, by rw [List.length_map]; exact small1000 (by omega), (x3.trans x4).mut hD, ?_⟩
        rw [upd_same, et, List.filter_append, List.filter_cons_of_pos (by rw [hb]), List.map_append]
        rfl
      | false =>
        refine iteF ⟨x3.trans x4, ?_⟩
        rw [d4, et, List.filter_append, List.filter_cons_of_neg (by rw [hb]; decide), List.filter_nil, List.append_nil]
    · rintro H3 ⟨x3, d3⟩
      rw [List.length_map, List.take_length] at d3
      refine k D H3 _ (x02.trans (nt_ex x3)) (T2.ext x3) (nt_none x02 hD) d3 (fun q hq => x3 _ _ (tL q (List.mem_filter.mp hq).1)) ?_
      rw [List.filter_map]
      rfl
/-! ### moments_to_avoid -/
noncomputable def avoidL (ends dots ss ps : List Str) (o n : Str → List (Str × V)) (ws : List Str) : List (List Str) := ws.flatMap (brokenL ends dots ss ps o n)
def spAvoid (T : List (Addr × Str)) (C : Addr) : Sp := fun vs H Q _ => ∃ (m c : Addr) (ws ends dots ss ps : List Str) (o n : Str → List (Str × V)), vs = [.ref m, .ref c] ∧ NetAt C H m ends dots ss ps o n ∧ ModelOk ends dots ss ps ∧ TabsOk ends dots o n ∧ SqS K H c ws ∧ ws.length ≤ 4 ∧ Tabs T H ∧
  ∀ (p : Addr) (H' : Hp) (L : List (Addr × List Str)), Evl.Ex (nt H) (nt H') → Tabs T H' → nt H p = none → H' p = some (.lst (L.map fun q => V.ref q.1)) → RowsT H' L → L.map (·.2) = avoidL ends dots ss ps o n ws → Q (.ref p) H'
abbrev nAvoid : List Str := ["net", "wishes", "wish", "changed"]
theorem sc_avoid : FnScope nAvoid ["net", "wishes"] (defScope p_moments_to_avoid) := ⟨rfl, rfl, rfl, by decide +kernel, rfl, by decide +kernel, by decide +kernel⟩
theorem brokenL_len {ends dots ss ps : List Str} {o n : Str → List (Str × V)} {wd : Str} (h : (moving ends dots o n).length ≤ 6) : (brokenL ends dots ss ps o n wd).length ≤ 64 := Nat.le_trans (List.length_filter_le _ _) (partsS_len h)
theorem ok_avoid {f C : Addr} {fd : FuncData} {T : List (Addr × Str)} (F : Fun K "moments_to_avoid" "moments_to_avoid" p_moments_to_avoid f fd) (C1 : Cal P w K mg base 6 "broken_moments" ["net", "wish"] (spBrokenMoments T C)) : FnOk P w K mg base CX0 7 f fd ["net", "wishes"] (spAvoid (K := K) T C) := by
  obtain ⟨f1, fd1, F1, k1, b1, g1⟩ := C1.ex
  refine F.ok sc_avoid (fun vs H Q E h => ?_) (fun cdv A outer s H vs Q E hr h => ?_)
  · obtain ⟨m, c, ws, ends, dots, ss, ps, o, n, rfl, _⟩ := h
    rfl
  · obtain ⟨m, c, ws, ends, dots, ss, ps, o, n, rfl, N, ok, tok, hc, l4, hT, k⟩ := h
    have nd := sc_avoid.nd
    have ml : (moving ends dots o n).length ≤ 6 := Nat.le_trans (List.length_filter_le _ _) ok.d6
    -- the walk itself, over a list or a tuple of wishes
    have body : ∀ {J : It}, Walk J ws.length (fun H' => Evl.Ex (nt H) (nt H')) (fun i H1 x H2 => H2 = H1 ∧ (ws.map V.str)[i]? = some x) → ∀ D, H D = none → ∃ W : Nat → Nat → Hp → Prop, (∃ m, W 0 m (upd H D (.lst []))) ∧ ∀ i m' H', W i m' H' →
        (J.stop i H' ∧ Q (.ref D) H') ∨ (J.go i H' ∧ ∃ Nx : Hp → Prop, (∀ H'', Nx H'' → ∃ m'', m'' < m' ∧ W (i + 1) m'' H'') ∧ ∀ x H'', J.yld i H' x H'' → gName 2 x (wipe [some (.ref m), some (.ref c), none, none] [2, 3]) H'' fun σ2 H2 => wipe σ2 [2, 3] = wipe [some (.ref m), some (.ref c), none, none] [2, 3] ∧ tYes σ2 H2 fun b H3 =>
          if b = true then iList K (tCall (spBrokenMoments T C) [] E0 (tCons (tVar 0) (tCons (tVar 2) tNil))) σ2 H3 fun J1 H4 => ∃ W1 : Nat → Nat → Hp → Prop, (∃ m, W1 0 m H4) ∧ ∀ j k H, W1 j k H →
            (J1.stop j H ∧ Nx H) ∨ (J1.go j H ∧ ∃ Nx1 : Hp → Prop, (∀ H', Nx1 H' → ∃ k', k' < k ∧ W1 (j + 1) k' H') ∧ ∀ x H', J1.yld j H x H' → gName 3 x (wipe σ2 [3]) H' fun σ3 H5 => wipe σ3 [3] = wipe σ2 [3] ∧ tYes σ3 H5 fun b H6 =>
              if b = true then tVar 3 σ3 H6 fun y H7 => ∃ acc, H7 D = some (.lst acc) ∧ acc.length < sizeLine ∧ Nx1 (upd H7 D (.lst (acc ++ [y]))) else Nx1 H6)
          else Nx H3) := by
      intro J wk D hD
      refine lc2_out wk
        (fun i H' => Evl.Ex (nt H) (nt H') ∧ Tabs T H' ∧ ∃ L : List (Addr × List Str), H' D = some (.lst (L.map fun q => V.ref q.1)) ∧ RowsT H' L ∧ L.map (·.2) = avoidL ends dots ss ps o n (ws.take i) ∧ L.length ≤ 64 * i)
        ⟨nt_new hD, hT.ext (Evl.Ex.new hD), [], upd_same, (fun q hq => nomatch hq), rfl, Nat.le_refl _⟩ (fun i H' _ h => h.1) ?_ ?_
      · rintro i x H1 H1' hi ⟨x1, T1, L, d1, t1, e1, l1⟩ ⟨rfl, hx⟩
        obtain ⟨wd, hw, rfl⟩ := str_at hx
        have et : ws.take (i + 1) = ws.take i ++ [wd] := by rw [List.take_add_one, hw]; rfl
        refine ⟨rfl, yes_if ?_⟩
        refine ⟨.ref m, rfl, .str wd, rfl, m, wd, ends, dots, ss, ps, o, n, rfl, N.nt.to (x1.trans (ex_nt H1')), ok, tok, T1, fun p H2 M x2 T2 fp hp tM eM => ?_⟩
        have Ml : M.length ≤ 64 := by
          have := congrArg List.length eM
          rw [List.length_map] at this
          rw [this]
          exact brokenL_len ml
        have npD : p ≠ D := fun z => by
          rw [z, nt_lst d1] at fp
          cases fp
        have d2 : H2 D = some (.lst (L.map fun q => V.ref q.1)) := (nt_some (x2 _ _ (nt_lst d1))).1
        have t2 : RowsT H2 L := t1.nt.to (x2.trans (ex_nt H2))
        refine ⟨p, rfl, ⟨_, Evl.sq_of hp⟩, lc2_in (walk_list (xs := M.map fun q => V.ref q.1))
          (fun j H' => Evl.Ex (nt H) (nt H') ∧ Tabs T H' ∧ H' p = some (.lst (M.map fun q => V.ref q.1)) ∧ RowsT H' M ∧ RowsT H' L ∧ H' D = some (.lst ((L ++ M.take j).map fun q => V.ref q.1)))
          ⟨x1.trans x2, T2, hp, tM, t2, by rw [List.take_zero, List.append_nil]; exact d2⟩ (fun j H' _ h => Evl.sq_of h.2.2.1) ?_ ?_⟩
        · rintro j v H3 H3' hj ⟨x3, T3, p3, tM3, t3, d3⟩ ⟨rfl, hv⟩
          obtain ⟨q, hq, rfl⟩ := rowsT_at hv
          have em : M.take (j + 1) = M.take j ++ [q] := by rw [List.take_add_one, hq]; rfl
          refine ⟨rfl, yes_if ⟨.ref q.1, rfl, _, d3, ?_, nt_mutL x3 hD, tabs_mutL T3 d3, by rw [upd_ne npD]; exact p3, tM3.mut d3, t3.mut d3, ?_⟩⟩
          · rw [List.length_map, List.length_append, List.length_take]
            exact small1000 (by omega)
          · rw [upd_same, em, ← List.append_assoc, List.map_append (l₂ := [q])]
            rfl
        · rintro H3 ⟨x3, T3, p3, tM3, t3, d3⟩
          rw [List.length_map, List.take_length] at d3
          refine ⟨x3, T3, L ++ M, d3, t3.app tM3, ?_, by rw [List.length_append]; omega⟩
          rw [List.map_append, e1, eM, et]
          unfold avoidL
          rw [List.flatMap_append, List.flatMap_singleton]
      · rintro H1 ⟨x1, T1, L, d1, t1, e1, l1⟩
        rw [List.take_length] at e1
        exact k D H1 L x1 T1 (nt_free hD) d1 t1 e1
    rcases hc with hc | hc
    · refine ⟨_, pss_one (ps_ret (pe_lc2 (own := [("wish", 2), ("changed", 3)]) (vs1 := [3]) (g := gName 2) (tt := tYes) (g1 := gName 3) (tt1 := tYes) (wi1 := iList K (tCall (spBrokenMoments T C) [] E0 (tCons (tVar 0) (tCons (tVar 2) tNil)))) (te := tVar 3) rfl nd (pi_list (pv 1)) (blkOk_by (own := [("wish", 2), ("changed", 3)]) (N := nAvoid) (sc := defScope p_moments_to_avoid) (by decide +kernel)) (by decide)
            (fun _ _ _ _ _ => pg_name (i := 2) nd rfl (Or.inl rfl)) (fun _ _ _ _ _ => pts_nil) (fun _ _ _ _ _ => pi_list (pe_call F1 hr rfl g1 k1 b1 .nil pass0 (pa_cons (pv 0) (pa_cons (pv 2) pa_nil))))
            (fun _ _ _ _ _ => pg_name (i := 3) nd rfl (Or.inl rfl)) (fun _ _ _ _ _ => pts_nil) (fun _ _ _ _ _ => pv 3))), ?_⟩
      refine ⟨.ref c, rfl, c, rfl, ⟨_, hc⟩, fun D hD => body ?_ D hD⟩
      have wk := walk_list (K := K) (a := c) (xs := ws.map V.str)
      rw [List.length_map] at wk
      exact ⟨fun i H' hi g => wk.goes i H' hi (Evl.ex_l (g.trans (ex_nt H')) (sql_nt hc)), fun H' g => wk.stops H' (Evl.ex_l (g.trans (ex_nt H')) (sql_nt hc)), fun i H1 x H2 hi g y => wk.yields i H1 x H2 hi (Evl.ex_l (g.trans (ex_nt H1)) (sql_nt hc)) y⟩
    · refine ⟨_, pss_one (ps_ret (pe_lc2 (own := [("wish", 2), ("changed", 3)]) (vs1 := [3]) (g := gName 2) (tt := tYes) (g1 := gName 3) (tt1 := tYes) (wi1 := iList K (tCall (spBrokenMoments T C) [] E0 (tCons (tVar 0) (tCons (tVar 2) tNil)))) (te := tVar 3) rfl nd (pi_tup (pv 1)) (blkOk_by (own := [("wish", 2), ("changed", 3)]) (N := nAvoid) (sc := defScope p_moments_to_avoid) (by decide +kernel)) (by decide)
            (fun _ _ _ _ _ => pg_name (i := 2) nd rfl (Or.inl rfl)) (fun _ _ _ _ _ => pts_nil) (fun _ _ _ _ _ => pi_list (pe_call F1 hr rfl g1 k1 b1 .nil pass0 (pa_cons (pv 0) (pa_cons (pv 2) pa_nil))))
            (fun _ _ _ _ _ => pg_name (i := 3) nd rfl (Or.inl rfl)) (fun _ _ _ _ _ => pts_nil) (fun _ _ _ _ _ => pv 3))), ?_⟩
      refine ⟨.ref c, rfl, c, rfl, ⟨_, hc⟩, fun D hD => body ?_ D hD⟩
      have wk := walk_tup (K := K) (a := c) (xs := ws.map V.str)
      rw [List.length_map] at wk
      exact ⟨fun i H' hi g => wk.goes i H' hi (Evl.ex_t (g.trans (ex_nt H')) (sqt_nt hc)), fun H' g => wk.stops H' (Evl.ex_t (g.trans (ex_nt H')) (sqt_nt hc)), fun i H1 x H2 hi g y => wk.yields i H1 x H2 hi (Evl.ex_t (g.trans (ex_nt H1)) (sqt_nt hc)) y⟩
end
end Rw
end T_U1

section T_U7
set_option Elab.async false
set_option linter.all false
set_option maxRecDepth 100000
set_option maxHeartbeats 16000000
namespace Rw
open PySem L2 PyProof.Rows LamX
theorem few_plan {brk : List Str → Bool} {ys : List Str} (nd : ys.Nodup) : ∀ {k : Nat} {d : List Str} {l : List (List Str)}, Few brk ys k d → PlanFrom brk ys d l → ∃ l', PlanFrom brk ys [] l' ∧ l'.length = k + l.length := by
  intro k
  induction k with
  | zero =>
    intro d l h p
    rw [few_zero] at h
    subst h
    exact ⟨l, p, (Nat.zero_add _).symm⟩
  | succ k ih =>
    intro d l h p
    obtain ⟨d', q, h1, h2, rfl⟩ := few_below h
    have ne : q ≠ [] := fun z => by
      subst z
      rw [mixS_nil nd h1.1.sub] at h
      have := few_uniq h h1
      omega
    obtain ⟨l', g1, g2⟩ := ih h1 (p.step h2 ne)
    exact ⟨l', g1, by rw [g2, List.length_cons]; omega⟩
theorem plan_rch {brk : List Str → Bool} {ys : List Str} : ∀ {l : List (List Str)} {d : List Str}, PlanFrom brk ys d l → ∀ {k : Nat}, Rch brk ys k d → Rch brk ys (k + l.length) ys := by
  intro l d h
  induction h with
  | done _ => exact fun r => r
  | @step d p l h1 h2 h3 ih =>
    intro k r
    have := ih (r.step h1)
    rw [List.length_cons]
    rw [show k + (l.length + 1) = k + 1 + l.length by omega]
    exact this
/-- what is told of the fewest rounds -/
def FewestR (H : Hp) (p : Addr) (brk : List Str → Bool) (ys : List Str) : Prop :=
  (∃ (l : Addr) (L : List (Addr × List Str)) (N : List (List Str × Nat)), H p = some (.tup [.str "never", .ref l]) ∧ H l = some (.lst (L.map fun q => V.ref q.1)) ∧ RowsT H L ∧ NumsOk brk ys N ∧ L.map (·.2) = lexL (N.map (·.1)) ∧ (safeS brk ys ys = [] ∨ ∀ k, ¬ Few brk ys k ys)) ∨
  (∃ (l D : Addr) (L : List (Addr × List Str)) (N N' : List (List Str × Nat)) (k : Nat), H p = some (.tup [.str "plan", .ref l, .ref D]) ∧ H l = some (.lst (L.map fun q => V.ref q.1)) ∧ RowsT H L ∧ Few brk ys k ys ∧ safeS brk ys ys ≠ [] ∧ 0 < cnt brk ys k [] ∧ L.map (·.2) = planOf brk ys k [] 0 ∧
    NumsOk brk ys N ∧ H D = some (.dT (kI N')) ∧ N'.map (·.1) = lexL (N.map (·.1)) ∧ ∀ t ∈ N', t ∈ N)
/-- the list in what is told is new -/
def NewL (H0 H : Hp) (p : Addr) : Prop := ∃ (v : V) (l : Addr) (r : List V), H p = some (.tup (v :: .ref l :: r)) ∧ H0 l = none
section
variable {P : Program} {w : World} {K : PySem.W.Frag} {mg : Str → Option Value} {base : Heap}
noncomputable def brkOf (ends dots ss ps : List Str) (o n : Str → List (Str × V)) (ws : List Str) : List Str → Bool := fun on => decide (on ∈ avoidL ends dots ss ps o n ws)
def spFewest (T : List (Addr × Str)) (C : Addr) : Sp := fun vs H Q _ => ∃ (m c : Addr) (ws ends dots ss ps : List Str) (o n : Str → List (Str × V)), vs = [.ref m, .ref c] ∧ NetAt C H m ends dots ss ps o n ∧ ModelOk ends dots ss ps ∧ TabsOk ends dots o n ∧ SqS K H c ws ∧ ws.Nodup ∧ (∀ x ∈ ws, x ∈ wishesL) ∧ Tabs T H ∧
  ∀ (p : Addr) (H' : Hp), Evl.Ex (nt H) (nt H') → Tabs T H' → FewestR H' p (brkOf ends dots ss ps o n ws) (moving ends dots o n) → NewL (nt H) H' p → Q (.ref p) H'
abbrev nFewest : List Str := ["net", "wishes", "safe", "numbers", "many", "plan", "lot"]
theorem sc_fewest : FnScope nFewest ["net", "wishes"] (defScope p_fewest) := ⟨rfl, rfl, rfl, by decide +kernel, rfl, by decide +kernel, by decide +kernel⟩
theorem ok_fewest {f C : Addr} {fd : FuncData} {T : List (Addr × Str)} (F : Fun K "fewest" "fewest" p_fewest f fd) (NX : NetTxt K C) (Pg : Prp P w K mg base C 2 "changing" (spChanging C)) (C1 : Cal P w K mg base 1 "check_net" ["net"] (spCheckNet C)) (C3 : Cal P w K mg base 3 "check_wishes" ["wishes"] (spCheckWishes (K := K)))
    (C4 : Cal P w K mg base 7 "moments_to_avoid" ["net", "wishes"] (spAvoid (K := K) T C)) (C5 : Cal P w K mg base 6 "safe_rounds" ["changing", "broken"] (spSafeRounds (K := K) T)) (C6 : Cal P w K mg base 2 "round_numbers" ["safe"] spNums) (C7 : Cal P w K mg base 3 "rounds_needed" ["changing", "safe"] spNeeded)
    (C8 : Cal P w K mg base 2 "plan_counts" ["changing", "safe", "many"] spCounts) (C9 : Cal P w K mg base 2 "plan_with_place" ["counts", "safe", "place"] spPlanAt) (mSorted : mg "sorted" = none) : FnOk P w K mg base CX0 8 f fd ["net", "wishes"] (spFewest (K := K) T C) := by
  obtain ⟨p0, g0, fd0, at0, F0, b0⟩ := Pg.ex
  obtain ⟨f1, fd1, F1, k1, b1, g1⟩ := C1.ex
  obtain ⟨f3, fd3, F3, k3, b3, g3⟩ := C3.ex
  obtain ⟨f4, fd4, F4, k4, b4, g4⟩ := C4.ex
  obtain ⟨f5, fd5, F5, k5, b5, g5⟩ := C5.ex
  obtain ⟨f6, fd6, F6, k6, b6, g6⟩ := C6.ex
  obtain ⟨f7, fd7, F7, k7, b7, g7⟩ := C7.ex
  obtain ⟨f8, fd8, F8, k8, b8, g8⟩ := C8.ex
  obtain ⟨f9, fd9, F9, k9, b9, g9⟩ := C9.ex
  refine F.ok sc_fewest (fun vs H Q E h => ?_) (fun cdv A outer s H vs Q E hr h => ?_)
  · obtain ⟨m, c, ws, ends, dots, ss, ps, o, n, rfl, _⟩ := h
    rfl
  · obtain ⟨m, c, ws, ends, dots, ss, ps, o, n, rfl, N, ok, tok, hc, hn, hs, hT, k⟩ := h
    have ndN := sc_fewest.nd
    have hu := hu_of hr
    have r1 : Room 1 _ := hr.mono (by decide)
    have r2 : Room 2 _ := hr.mono (by decide)
    have r3 : Room 3 _ := hr.mono (by decide)
    have r6 : Room 6 _ := hr.mono (by decide)
    have e2 := ok.e2
    have d6 := ok.d6
    have l4 : ws.length ≤ 4 := nodup_le ws wishesL hn hs
    have ml : (moving ends dots o n).length ≤ 6 := Nat.le_trans (List.length_filter_le _ _) d6
    have mnd : (moving ends dots o n).Nodup := ok.dn.sublist List.filter_sublist
    have mso : sortedS (moving ends dots o n) = true := sorted_sub List.filter_sublist ok.ds
    have mnm : ∀ z ∈ moving ends dots o n, Nm z := fun z hz => ok.dm z (moving_sub hz)
    refine ⟨_, pss_cons (ps_expr (pe_call F1 r1 rfl g1 k1 b1 .nil pass0 (pa_cons (pv 0) pa_nil)))
      (pss_cons (ps_expr (pe_call F3 r3 rfl g3 k3 b3 .nil pass0 (pa_cons (pv 1) pa_nil)))
      (pss_cons (ps_set (i := 2) ndN rfl (.inl rfl) (pe_call F5 r6 rfl g5 k5 b5 .nil pass0 (pa_cons (pe_prop (pv 0) NX.cl at0 F0 r3 b0 .nil pass0 rfl) (pa_cons (pe_call F4 hr rfl g4 k4 b4 .nil pass0 (pa_cons (pv 0) (pa_cons (pv 1) pa_nil))) pa_nil))))
      (pss_cons (ps_set (i := 3) ndN rfl (.inr rfl) (pe_call F6 r2 rfl g6 k6 b6 .nil pass0 (pa_cons (pv 2) pa_nil)))
      (pss_cons (ps_set (i := 4) ndN rfl (.inl rfl) (pe_call F7 r3 rfl g7 k7 b7 .nil pass0 (pa_cons (pe_prop (pv 0) NX.cl at0 F0 r3 b0 .nil pass0 rfl) (pa_cons (pv 2) pa_nil))))
      (pss_cons (ps_if (pt_cmpR op_isN (pv 4) pe_non (nomark _)) (pss_one (ps_ret (pe_tup (pa_cons pe_str (pa_cons (pe_callB (cr_sortDT rfl (Nat.lt_of_le_of_lt (Nat.add_le_add_left (by decide) _) (un65 hr))) (by rfl) mSorted (by decide +kernel) (pa_cons (pv 3) pa_nil)) pa_nil))))) pss_nil)
      (pss_cons (ps_set (i := 5) ndN rfl (.inl rfl) (pe_call F9 r2 rfl g9 k9 b9 .nil pass0 (pa_cons (pe_call F8 r2 rfl g8 k8 b8 .nil pass0 (pa_cons (pe_prop (pv 0) NX.cl at0 F0 r3 b0 .nil pass0 rfl) (pa_cons (pv 2) (pa_cons (pv 4) pa_nil)))) (pa_cons (pv 2) (pa_cons pe_int pa_nil)))))
      (pss_one (ps_ret (pe_tup (pa_cons pe_str (pa_cons (pv 5) (pa_cons (pe_dcT (own := [("lot", 6)]) (g := gName 6) (tt := tYes) (tk := tVar 6) (tv := tDGet (tVar 3) (tVar 6)) hu rfl ndN (pi_list (pe_callB (cr_sortDT rfl (Nat.lt_of_le_of_lt (Nat.add_le_add_left (by decide) _) (un65 hr))) (by rfl) mSorted (by decide +kernel) (pa_cons (pv 3) pa_nil))) (blkOk_by (own := [("lot", 6)]) (N := nFewest) (sc := defScope p_fewest) (by decide +kernel))
          (fun _ _ _ _ _ => pg_name (i := 6) ndN rfl (Or.inl rfl)) (fun _ _ _ _ _ => pts_nil) (fun _ _ _ _ _ => pv 6) (fun _ _ _ _ _ => pe_dget hu (pv 3) (pv 6) (fun _ _ => rfl))) pa_nil)))))))))))), ?_⟩
    refine ⟨.ref m, rfl, m, ends, dots, ss, ps, o, n, rfl, N, ?_⟩
    refine ⟨.ref c, rfl, c, ws, rfl, hc, hn, hs, by omega, fun H1 x1 => ?_⟩
    obtain ⟨dx, T', N', S, Po, rows, h1, _⟩ := N.ex
    have hn1 : nt H m = some (.ins C dx (nflds T' N' S Po)) := nt_of h1 fun _ z => by cases z
    generalize hys : moving ends dots o n = ys at k ml mnd mso mnm
    generalize hbk : brkOf ends dots ss ps o n ws = bk at k
    -- safe
    have z1 : Evl.Ex (nt H) H1 := (ex_nt H).trans x1
    refine ⟨.ref m, rfl, m, dx, _, rfl, z1 _ _ hn1, m, ends, dots, ss, ps, o, n, rfl, N.to x1, by omega, by omega, ok.en, fun l1 H2 x2 _ hl1 => ?_⟩
    rw [hys] at hl1
    have x12 := x1.trans x2
    refine ⟨.ref m, rfl, .ref c, rfl, m, c, ws, ends, dots, ss, ps, o, n, rfl, N.to x12, ok, tok, hc.ex x12, l4, hT.ext x12, fun pb H3 B x3 T3 _ hpb tB eB => ?_⟩
    have lB : B.length ≤ 256 := by
      have h2 := congrArg List.length eB
      rw [List.length_map] at h2
      rw [h2]
      unfold avoidL
      have main : ∀ l : List Str, (l.flatMap (brokenL ends dots ss ps o n)).length ≤ 64 * l.length := fun l => by
        induction l with
        | nil => exact Nat.le_refl _
        | cons z l ih =>
          rw [List.flatMap_cons, List.length_append, List.length_cons]
          have := brokenL_len (ends := ends) (dots := dots) (ss := ss) (ps := ps) (o := o) (n := n) (wd := z) (by rw [hys]; exact ml)
          omega
      exact Nat.le_trans (main ws) (by omega)
    have y3 := x3.trans (ex_nt H3)
    refine ⟨l1, pb, ys, B, rfl, Evl.st_of (y3 _ _ (nt_tup hl1)), ml, mnd, mso, hpb, tB, lB, T3, fun sp H4 x4 T4 _ S4 => ?_⟩
    have ebk : (fun on => decide (on ∈ B.map (·.2))) = bk := by rw [eB, ← hbk]; rfl
    rw [ebk] at S4
    have x04 := (nt_ex x12).trans (x3.trans x4)
    -- numbers
    refine ⟨.ref sp, rfl, sp, bk, ys, rfl, S4, ml, mnd, mso, fun nb H5 NN x5 _ hnb nok n64 => ?_⟩
    have x05 := x04.trans (nt_ex x5)
    -- many
    have z5 := x05.trans (ex_nt H5)
    refine ⟨.ref m, rfl, m, dx, _, rfl, z5 _ _ hn1, m, ends, dots, ss, ps, o, n, rfl, N.nt.to z5, by omega, by omega, ok.en, fun l2 H6 x6 _ hl2 => ?_⟩
    rw [hys] at hl2
    refine ⟨.ref sp, rfl, l2, sp, bk, ys, rfl, hl2, S4.to (x5.trans x6), ml, mnd, mso, fun H7 mv x7 hmv => ?_⟩
    have x57 := x6.trans x7
    have x07 := x05.trans (nt_ex x57)
    have hnb7 := x57 _ _ hnb
    have T7 : Tabs T H7 := T4.ext (x5.trans x57)
    have S7 := S4.to (x5.trans x57)
    have kkeys : (kI NN).map (·.1) = (NN.map (·.1)).map (fun p => p.map Sum.inr) := by
      unfold kI
      rw [List.map_map, List.map_map]
      rfl
    have khead : ∀ p, (NN.map (·.1)).head? = some p → p = [] := fun p hp => by
      rw [List.head?_map, nok.hd] at hp
      exact (Option.some.inj hp).symm
    refine ⟨mv, rfl, rfl, _, rfl, ?_⟩
    rcases hmv with ⟨rfl, no⟩ | ⟨kk, rfl, few, ne, k64⟩
    · refine iteT ⟨.ref nb, rfl, nb, _, NN.map (·.1), rfl, .inl hnb7, kkeys, khead, fun L lp pm sr tL hlp => ?_⟩
      have y8 : Evl.Ex H7 (upd H7 lp (.lst (L.map fun q => V.ref q.1))) := Evl.Ex.new hlp
      have l8 : (upd H7 lp (.lst (L.map fun q => V.ref q.1))) lp = some (.lst (L.map fun q => V.ref q.1)) := upd_same
      generalize upd H7 lp (.lst (L.map fun q => V.ref q.1)) = H8 at y8 l8
      refine ⟨by show 2 ≤ sizeLine; decide, fun t ht => k t _ (x07.trans (nt_ex (y8.trans (Evl.Ex.new ht)))) (T7.ext (y8.trans (Evl.Ex.new ht))) (.inl ⟨lp, L, NN, upd_same, (Evl.Ex.new ht) _ _ l8, (tL.to y8).to (Evl.Ex.new ht), nok, lexL_is pm sr, no⟩) ⟨_, lp, _, upd_same, nt_none x07 hlp⟩⟩
    · have z7 := x07.trans (ex_nt H7)
      refine iteF ⟨.ref m, rfl, m, dx, _, rfl, z7 _ _ hn1, m, ends, dots, ss, ps, o, n, rfl, N.nt.to z7, by omega, by omega, ok.en, fun l3 H8 x8 _ hl3 => ?_⟩
      rw [hys] at hl3
      refine ⟨.ref sp, rfl, .int (kk : Int), rfl, l3, sp, kk, bk, ys, rfl, hl3, S7.to x8, ml, mnd, mso, mnm, k64, fun co H9 Cs x9 _ CD lC => ?_⟩
      obtain ⟨l', pf, lp'⟩ := few_plan mnd few (PlanFrom.done ne)
      have pos : 0 < cnt bk ys kk [] := by
        have := cnt_pos pf
        rw [lp'] at this
        exact this
      refine ⟨.ref sp, rfl, co, sp, kk, 0, bk, ys, Cs, rfl, CD, lC, S7.to (x8.trans x9), ml, mnd, mso, k64, pos, fun pl H10 L x10 hpl0 hpl tL eL => ?_⟩
      have x710 := (x8.trans x9).trans x10
      have hnb10 := x710 _ _ hnb7
      refine ⟨.ref pl, rfl, .ref nb, rfl, nb, _, NN.map (·.1), rfl, .inl hnb10, kkeys, khead, fun L2 lp pm sr tL2 hlp => ?_⟩
      have y11 : Evl.Ex H10 (upd H10 lp (.lst (L2.map fun q => V.ref q.1))) := Evl.Ex.new hlp
      have l11 : (upd H10 lp (.lst (L2.map fun q => V.ref q.1))) lp = some (.lst (L2.map fun q => V.ref q.1)) := upd_same
      generalize upd H10 lp (.lst (L2.map fun q => V.ref q.1)) = H11 at y11 l11
      have tL11 := tL2.to y11
      have hnb11 := y11 _ _ hnb10
      have L2nd : (L2.map (·.2)).Nodup := pm.nodup_iff.mpr nok.nd
      have L2l : L2.length ≤ 64 := by
        have := pm.length_eq
        rw [List.length_map, List.length_map] at this
        omega
      refine ⟨lp, rfl, ⟨_, Evl.sq_of l11⟩, fun D hD => dcT_it (walk_list (K := K) (a := lp) (xs := L2.map fun q => V.ref q.1))
        (fun i H' => Evl.Ex H11 H' ∧ ∃ N2 : List (List Str × Nat), H' D = some (.dT (kI N2)) ∧ N2.map (·.1) = (L2.take i).map (·.2) ∧ ∀ t ∈ N2, t ∈ NN) ⟨Evl.Ex.new hD, [], upd_same, rfl, fun t ht => nomatch ht⟩ (fun i H' _ h => Evl.sq_of (h.1 _ _ l11)) ?_ ?_⟩
      · rintro i v H12 H12' hi ⟨x12', N2, d12, e12, a12⟩ ⟨rfl, hx⟩
        obtain ⟨q, hq, rfl⟩ := rowsT_at hx
        have mq := List.mem_of_getElem? hq
        have ei : (L2.take (i + 1)).map (·.2) = (L2.take i).map (·.2) ++ [q.2] := by rw [List.take_add_one, hq, List.map_append]; rfl
        have tq := x12' _ _ (tL11 q mq)
        obtain ⟨t, ht, et⟩ := List.mem_map.mp (pm.mem_iff.mp (List.mem_map_of_mem (f := Prod.snd) mq))
        have g := kI_get nok.nd ht
        rw [et] at g
        have new : q.2 ∉ N2.map (·.1) := fun mm => by
          rw [e12] at mm
          have h2 : ((L2.take (i + 1)).map (·.2)).Nodup := L2nd.sublist ((List.take_sublist _ _).map _)
          rw [ei] at h2
          exact (List.nodup_append.mp h2).2.2 _ mm _ (List.mem_singleton.mpr rfl) rfl
        have N2l : N2.length ≤ 64 := by
          have h2 := congrArg List.length e12
          rw [List.length_map, List.length_map, List.length_take] at h2
          omega
        refine ⟨rfl, yes_if ⟨.ref q.1, rfl, .ref nb, rfl, .ref q.1, rfl, nb, .int (t.2 : Int), rfl, .inr ⟨_, q.2.map Sum.inr, q.1, .inl (x12' _ _ hnb11), rfl, by rw [keyS]; exact tq, g.symm⟩, _, q.2.map Sum.inr, q.1, rfl, by rw [keyS]; exact tq, d12, by rw [kI_len]; exact small1000 (by omega), x12'.mut hD, N2 ++ [(q.2, t.2)], by rw [upd_same, kI_new new], by rw [List.map_append, e12, ei]; rfl, fun u hu' => ?_⟩⟩
        rcases List.mem_append.mp hu' with hu' | hu'
        · exact a12 u hu'
        · rw [List.mem_singleton.mp hu', ← et]
          exact ht
      · rintro H12 ⟨x12', N2, d12, e12, a12⟩
        rw [List.length_map, List.take_length] at e12
        have xl := y11.trans x12'
        refine ⟨by show 3 ≤ sizeLine; decide, fun t ht => ?_⟩
        have yt : Evl.Ex H12 (upd H12 t (.tup [.str "plan", .ref pl, .ref D])) := Evl.Ex.new ht
        refine k t _ (x07.trans (nt_ex ((x710.trans xl).trans yt))) (T7.ext ((x710.trans xl).trans yt)) (.inr ⟨pl, D, L, NN, N2, kk, upd_same, (xl.trans yt) _ _ hpl, tL.to (xl.trans yt), few, ne, pos, eL, nok, yt _ _ d12, ?_, a12⟩) ⟨_, pl, _, upd_same, nt_none (x07.trans (nt_ex (x8.trans x9))) hpl0⟩
        rw [e12]
        exact lexL_is pm sr
end
end Rw
end T_U7

section T_BF
set_option Elab.async false
set_option linter.all false
set_option maxRecDepth 100000
set_option maxHeartbeats 8000000
namespace Rw
open PySem L2 PyProof.Rows
theorem nowTab_get {dots : List Str} {o n : List (Str × V)} {on : List Str} {z : Str} (nd : dots.Nodup) (hz : z ∈ dots) : valV (tkv (nowTab dots o n on)) (Sum.inr z) = some (look (if z ∈ on then n else o) z) :=
  tkv_val (by rw [nowTab_keys]; exact nd) (List.mem_map_of_mem (f := fun z => (z, look (if z ∈ on then n else o) z)) hz)
theorem nowTab_none {dots : List Str} {o n : List (Str × V)} {on : List Str} {z : Str} (hz : z ∉ dots) : valV (tkv (nowTab dots o n on)) (Sum.inr z) = none :=
  tkv_none (by rw [nowTab_keys]; exact hz)
section
variable {P : Program} {w : World} {K : PySem.W.Frag} {mg : Str → Option Value} {base : Heap}
/-! ### where a packet is led -/
def spRowS (K : PySem.W.Frag) : Sp := fun vs H Q _ => ∃ (m a nb tb sb pb : Addr) (e z : Str) (on ends dots ss ps : List Str) (rows : List (Str × V)) (o n : Str → List (Str × V)), vs = [.ref m, .ref a, .str e, .str z] ∧ ModelR H m nb tb sb pb ends dots ss ps rows o n ∧ (SqL K H a (on.map V.str) ∨ SqT K H a (on.map V.str)) ∧ e ∈ ends ∧ z ∈ dots ∧
  ∀ p H', Evl.Ex H H' → H p = none → H' p = some (.lst (walkOf (nowTab dots (o e) (n e) on) (dots.length + 1) z)) → Q (.ref p) H'
abbrev nRowS : List Str := ["model", "turned", "target", "node", "first", "later", "found", "here", "step"]
theorem sc_rowS : FnScope nRowS ["model", "turned", "target", "node"] (defScope s_row) := ⟨rfl, rfl, rfl, by decide +kernel, rfl, by decide +kernel, by decide +kernel⟩
theorem ok_rowS {f : Addr} {fd : FuncData} (F : Fun K "_law_row" "_law_row" s_row f fd) (mRange : mg "range" = none) (mLen : mg "len" = none) : FnOk P w K mg base CX0 1 f fd ["model", "turned", "target", "node"] (spRowS K) := by
  refine F.ok sc_rowS (fun vs H Q E h => ?_) (fun cdv A outer s H vs Q E hr h => ?_)
  · obtain ⟨m, a, nb, tb, sb, pb, e, z, on, ends, dots, ss, ps, rows, o, n, rfl, _⟩ := h
    rfl
  · obtain ⟨m, a, nb, tb, sb, pb, e, z, on, ends, dots, ss, ps, rows, o, n, rfl, MS, ha, he, hz, k⟩ := h
    have nd := sc_rowS.nd
    have hu := hu_of hr
    refine ⟨_, pss_cons (ps_asg (pe_dget hu (pe_dget hu (pv 0) pe_str (fun _ _ => rfl)) (pv 2) (fun _ _ => rfl)) (pg_tup rfl (pgs_cons (pg_name (i := 4) nd rfl (.inl rfl)) (pgs_cons (pg_name (i := 5) nd rfl (.inl rfl)) pgs_nil))))
      (pss_cons (ps_par (i := 6) (j := 7) (by rfl) nd rfl rfl (by decide) rfl rfl (pa_cons (pe_lst (pa_cons (pv 3) pa_nil)) (pa_cons (pv 3) pa_nil)) (by rfl))
      (pss_cons (ps_for PassesOwn.never rfl (pi_range1 (by rfl) mRange (pa_cons (pe_op op_add (pe_callB call_len (by rfl) mLen PySem.boot_len (pa_cons (pe_dget hu (pv 0) pe_str (fun _ _ => rfl)) pa_nil)) pe_int) pa_nil)) (pg_name (i := 8) nd rfl (.inl rfl))
        (pss_one (ps_if (PW.pt (pw_and (pt_cmpR op_in_seq (pv 7) (pe_dget hu (pv 0) pe_str (fun _ _ => rfl)) rfl) (pw_and1 (pt_cmpR op_notIn_seq (pv 7) (pe_slice sl_list (pv 6) po_none (po_some (pe_un un_neg pe_int))) rfl))))
          (pss_cons (ps_set (i := 7) nd rfl (.inl rfl) (pe_ifExp (pt_cmpR op_in_seq (pv 7) (pv 1) rfl) (pe_dget hu (pv 5) (pv 7) (fun _ _ => rfl)) (pe_dget hu (pv 4) (pv 7) (fun _ _ => rfl))))
          (pss_one (ps_expr (pe_bm PySem.F.plainAttrs_list PySem.F.slot_list_append PySem.F.type_list_append mt_append (pv 6) (pa_cons (pv 7) pa_nil))))) pss_nil)))
      (pss_one (ps_ret (pv 6))))), ?_⟩
    have ok := MS.ok
    have d6 := ok.d6
    obtain ⟨pr, po, pn, hv, pa⟩ := MS.ra e he
    have TL : LeadOk dots (nowTab dots (o e) (n e) on) := nowTab_lead pa.o1 pa.o2 ok.dm (ok.em e he)
    refine ⟨.ref m, rfl, m, _, rfl, dgK MS.hm (mkS_tables _ _ _ _), .str e, rfl, tb, _, rfl, dgR (k := Sum.inr e) MS.ht hv, pr, _, rfl, Evl.st_of pa.hp, rfl, _, _, rfl, _, [], rfl, rfl, ?_⟩
    refine ⟨.str z, rfl, by show 1 ≤ sizeLine; decide, fun p hp => ⟨.str z, rfl, _, _, rfl, ?_⟩⟩
    have x1 : Evl.Ex H (upd H p (.lst [.str z])) := Evl.Ex.new hp
    have p1 : (upd H p (.lst [.str z])) p = some (.lst (([] : List Str).map V.str ++ [.str z])) := upd_same
    generalize upd H p (.lst [.str z]) = H1 at x1 p1
    refine ⟨.ref m, rfl, m, _, rfl, dgK (x1 _ _ MS.hm) (mkS_nodes _ _ _ _), .ref nb, (dots.map V.str).length, rfl, .inl ⟨_, Evl.sq_of (x1 _ _ MS.hn), rfl⟩, ((dots.map V.str).length : Int), 1, rfl, rfl, ((dots.map V.str).length : Int) + 1, rfl, by rw [List.length_map]; omega, by rw [List.length_map]; omega, for_range (lo := 0) (n := (((dots.map V.str).length : Int) + 1).toNat)
      (fun i σ H' => ∃ (x8 : Option V) (zs : List Str) (v : V), σ = [some (.ref m), some (.ref a), some (.str e), some (.str z), some (.ref po), some (.ref pn), some (.ref p), some v, x8] ∧ Evl.Ex H H' ∧ H' p = some (.lst (zs.map V.str ++ [v])) ∧ zs.Nodup ∧ (∀ y ∈ zs, y ∈ dots) ∧ Spot v ∧
        track (nowTab dots (o e) (n e) on) (dots.length + 1 - i) zs v = walkOf (nowTab dots (o e) (n e) on) (dots.length + 1) z)
      ⟨none, [], .str z, rfl, x1, p1, List.nodup_nil, (fun y hy => by cases hy), .inr ⟨z, rfl, ok.dm z hz⟩, rfl⟩ ?_ ?_⟩
    · rintro i σ H2 hi ⟨x8, zs, v, rfl, x2, p2, znd, zd, hv', tr⟩
      have hil : i < dots.length + 1 := by rw [List.length_map] at hi; omega
      obtain ⟨m0, hm0⟩ : ∃ m0, dots.length + 1 - i = m0 + 1 := ⟨dots.length - i, by omega⟩
      have hm1 : dots.length + 1 - (i + 1) = m0 := by omega
      rw [hm0] at tr
      have zl := nodup_le zs dots znd zd
      have fl : flatV v = true := by rcases hv' with rfl | ⟨y, rfl, _⟩ <;> rfl
      refine ⟨v, rfl, .ref m, rfl, m, _, rfl, dgK (x2 _ _ MS.hm) (mkS_nodes _ _ _ _), nb, dots.map V.str, rfl, .inl (Evl.sq_of (x2 _ _ MS.hn)), fl, flat_strs dots, _, rfl, ?_⟩
      rw [inV_spot hv']
      by_cases vd : v ∈ dots.map V.str
      · obtain ⟨y, yd, rfl⟩ := List.mem_map.mp vd
        rw [decide_eq_true vd]
        refine iteT ?_
        refine ⟨.str y, rfl, .ref p, rfl, 1, rfl, _, rfl, p, _, rfl, Evl.sq_of p2, fun c hc => ?_⟩
        have ecut : cutV (zs.map V.str ++ [V.str y]) none (some (-1)) = zs.map V.str := by
          rw [cut_last]
          exact List.dropLast_concat
        rw [ecut]
        have x3 : Evl.Ex H2 (upd H2 c (.lst (zs.map V.str))) := Evl.Ex.new hc
        refine ⟨c, zs.map V.str, rfl, .inl (Evl.sq_of upd_same), rfl, flat_strs zs, _, rfl, ?_⟩
        generalize upd H2 c (.lst (zs.map V.str)) = H3 at x3
        have p3 := x3 _ _ p2
        have x23 := x2.trans x3
        have q := nowTab_get (o := o e) (n := n e) (on := on) ok.dn yd
        rw [inV_str]
        by_cases mem : y ∈ zs
        · rw [decide_eq_true mem]
          refine iteF ?_
          rw [track_ring mem] at tr
          exact ⟨_, zs, .str y, rfl, x23, p3, znd, zd, hv', by rw [hm1, track_ring mem, ← tr]⟩
        · rw [decide_eq_false mem]
          refine iteT ?_
          rw [track_on q mem] at tr
          have c1 := look_ok pa.o1 yd
          have c2 := look_ok pa.o2 yd
          have fin : ∀ {u : V}, u = look (if y ∈ on then n e else o e) y → ∃ (x8 : Option V) (zs' : List Str) (v' : V), [some (V.ref m), some (.ref a), some (.str e), some (.str z), some (.ref po), some (.ref pn), some (.ref p), some u, some (.int (0 + (i : Int)))] = [some (V.ref m), some (.ref a), some (.str e), some (.str z), some (.ref po), some (.ref pn), some (.ref p), some v', x8] ∧ Evl.Ex H (upd H3 p (.lst (zs.map V.str ++ [V.str y] ++ [u]))) ∧ (upd H3 p (.lst (zs.map V.str ++ [V.str y] ++ [u]))) p = some (.lst (zs'.map V.str ++ [v'])) ∧ zs'.Nodup ∧ (∀ y ∈ zs', y ∈ dots) ∧ Spot v' ∧
              track (nowTab dots (o e) (n e) on) (dots.length + 1 - (i + 1)) zs' v' = walkOf (nowTab dots (o e) (n e) on) (dots.length + 1) z := fun {u} hu' => by
            subst hu'
            refine ⟨_, zs ++ [y], _, rfl, x23.mut hp, ?_, ?_, fun y' hy' => ?_, ?_, by rw [hm1, tr]⟩
            · rw [upd_same, List.map_append]
              rfl
            · rw [List.nodup_append]
              exact ⟨znd, by simp, fun a ha b hb e => mem (by rw [List.mem_singleton.mp hb] at e; exact e ▸ ha)⟩
            · rcases List.mem_append.mp hy' with hy' | hy'
              · exact zd y' hy'
              · rw [List.mem_singleton.mp hy']; exact yd
            · by_cases m1 : y ∈ on
              · rw [if_pos m1]; exact place_spot c2.1 ok.dm (ok.em e he)
              · rw [if_neg m1]; exact place_spot c1.1 ok.dm (ok.em e he)
          have room : (zs.map V.str ++ [V.str y]).length < sizeLine := by
            rw [List.length_append, List.length_map, List.length_singleton]
            exact small1000 (by omega)
          have pa3 := pa.ex x23
          refine ⟨.str y, rfl, .ref a, rfl, a, on.map V.str, rfl, (ha.imp (Evl.ex_l x23) (Evl.ex_t x23)), rfl, flat_strs on, _, rfl, ?_⟩
          rw [inV_str]
          by_cases m1 : y ∈ on
          · rw [decide_eq_true m1]
            refine iteT ?_
            exact ⟨.ref pn, rfl, .str y, rfl, pn, _, rfl, dgK (k := Sum.inr y) pa3.hn c2.2, .ref p, rfl, .inl ⟨rfl, _, Evl.sq_of p3⟩, _, rfl, p, _, _, rfl, rfl, p3, room, fin (by rw [if_pos m1])⟩
          · rw [decide_eq_false m1]
            refine iteF ?_
            exact ⟨.ref po, rfl, .str y, rfl, po, _, rfl, dgK (k := Sum.inr y) pa3.ho c1.2, .ref p, rfl, .inl ⟨rfl, _, Evl.sq_of p3⟩, _, rfl, p, _, _, rfl, rfl, p3, room, fin (by rw [if_neg m1])⟩
      · rw [decide_eq_false vd]
        refine iteF (iteF ?_)
        have stop : ∀ k, track (nowTab dots (o e) (n e) on) k zs v = zs.map V.str ++ [v] := fun k => by
          rcases hv' with rfl | ⟨y, rfl, _⟩
          · exact track_non
          · exact track_out (nowTab_none fun h => vd (List.mem_map_of_mem h))
        exact ⟨_, zs, v, rfl, x2, p2, znd, zd, hv', by rw [stop]; rw [stop] at tr; exact tr⟩
    · rintro σ H2 ⟨x8, zs, v, rfl, x2, p2, znd, zd, hv', tr⟩
      rw [show dots.length + 1 - (((dots.map V.str).length : Int) + 1).toNat = 0 by rw [List.length_map]; omega] at tr
      refine ⟨.ref p, rfl, k p H2 x2 hp ?_⟩
      rw [p2, ← tr]
      rfl
end
end Rw
end T_BF

section T_VE
set_option Elab.async false
set_option linter.all false
set_option maxRecDepth 100000
set_option maxHeartbeats 8000000
namespace Rw
open PySem L2 PyProof.Rows
/-! ### paths through all nodes -/
structure PathR (dots : List Str) (e : Str) (tb : List (Str × V)) (r : Str → Nat) : Prop where
  st : ∀ z ∈ dots, (look tb z = .str e ∧ r z = 1) ∨ ∃ y ∈ dots, look tb z = .str y ∧ r z = r y + 1
  inj : ∀ z ∈ dots, ∀ y ∈ dots, r z = r y → z = y
  le : ∀ z ∈ dots, r z ≤ dots.length
def pathT : Str → List Str → List (Str × V)
  | _, [] => []
  | p, z :: ws => (z, .str p) :: pathT z ws
def endS : Str → List Str → Str
  | p, [] => p
  | _, z :: ws => endS z ws
theorem pathT_keys : ∀ (p : Str) (ws : List Str), (pathT p ws).map (·.1) = ws
  | _, [] => rfl
  | p, z :: ws => by
    show z :: (pathT z ws).map (·.1) = _
    rw [pathT_keys z ws]
theorem pathT_snoc : ∀ (p : Str) (ws : List Str) (z : Str), pathT p (ws ++ [z]) = pathT p ws ++ [(z, .str (endS p ws))]
  | _, [], _ => rfl
  | p, y :: ws, z => by
    show (y, V.str p) :: pathT y (ws ++ [z]) = (y, V.str p) :: (pathT y ws ++ [(z, .str (endS y ws))])
    rw [pathT_snoc y ws z]
theorem endS_take : ∀ (p : Str) (ws : List Str) (i : Nat), i ≤ ws.length → (p :: ws)[i]? = some (endS p (ws.take i))
  | p, ws, 0, _ => by rw [List.take_zero]; rfl
  | p, [], i + 1, h => absurd h (by rw [List.length_nil]; omega)
  | p, z :: ws, i + 1, h => by
    show (z :: ws)[i]? = some (endS z (ws.take i))
    exact endS_take z ws i (Nat.le_of_succ_le_succ h)
theorem pathT_mem : ∀ {p : Str} {ws : List Str} {i : Nat} {z y : Str}, ws[i]? = some z → (p :: ws)[i]? = some y → (z, V.str y) ∈ pathT p ws
  | p, [], i, z, y, h, _ => nomatch h
  | p, x :: ws, 0, z, y, h, h' => by
    cases h
    cases h'
    exact List.mem_cons_self
  | p, x :: ws, i + 1, z, y, h, h' => List.mem_cons_of_mem _ (pathT_mem (p := x) (ws := ws) (i := i) h h')
theorem look_mem {tb : List (Str × V)} {z : Str} {v : V} (nd : (tb.map (·.1)).Nodup) (h : (z, v) ∈ tb) : look tb z = v := by
  unfold look
  rw [tkv_val nd h]
  rfl
theorem pathT_r {dots ws : List Str} {e : Str} (pm : dots.Perm ws) (nd : ws.Nodup) : PathR dots e (pathT e ws) (fun z => ws.idxOf z + 1) := by
  have at_ : ∀ z ∈ dots, ws[ws.idxOf z]? = some z := fun z hz => by
    have h := List.idxOf_lt_length_of_mem (pm.mem_iff.mp hz)
    rw [List.getElem?_eq_getElem h, List.getElem_idxOf h]
  have kn : ((pathT e ws).map (·.1)).Nodup := by rw [pathT_keys]; exact nd
  refine ⟨fun z hz => ?_, fun z hz y hy h => ?_, fun z hz => ?_⟩
  · have h1 := at_ z hz
    obtain ⟨i, hi⟩ : ∃ i, i = ws.idxOf z := ⟨_, rfl⟩
    rw [← hi] at h1 ⊢
    cases i with
    | zero => exact .inl ⟨look_mem kn (pathT_mem h1 rfl), rfl⟩
    | succ i =>
      have il : i < ws.length := by have := (List.getElem?_eq_some_iff.mp h1).1; omega
      have h2 : ws[i]? = some ws[i] := List.getElem?_eq_getElem il
      refine .inr ⟨ws[i], pm.mem_iff.mpr (List.getElem_mem il), look_mem kn (pathT_mem h1 h2), ?_⟩
      show i + 1 + 1 = ws.idxOf ws[i] + 1 + 1
      rw [nd.idxOf_getElem i il]
  · have h1 := at_ z hz
    have h2 := at_ y hy
    have e1 : ws.idxOf z = ws.idxOf y := Nat.succ.inj h
    rw [e1, h2] at h1
    exact (Option.some.inj h1).symm
  · have h := List.idxOf_lt_length_of_mem (pm.mem_iff.mp hz)
    rw [pm.length_eq]
    exact h
theorem PathR.pos {dots : List Str} {e : Str} {tb : List (Str × V)} {r : Str → Nat} (h : PathR dots e tb r) {z : Str} (hz : z ∈ dots) : 0 < r z := by
  rcases h.st z hz with ⟨_, q⟩ | ⟨_, _, _, q⟩ <;> omega
/-! ### no ring where numbers fall; a ring where a set is not left -/
section
variable {tb : List (Str × V)} {dots : List Str} {e : Str} {G : Str → V}
theorem fall_ends (hG : ∀ z ∈ dots, valV (tkv tb) (Sum.inr z) = some (G z)) (he : valV (tkv tb) (Sum.inr e) = none) {r : Str → Nat} (hr : ∀ z ∈ dots, G z = .str e ∨ ∃ z' ∈ dots, G z = .str z' ∧ r z' < r z) :
    ∀ (k : Nat) (zs : List Str) (z : Str), z ∈ dots → zs.Nodup → (∀ y ∈ zs, y ∈ dots) → (∀ y ∈ zs, r z < r y) → dots.length + 1 ≤ k + zs.length → ∃ us : List Str, track tb k zs (.str z) = us.map V.str ++ [.str e] ∧ (∀ y ∈ us, y ∈ dots) := by
  intro k
  induction k with
  | zero =>
    intro zs z _ nd sub _ hl
    have := nodup_le zs dots nd sub
    omega
  | succ k ih =>
    intro zs z hz nd sub rk hl
    have zn : z ∉ zs := fun m => absurd (rk z m) (Nat.lt_irrefl _)
    rw [track_on (hG z hz) zn]
    have sub2 : ∀ y ∈ zs ++ [z], y ∈ dots := fun y hy => (List.mem_append.mp hy).elim (sub y) fun hy => by rw [List.mem_singleton.mp hy]; exact hz
    rcases hr z hz with h | ⟨z', hz', h, lt⟩
    · rw [h, track_out he]
      exact ⟨_, rfl, sub2⟩
    · rw [h]
      refine ih (zs ++ [z]) z' hz' ?_ sub2 (fun y hy => ?_) (by rw [List.length_append, List.length_singleton]; omega)
      · rw [List.nodup_append]
        exact ⟨nd, by simp, fun a ha b hb e => zn (by rw [List.mem_singleton.mp hb] at e; exact e ▸ ha)⟩
      · rcases List.mem_append.mp hy with hy | hy
        · exact Nat.lt_trans lt (rk y hy)
        · rw [List.mem_singleton.mp hy]; exact lt
theorem shut_ring (hG : ∀ z ∈ dots, valV (tkv tb) (Sum.inr z) = some (G z)) {S : Str → Prop} (hS : ∀ z ∈ dots, S z → ∃ y ∈ dots, S y ∧ G z = .str y) :
    ∀ (k : Nat) (zs : List Str) (z : Str), z ∈ dots → S z → zs.Nodup → (∀ y ∈ zs, y ∈ dots) → dots.length + 1 ≤ k + zs.length → ∃ (us : List Str) (y : Str), track tb k zs (.str z) = us.map V.str ++ [.str y] ∧ y ∈ us := by
  intro k
  induction k with
  | zero =>
    intro zs z _ _ nd sub hl
    have := nodup_le zs dots nd sub
    omega
  | succ k ih =>
    intro zs z hz sz nd sub hl
    by_cases m : z ∈ zs
    · exact ⟨zs, z, track_ring m, m⟩
    · rw [track_on (hG z hz) m]
      obtain ⟨y, hy, sy, ey⟩ := hS z hz sz
      rw [ey]
      refine ih (zs ++ [z]) y hy sy ?_ (fun x hx => (List.mem_append.mp hx).elim (sub x) fun hx => by rw [List.mem_singleton.mp hx]; exact hz) (by rw [List.length_append, List.length_singleton]; omega)
      rw [List.nodup_append]
      exact ⟨nd, by simp, fun a ha b hb e => m (by rw [List.mem_singleton.mp hb] at e; exact e ▸ ha)⟩
end
section
variable {dots ss ps : List Str} {o n : Str → List (Str × V)} {e : Str} {on : List Str}
theorem rings_no (ok : ModelOk [e] dots ss ps) (r : Str → Nat) (hr : ∀ z ∈ dots, look (if z ∈ on then n e else o e) z = .str e ∨ ∃ z' ∈ dots, look (if z ∈ on then n e else o e) z = .str z' ∧ r z' < r z) : badB [e] dots ss ps o n on "rings" = false := by
  rw [Bool.eq_false_iff]
  intro b
  obtain ⟨e', he', z, hz, hb⟩ := badB_mem.mp b
  rw [List.mem_singleton.mp he'] at hb
  have zd : z ∈ dots := hz
  have ed := ok.ed e List.mem_cons_self
  obtain ⟨us, ew, hu⟩ := fall_ends (tb := nowTab dots (o e) (n e) on) (G := fun z => look (if z ∈ on then n e else o e) z) (fun z hz => nowTab_get ok.dn hz) (nowTab_none ed) hr (dots.length + 1) [] z zd List.nodup_nil (fun _ h => nomatch h) (fun _ h => nomatch h) (by simp)
  unfold brk at hb
  have ew' : walkOf (nowTab dots (o e) (n e) on) (dots.length + 1) z = us.map V.str ++ [.str e] := ew
  rw [ew'] at hb
  unfold breaksB at hb
  rw [if_neg (by decide), if_neg (by decide), lastV_snoc, List.dropLast_concat] at hb
  obtain ⟨y, hy, q⟩ := List.mem_map.mp (of_decide_eq_true hb)
  cases q
  exact ed (hu _ hy)
theorem rings_yes (ok : ModelOk [e] dots ss ps) {S : Str → Prop} (hS : ∀ z ∈ dots, S z → ∃ y ∈ dots, S y ∧ look (if z ∈ on then n e else o e) z = .str y) {z : Str} (hz : z ∈ dots) (sz : S z) : badB [e] dots ss ps o n on "rings" = true := by
  refine badB_mem.mpr ⟨e, List.mem_cons_self, z, hz, ?_⟩
  obtain ⟨us, y, ew, hu⟩ := shut_ring (tb := nowTab dots (o e) (n e) on) (G := fun z => look (if z ∈ on then n e else o e) z) (fun z hz => nowTab_get ok.dn hz) hS (dots.length + 1) [] z hz sz List.nodup_nil (fun _ h => nomatch h) (by simp)
  have ew' : walkOf (nowTab dots (o e) (n e) on) (dots.length + 1) z = us.map V.str ++ [.str y] := ew
  unfold brk
  rw [ew']
  unfold breaksB
  rw [if_neg (by decide), if_neg (by decide), lastV_snoc, List.dropLast_concat]
  exact decide_eq_true (List.mem_map_of_mem hu)
end
end Rw
end T_VE

section T_VF
set_option Elab.async false
set_option linter.all false
set_option maxRecDepth 100000
set_option maxHeartbeats 8000000
namespace Rw
open PySem L2 PyProof.Rows
/-! ### plans for rings alone, of one goal -/
theorem bad_same {ends dots ss ps : List Str} {o n : Str → List (Str × V)} {on on' : List Str} {wd : Str} (h : ∀ z, z ∈ on ↔ z ∈ on') : badB ends dots ss ps o n on wd = badB ends dots ss ps o n on' wd := by
  unfold badB
  congr 1
  funext q
  exact brk_congr h _ _
theorem rest_none (ys : List Str) : restOf ys ys = [] := by
  unfold restOf
  rw [List.filter_eq_nil_iff]
  intro z hz
  rw [decide_eq_false (not_not_intro hz)]
  decide
section
variable {dots ss ps : List Str} {o n : Str → List (Str × V)} {e : Str}
theorem br_bad {on : List Str} (h : on.Sublist (moving [e] dots o n)) : brkOf [e] dots ss ps o n ["rings"] on = badB [e] dots ss ps o n on "rings" := by
  have m : on ∈ avoidL [e] dots ss ps o n ["rings"] ↔ badB [e] dots ss ps o n on "rings" = true := by
    unfold avoidL
    rw [List.mem_flatMap]
    constructor
    · rintro ⟨wd, hw, h1⟩
      rw [List.mem_singleton.mp hw] at h1
      exact (List.mem_filter.mp h1).2
    · exact fun h1 => ⟨"rings", List.mem_cons_self, List.mem_filter.mpr ⟨partsS_has h, h1⟩⟩
  unfold brkOf
  rw [Bool.eq_iff_iff, decide_eq_true_iff]
  exact m
theorem ok_rings {d p : List Str} (hd : d.Sublist (moving [e] dots o n)) (hp : p.Sublist (moving [e] dots o n)) :
    okB (brkOf [e] dots ss ps o n ["rings"]) (moving [e] dots o n) d p = true ↔ ∀ on, on.Sublist p → badB [e] dots ss ps o n (d ++ on) "rings" = false := by
  rw [okB_iff]
  have one : ∀ q, q.Sublist p → brkOf [e] dots ss ps o n ["rings"] (mixS (moving [e] dots o n) d q) = badB [e] dots ss ps o n (d ++ q) "rings" := fun q hq => by
    rw [br_bad (mixS_sub _ _ _)]
    exact bad_same fun z => by rw [mixS_mem hd (hq.trans hp), List.mem_append]
  exact ⟨fun h q hq => by rw [← one q hq]; exact h q hq, fun h q hq => by rw [one q hq]; exact h q hq⟩
/-- a plan's step, its end -/
theorem plan_step1 {d p : List Str} {l : List (List Str)} (mnd : (moving [e] dots o n).Nodup) (hd : d.Sublist (moving [e] dots o n)) (hp : p.Sublist (moving [e] dots o n)) (dis : ∀ x ∈ p, x ∉ d) (ne : p ≠ []) (ok : ∀ on, on.Sublist p → badB [e] dots ss ps o n (d ++ on) "rings" = false)
    (h : PlanFrom (brkOf [e] dots ss ps o n ["rings"]) (moving [e] dots o n) (mixS (moving [e] dots o n) d p) l) : PlanFrom (brkOf [e] dots ss ps o n ["rings"]) (moving [e] dots o n) d (p :: l) :=
  .step (safeS_mem.mpr ⟨lot_rest mnd hp dis, (ok_rings hd hp).mpr ok⟩) ne h
theorem plan_end (h : badB [e] dots ss ps o n (moving [e] dots o n) "rings" = false) : PlanFrom (brkOf [e] dots ss ps o n ["rings"]) (moving [e] dots o n) (moving [e] dots o n) [] := by
  refine .done fun z => ?_
  have m : ([] : List Str) ∈ safeS (brkOf [e] dots ss ps o n ["rings"]) (moving [e] dots o n) (moving [e] dots o n) := safeS_mem.mpr ⟨List.nil_sublist _, (ok_rings (List.Sublist.refl _) (List.nil_sublist _)).mpr fun on hon => by
    rw [List.sublist_nil.mp hon, List.append_nil]
    exact h⟩
  rw [z] at m
  cases m
/-- what a plan's first round, and its last one, keep -/
theorem plan_first {d r : List Str} {l : List (List Str)} (hd : d.Sublist (moving [e] dots o n)) (h : PlanFrom (brkOf [e] dots ss ps o n ["rings"]) (moving [e] dots o n) d (r :: l)) :
    r.Sublist (moving [e] dots o n) ∧ (∀ x ∈ r, x ∉ d) ∧ (∀ on, on.Sublist r → badB [e] dots ss ps o n (d ++ on) "rings" = false) ∧ PlanFrom (brkOf [e] dots ss ps o n ["rings"]) (moving [e] dots o n) (mixS (moving [e] dots o n) d r) l := by
  cases h with
  | step h1 h2 h3 =>
    obtain ⟨q1, q2⟩ := safeS_mem.mp h1
    obtain ⟨q3, q4⟩ := rest_lot q1
    exact ⟨q3, q4, (ok_rings hd q3).mp q2, h3⟩
theorem plan_nil {d : List Str} (h : PlanFrom (brkOf [e] dots ss ps o n ["rings"]) (moving [e] dots o n) d []) : d = moving [e] dots o n ∧ badB [e] dots ss ps o n (moving [e] dots o n) "rings" = false := by
  cases h with
  | done ne =>
    refine ⟨rfl, ?_⟩
    obtain ⟨p, hp⟩ := List.exists_mem_of_ne_nil _ ne
    obtain ⟨h1, h2⟩ := safeS_mem.mp hp
    rw [rest_none] at h1
    rw [List.sublist_nil.mp h1] at h2
    have q := (ok_rings (List.Sublist.refl _) (List.nil_sublist _)).mp h2 [] (List.nil_sublist _)
    rwa [List.append_nil] at q
theorem still {z : Str} (hz : z ∈ dots) (h : z ∉ moving [e] dots o n) : look (o e) z = look (n e) z := by
  refine Decidable.byContradiction fun c => h (List.mem_filter.mpr ⟨hz, ?_⟩)
  show ((!decide (look (o e) z = look (n e) z)) || false) = true
  rw [decide_eq_false c]
  rfl
theorem moves_at {z : Str} (h : z ∈ moving [e] dots o n) : look (o e) z ≠ look (n e) z := by
  intro c
  have q := (List.mem_filter.mp h).2
  have q' : ((!decide (look (o e) z = look (n e) z)) || false) = true := q
  rw [decide_eq_true c] at q'
  cases q'
variable {r0 r1 : Str → Nat} (ok : ModelOk [e] dots ss ps) (p0 : PathR dots e (o e) r0) (p1 : PathR dots e (n e) r1)
include ok p0 p1
/-- moments behind which nothing lower is left -/
theorem low_no {S : List Str} (cl : ∀ y ∈ S, ∀ z ∈ moving [e] dots o n, r1 z < r1 y → z ∈ S) (sub : ∀ y ∈ S, y ∈ dots) : badB [e] dots ss ps o n S "rings" = false := by
  classical
  let A : Str → Prop := fun z => ∀ y ∈ moving [e] dots o n, r1 y ≤ r1 z → y ∈ S
  refine rings_no ok (fun z => if A z then r1 z else dots.length + r0 z) fun z hz => ?_
  by_cases a : A z
  · have ew : look (if z ∈ S then n e else o e) z = look (n e) z := by
      by_cases c : z ∈ S
      · rw [if_pos c]
      · rw [if_neg c]
        exact still hz fun m => c (a z m (Nat.le_refl _))
    rw [ew]
    rcases p1.st z hz with ⟨h, _⟩ | ⟨y, hy, h, hr⟩
    · exact .inl h
    · refine .inr ⟨y, hy, h, ?_⟩
      have ay : A y := fun x hx hl => a x hx (by omega)
      rw [if_pos a, if_pos ay]
      omega
  · have c : z ∉ S := fun c => a fun y hy hl => by
      rcases Nat.lt_or_ge (r1 y) (r1 z) with q | q
      · exact cl z c y hy q
      · rw [p1.inj y (List.mem_filter.mp hy).1 z hz (by omega)]
        exact c
    rw [if_neg c]
    rcases p0.st z hz with ⟨h, _⟩ | ⟨y, hy, h, hr⟩
    · exact .inl h
    · refine .inr ⟨y, hy, h, ?_⟩
      have l1 := p1.le y hy
      rw [if_neg a]
      split <;> omega
omit p0 in
theorem new_no : badB [e] dots ss ps o n (moving [e] dots o n) "rings" = false := by
  refine rings_no ok r1 fun z hz => ?_
  have ew : look (if z ∈ moving [e] dots o n then n e else o e) z = look (n e) z := by
    by_cases c : z ∈ moving [e] dots o n
    · rw [if_pos c]
    · rw [if_neg c]
      exact still hz c
  rw [ew]
  rcases p1.st z hz with ⟨h, _⟩ | ⟨y, hy, h, hr⟩
  · exact .inl h
  · exact .inr ⟨y, hy, h, by omega⟩
/-- there is a plan -/
theorem plan_is (mnd : (moving [e] dots o n).Nodup) : ∀ (k : Nat) (d : List Str), d.Sublist (moving [e] dots o n) → (moving [e] dots o n).length = d.length + k → (∀ y ∈ d, ∀ z ∈ moving [e] dots o n, r1 z < r1 y → z ∈ d) → ∃ l, PlanFrom (brkOf [e] dots ss ps o n ["rings"]) (moving [e] dots o n) d l := by
  intro k
  induction k with
  | zero =>
    intro d hd hl _
    have ed : d = moving [e] dots o n := hd.eq_of_length (by omega)
    subst ed
    exact ⟨[], plan_end (new_no ok p1)⟩
  | succ k ih =>
    intro d hd hl cl
    -- the lowest node that is left
    have left : ∃ z, z ∈ moving [e] dots o n ∧ z ∉ d := by
      refine Decidable.byContradiction fun c => ?_
      have := nodup_le (moving [e] dots o n) d mnd fun z hz => Decidable.byContradiction fun q => c ⟨z, hz, q⟩
      omega
    have low : ∀ (m : Nat) (z : Str), r1 z ≤ m → z ∈ moving [e] dots o n → z ∉ d → ∃ z, z ∈ moving [e] dots o n ∧ z ∉ d ∧ ∀ y ∈ moving [e] dots o n, y ∉ d → r1 z ≤ r1 y := by
      intro m
      induction m with
      | zero => exact fun z h1 h2 h3 => ⟨z, h2, h3, fun y _ _ => by omega⟩
      | succ m ihm =>
        intro z h1 h2 h3
        by_cases c : ∃ y, y ∈ moving [e] dots o n ∧ y ∉ d ∧ r1 y < r1 z
        · obtain ⟨y, a1, a2, a3⟩ := c
          exact ihm y (by omega) a1 a2
        · exact ⟨z, h2, h3, fun y a1 a2 => Nat.le_of_not_lt fun q => c ⟨y, a1, a2, q⟩⟩
    obtain ⟨z0, a1, a2⟩ := left
    obtain ⟨z, zm, zd, zl⟩ := low _ z0 (Nat.le_refl _) a1 a2
    have hz1 : ([z] : List Str).Sublist (moving [e] dots o n) := List.singleton_sublist.mpr zm
    have mm : ∀ x, x ∈ mixS (moving [e] dots o n) d [z] ↔ x ∈ d ∨ x = z := fun x => by
      rw [mixS_mem hd hz1, List.mem_singleton]
    have cl2 : ∀ y, y ∈ d ∨ y = z → ∀ x ∈ moving [e] dots o n, r1 x < r1 y → x ∈ d ∨ x = z := fun y hy x hx hl => by
      rcases hy with hy | rfl
      · exact .inl (cl y hy x hx hl)
      · refine .inl (Decidable.byContradiction fun c => ?_)
        have := zl x hx c
        omega
    have len : (mixS (moving [e] dots o n) d [z]).length = d.length + 1 := by
      have nd2 : (d ++ [z]).Nodup := by
        rw [List.nodup_append]
        exact ⟨mnd.sublist hd, by simp, fun a ha b hb q => zd (by rw [List.mem_singleton.mp hb] at q; exact q ▸ ha)⟩
      have pm : (mixS (moving [e] dots o n) d [z]).Perm (d ++ [z]) := (List.perm_ext_iff_of_nodup (mnd.sublist (mixS_sub _ _ _)) nd2).mpr fun x => by rw [mm, List.mem_append, List.mem_singleton]
      rw [pm.length_eq, List.length_append, List.length_singleton]
    obtain ⟨l, hl'⟩ := ih (mixS (moving [e] dots o n) d [z]) (mixS_sub _ _ _) (by omega) fun y hy x hx hl => (mm x).mpr (cl2 y ((mm y).mp hy) x hx hl)
    refine ⟨[z] :: l, plan_step1 mnd hd hz1 (fun x hx => by rw [List.mem_singleton.mp hx]; exact zd) (List.cons_ne_nil _ _) (fun on hon => ?_) hl'⟩
    rcases List.sublist_cons_iff.mp hon with q | ⟨r, rfl, q⟩
    · rw [List.sublist_nil.mp q, List.append_nil]
      exact low_no ok p0 p1 cl fun y hy => (List.mem_filter.mp (hd.subset hy)).1
    · rw [List.sublist_nil.mp q]
      refine low_no ok p0 p1 (fun y hy x hx hl => ?_) fun y hy => ?_
      · rw [List.mem_append, List.mem_singleton] at hy ⊢
        exact cl2 y hy x hx hl
      · rcases List.mem_append.mp hy with hy | hy
        · exact (List.mem_filter.mp (hd.subset hy)).1
        · rw [List.mem_singleton.mp hy]
          exact (List.mem_filter.mp zm).1
/-- led back by both paths -/
def Back (dots : List Str) (e : Str) (o n : Str → List (Str × V)) (r0 r1 : Str → Nat) (v : Str) : Prop := v ∈ moving [e] dots o n ∧ (∃ y ∈ dots, look (n e) v = .str y ∧ r0 v < r0 y) ∧ ∃ y ∈ dots, look (o e) v = .str y ∧ r1 v < r1 y
omit p1 in
theorem first_bad {v : Str} {S : List Str} (hv : v ∈ dots) (b : ∃ y ∈ dots, look (n e) v = .str y ∧ r0 v < r0 y) (hS : ∀ x, x ∈ S ↔ x = v) : badB [e] dots ss ps o n S "rings" = true := by
  refine rings_yes ok (S := fun z => r0 v ≤ r0 z) (fun z hz sz => ?_) hv (Nat.le_refl _)
  by_cases c : z = v
  · subst c
    rw [if_pos ((hS z).mpr rfl)]
    obtain ⟨y, hy, h, hl⟩ := b
    exact ⟨y, hy, by omega, h⟩
  · rw [if_neg fun q => c ((hS z).mp q)]
    have ne : r0 z ≠ r0 v := fun q => c (p0.inj z hz v hv q)
    rcases p0.st z hz with ⟨_, h⟩ | ⟨y, hy, h, hr⟩
    · have := p0.pos hv
      omega
    · exact ⟨y, hy, by omega, h⟩
omit p0 in
theorem last_bad {v : Str} {S : List Str} (hv : v ∈ moving [e] dots o n) (b : ∃ y ∈ dots, look (o e) v = .str y ∧ r1 v < r1 y) (hS : ∀ x, x ∈ S ↔ x ∈ moving [e] dots o n ∧ x ≠ v) : badB [e] dots ss ps o n S "rings" = true := by
  have vd : v ∈ dots := (List.mem_filter.mp hv).1
  refine rings_yes ok (S := fun z => r1 v ≤ r1 z) (fun z hz sz => ?_) vd (Nat.le_refl _)
  by_cases c : z = v
  · subst c
    rw [if_neg fun q => ((hS z).mp q).2 rfl]
    obtain ⟨y, hy, h, hl⟩ := b
    exact ⟨y, hy, by omega, h⟩
  · have ew : look (if z ∈ S then n e else o e) z = look (n e) z := by
      by_cases q : z ∈ S
      · rw [if_pos q]
      · rw [if_neg q]
        exact still hz fun m => q ((hS z).mpr ⟨m, c⟩)
    rw [ew]
    have ne : r1 z ≠ r1 v := fun q => c (p1.inj z hz v vd q)
    rcases p1.st z hz with ⟨_, h⟩ | ⟨y, hy, h, hr⟩
    · have := p1.pos vd
      omega
    · exact ⟨y, hy, by omega, h⟩
theorem back_three (mnd : (moving [e] dots o n).Nodup) {v : Str} (b : Back dots e o n r0 r1 v) {l : List (List Str)} (h : PlanFrom (brkOf [e] dots ss ps o n ["rings"]) (moving [e] dots o n) [] l) : 2 < l.length := by
  obtain ⟨vm, b0, b1⟩ := b
  have vd : v ∈ dots := (List.mem_filter.mp vm).1
  refine Nat.lt_of_not_le fun hl => ?_
  have first : ∀ {r : List Str} {l : List (List Str)}, PlanFrom (brkOf [e] dots ss ps o n ["rings"]) (moving [e] dots o n) [] (r :: l) → v ∉ r := fun {r l} h m => by
    obtain ⟨_, _, h3, _⟩ := plan_first (List.nil_sublist _) h
    have q := h3 [v] (List.singleton_sublist.mpr m)
    rw [first_bad ok p0 vd b0 fun x => by rw [List.nil_append, List.mem_singleton]] at q
    cases q
  match l, h, hl with
  | [], h, _ =>
    have q := (plan_nil h).1
    rw [← q] at vm
    cases vm
  | [r], h, _ =>
    obtain ⟨h1, _, _, h4⟩ := plan_first (List.nil_sublist _) h
    have q := (plan_nil h4).1
    rw [← q, mixS_mem (List.nil_sublist _) h1] at vm
    exact first h (vm.resolve_left fun z => nomatch z)
  | [r, t], h, _ =>
    obtain ⟨h1, _, _, h4⟩ := plan_first (List.nil_sublist _) h
    obtain ⟨g1, g2, g3, g4⟩ := plan_first (mixS_sub _ _ _) h4
    have q := (plan_nil g4).1
    have mr : ∀ x, x ∈ mixS (moving [e] dots o n) [] r ↔ x ∈ r := fun x => by
      rw [mixS_mem (List.nil_sublist _) h1]
      exact ⟨fun z => z.resolve_left (fun z => nomatch z), .inr⟩
    have all : ∀ x, x ∈ moving [e] dots o n ↔ x ∈ r ∨ x ∈ t := fun x => by
      rw [← mr x, ← mixS_mem (mixS_sub _ _ _) g1]
      exact ⟨fun m => q.symm ▸ m, fun m => q ▸ m⟩
    have vr := first h
    have b := g3 (t.filter fun x => decide (x ≠ v)) List.filter_sublist
    rw [last_bad ok p1 vm b1 fun x => ?_] at b
    · cases b
    · rw [List.mem_append, mr, List.mem_filter, decide_eq_true_iff, all]
      constructor
      · rintro (m | ⟨m, ne⟩)
        · exact ⟨.inl m, fun z => vr (z ▸ m)⟩
        · exact ⟨.inr m, ne⟩
      · rintro ⟨m | m, ne⟩
        · exact .inl m
        · exact .inr ⟨m, ne⟩
/-- two rounds will do where no node is led back by both -/
theorem no_back_two (mnd : (moving [e] dots o n).Nodup) (nb : ∀ v, ¬ Back dots e o n r0 r1 v) : ∃ l, PlanFrom (brkOf [e] dots ss ps o n ["rings"]) (moving [e] dots o n) [] l ∧ l.length ≤ 2 := by
  classical
  let fw : Str → Bool := fun z => decide (look (n e) z = .str e ∨ ∃ y ∈ dots, look (n e) z = .str y ∧ r0 y < r0 z)
  obtain ⟨Fs, hF⟩ : ∃ Fs, Fs = (moving [e] dots o n).filter fw := ⟨_, rfl⟩
  obtain ⟨Bs, hB⟩ : ∃ Bs, Bs = (moving [e] dots o n).filter fun z => !fw z := ⟨_, rfl⟩
  have mF : ∀ x, x ∈ Fs ↔ x ∈ moving [e] dots o n ∧ fw x = true := fun x => by rw [hF, List.mem_filter]
  have mB : ∀ x, x ∈ Bs ↔ x ∈ moving [e] dots o n ∧ ¬ fw x = true := fun x => by
    rw [hB, List.mem_filter, Bool.not_eq_true', Bool.not_eq_true]
  have sF : Fs.Sublist (moving [e] dots o n) := by rw [hF]; exact List.filter_sublist
  have sB : Bs.Sublist (moving [e] dots o n) := by rw [hB]; exact List.filter_sublist
  -- moments within the first round
  have c1 : ∀ {S : List Str}, (∀ x ∈ S, x ∈ Fs) → badB [e] dots ss ps o n S "rings" = false := fun {S} hS => rings_no ok r0 fun z hz => by
    by_cases c : z ∈ S
    · rw [if_pos c]
      exact of_decide_eq_true ((mF z).mp (hS z c)).2
    · rw [if_neg c]
      rcases p0.st z hz with ⟨h, _⟩ | ⟨y, hy, h, hr⟩
      · exact .inl h
      · exact .inr ⟨y, hy, h, by omega⟩
  -- moments behind it
  have c2 : ∀ {S : List Str}, (∀ x ∈ Fs, x ∈ S) → badB [e] dots ss ps o n S "rings" = false := fun {S} hS => rings_no ok r1 fun z hz => by
    have new : look (n e) z = .str e ∨ ∃ z' ∈ dots, look (n e) z = .str z' ∧ r1 z' < r1 z := by
      rcases p1.st z hz with ⟨h, _⟩ | ⟨y, hy, h, hr⟩
      · exact .inl h
      · exact .inr ⟨y, hy, h, by omega⟩
    by_cases c : z ∈ S
    · rw [if_pos c]
      exact new
    · rw [if_neg c]
      by_cases m : z ∈ moving [e] dots o n
      · have nf : ¬ fw z = true := fun q => c (hS z ((mF z).mpr ⟨m, q⟩))
        have back0 : ∃ y ∈ dots, look (n e) z = .str y ∧ r0 z < r0 y := by
          rcases p1.st z hz with ⟨h, _⟩ | ⟨y, hy, h, hr⟩
          · exact absurd (decide_eq_true (.inl h)) nf
          · refine ⟨y, hy, h, ?_⟩
            rcases Nat.lt_trichotomy (r0 z) (r0 y) with q | q | q
            · exact q
            · have := p0.inj z hz y hy q
              subst this
              omega
            · exact absurd (decide_eq_true (.inr ⟨y, hy, h, q⟩)) nf
        rcases p0.st z hz with ⟨h, _⟩ | ⟨y, hy, h, hr⟩
        · exact .inl h
        · refine .inr ⟨y, hy, h, ?_⟩
          rcases Nat.lt_trichotomy (r1 z) (r1 y) with q | q | q
          · exact absurd ⟨m, back0, y, hy, h, q⟩ (nb z)
          · have := p1.inj z hz y hy q
            subst this
            omega
          · exact q
      · rw [still hz m]
        exact new
  have dis : ∀ x ∈ Bs, x ∉ Fs := fun x hx h => ((mB x).mp hx).2 ((mF x).mp h).2
  have part : ∀ x, x ∈ moving [e] dots o n ↔ x ∈ Fs ∨ x ∈ Bs := fun x => by
    rw [mF, mB]
    by_cases q : fw x = true
    · exact ⟨fun m => .inl ⟨m, q⟩, fun h => h.elim (fun z => z.1) fun z => z.1⟩
    · exact ⟨fun m => .inr ⟨m, q⟩, fun h => h.elim (fun z => z.1) fun z => z.1⟩
  have fin : PlanFrom (brkOf [e] dots ss ps o n ["rings"]) (moving [e] dots o n) (moving [e] dots o n) [] := plan_end (c2 fun x hx => sF.subset hx)
  -- the second round, behind any lot that has just the nodes of the first
  have second : ∀ {d : List Str}, d.Sublist (moving [e] dots o n) → (∀ x, x ∈ d ↔ x ∈ Fs) → ∃ l, PlanFrom (brkOf [e] dots ss ps o n ["rings"]) (moving [e] dots o n) d l ∧ l.length ≤ 1 := fun {d} hd md => by
    by_cases q : Bs = []
    · have ed : d = moving [e] dots o n := sub_eq hd (List.Sublist.refl _) mnd fun x => by
        rw [md, part, q]
        exact ⟨.inl, fun h => h.resolve_right fun z => nomatch z⟩
      rw [ed]
      exact ⟨[], fin, Nat.zero_le _⟩
    · refine ⟨[Bs], plan_step1 mnd hd sB (fun x hx h => dis x hx ((md x).mp h)) q (fun on _ => c2 fun x hx => List.mem_append_left _ ((md x).mpr hx)) ?_, Nat.le_refl _⟩
      have ed : mixS (moving [e] dots o n) d Bs = moving [e] dots o n := sub_eq (mixS_sub _ _ _) (List.Sublist.refl _) mnd fun x => by
        rw [mixS_mem hd sB, md, part]
      rw [ed]
      exact fin
  by_cases q : Fs = []
  · obtain ⟨l, h1, h2⟩ := second (List.nil_sublist (moving [e] dots o n)) fun x => by rw [q]
    exact ⟨l, h1, by omega⟩
  · obtain ⟨l, h1, h2⟩ := second (d := mixS (moving [e] dots o n) [] Fs) (mixS_sub _ _ _) fun x => by
      rw [mixS_mem (List.nil_sublist _) sF]
      exact ⟨fun h => h.resolve_left (fun z => nomatch z), .inr⟩
    exact ⟨Fs :: l, plan_step1 mnd (List.nil_sublist _) sF (fun x _ h => nomatch h) q (fun on hon => c1 fun x hx => hon.subset (by rwa [List.nil_append] at hx)) h1, by rw [List.length_cons]; omega⟩
omit p0 p1 in
/-- one round will do if and only if all ways together fall -/
theorem fall_one (mnd : (moving [e] dots o n).Nodup) {r : Str → Nat} (hr : ∀ z ∈ dots, ∀ v, v = look (o e) z ∨ v = look (n e) z → v = .str e ∨ ∃ y ∈ dots, v = .str y ∧ r y < r z) : ∃ l, PlanFrom (brkOf [e] dots ss ps o n ["rings"]) (moving [e] dots o n) [] l ∧ l.length ≤ 1 := by
  have no : ∀ S, badB [e] dots ss ps o n S "rings" = false := fun S => rings_no ok r fun z hz => by
    by_cases c : z ∈ S
    · rw [if_pos c]
      exact hr z hz _ (.inr rfl)
    · rw [if_neg c]
      exact hr z hz _ (.inl rfl)
  by_cases q : moving [e] dots o n = []
  · refine ⟨[], ?_, Nat.zero_le _⟩
    have h := plan_end (no (moving [e] dots o n))
    have e2 : ([] : List Str) = moving [e] dots o n := q.symm
    have h' : PlanFrom (brkOf [e] dots ss ps o n ["rings"]) (moving [e] dots o n) (moving [e] dots o n) [] := h
    exact Eq.subst (motive := fun d => PlanFrom (brkOf [e] dots ss ps o n ["rings"]) (moving [e] dots o n) d []) e2.symm h'
  · refine ⟨[moving [e] dots o n], plan_step1 mnd (List.nil_sublist _) (List.Sublist.refl _) (fun x _ h => nomatch h) q (fun on _ => no _) ?_, Nat.le_refl _⟩
    have ed : mixS (moving [e] dots o n) [] (moving [e] dots o n) = moving [e] dots o n := sub_eq (mixS_sub _ _ _) (List.Sublist.refl _) mnd fun x => by
      rw [mixS_mem (List.nil_sublist _) (List.Sublist.refl _)]
      exact ⟨fun h => h.resolve_left (fun z => nomatch z), .inr⟩
    rw [ed]
    exact plan_end (no _)
omit p0 p1 in
theorem one_fall {l : List (List Str)} (h : PlanFrom (brkOf [e] dots ss ps o n ["rings"]) (moving [e] dots o n) [] l) (hl : l.length ≤ 1) {S : Str → Prop} (hS : ∀ z ∈ dots, S z → ∃ y ∈ dots, S y ∧ (look (o e) z = .str y ∨ look (n e) z = .str y)) {z : Str} (hz : z ∈ dots) (sz : S z) : False := by
  classical
  -- the nodes whose new way stays within
  let W : Str → Bool := fun z => decide (∃ y ∈ dots, S y ∧ look (n e) z = .str y)
  have bad : ∀ {T : List Str}, (∀ x ∈ moving [e] dots o n, x ∈ T ↔ W x = true) → badB [e] dots ss ps o n T "rings" = true := fun {T} hT => by
    refine rings_yes ok (S := S) (fun z hz sz => ?_) hz sz
    by_cases m : z ∈ moving [e] dots o n
    · by_cases c : z ∈ T
      · rw [if_pos c]
        obtain ⟨y, hy, sy, ey⟩ := of_decide_eq_true ((hT z m).mp c)
        exact ⟨y, hy, sy, ey⟩
      · rw [if_neg c]
        obtain ⟨y, hy, sy, ey⟩ := hS z hz sz
        rcases ey with ey | ey
        · exact ⟨y, hy, sy, ey⟩
        · exact absurd ((hT z m).mpr (decide_eq_true ⟨y, hy, sy, ey⟩)) c
    · have st := still hz m
      have ew : look (if z ∈ T then n e else o e) z = look (n e) z := by
        split
        · rfl
        · exact st
      rw [ew]
      obtain ⟨y, hy, sy, ey⟩ := hS z hz sz
      rcases ey with ey | ey
      · exact ⟨y, hy, sy, by rw [← st]; exact ey⟩
      · exact ⟨y, hy, sy, ey⟩
  match l, h, hl with
  | [], h, _ =>
    obtain ⟨q1, q2⟩ := plan_nil h
    rw [bad fun x hx => by rw [← q1] at hx; cases hx] at q2
    cases q2
  | [r], h, _ =>
    obtain ⟨h1, _, h3, h4⟩ := plan_first (List.nil_sublist _) h
    have q := (plan_nil h4).1
    have b := h3 (r.filter W) List.filter_sublist
    rw [bad fun x hx => ?_] at b
    · cases b
    · rw [List.nil_append, List.mem_filter]
      rw [← q, mixS_mem (List.nil_sublist _) h1] at hx
      exact ⟨fun h => h.2, fun h => ⟨hx.resolve_left (fun z => nomatch z), h⟩⟩
end
end Rw
end T_VF

section T_VI
set_option Elab.async false
set_option linter.all false
set_option maxRecDepth 100000
set_option maxHeartbeats 8000000
namespace Rw
open PySem L2 PyProof.Rows
/-! ### how far it is along a path; nodes led back by both, in the law's numbers -/
theorem path_len {dots : List Str} {e : Str} {tb tb' : List (Str × V)} {r : Str → Nat} (p : PathR dots e tb' r) (hG : ∀ z ∈ dots, valV (tkv tb) (Sum.inr z) = some (look tb' z)) (he : valV (tkv tb) (Sum.inr e) = none) :
    ∀ (m : Nat) (z : Str) (zs : List Str) (k : Nat), r z = m → z ∈ dots → (∀ y ∈ zs, r z < r y) → m ≤ k → (track tb k zs (.str z)).length = zs.length + m + 1 := by
  intro m
  induction m with
  | zero =>
    intro z zs k hm hz _ _
    have := p.pos hz
    omega
  | succ m ih =>
    intro z zs k hm hz hs hk
    obtain ⟨k', rfl⟩ : ∃ k', k = k' + 1 := ⟨k - 1, by omega⟩
    have zn : z ∉ zs := fun q => absurd (hs z q) (Nat.lt_irrefl _)
    rw [track_on (hG z hz) zn]
    rcases p.st z hz with ⟨h, h1⟩ | ⟨y, hy, h, h1⟩
    · rw [h, track_out he, List.length_append, List.length_map, List.length_append, List.length_singleton, List.length_singleton]
      omega
    · rw [h, ih y (zs ++ [z]) k' (by omega) hy (fun x hx => ?_) (by omega), List.length_append, List.length_singleton]
      · omega
      · rcases List.mem_append.mp hx with hx | hx
        · have := hs x hx
          omega
        · rw [List.mem_singleton.mp hx]
          omega
section
variable {dots : List Str} {o n : Str → List (Str × V)} {e : Str}
def hopR (dots : List Str) (o n : Str → List (Str × V)) (e : Str) (on : List Str) (z : Str) : Nat := (walkOf (nowTab dots (o e) (n e) on) (dots.length + 1) z).length
theorem hop_old {r : Str → Nat} (dn : dots.Nodup) (ed : e ∉ dots) (p : PathR dots e (o e) r) {z : Str} (hz : z ∈ dots) : hopR dots o n e [] z = r z + 1 := by
  have h := path_len (tb := nowTab dots (o e) (n e) []) p (fun z hz => by rw [nowTab_get dn hz, if_neg (fun h => nomatch h)]) (nowTab_none ed) (r z) z [] (dots.length + 1) rfl hz (fun _ h => nomatch h) (by have := p.le z hz; omega)
  unfold hopR walkOf
  rw [h, List.length_nil]
  omega
theorem hop_new {r : Str → Nat} (dn : dots.Nodup) (ed : e ∉ dots) (p : PathR dots e (n e) r) {z : Str} (hz : z ∈ dots) : hopR dots o n e dots z = r z + 1 := by
  have h := path_len (tb := nowTab dots (o e) (n e) dots) p (fun z hz => by rw [nowTab_get dn hz, if_pos hz]) (nowTab_none ed) (r z) z [] (dots.length + 1) rfl hz (fun _ h => nomatch h) (by have := p.le z hz; omega)
  unfold hopR walkOf
  rw [h, List.length_nil]
  omega
/-- the number past a place: none for the goal -/
def numP (e : Str) (f : Str → Nat) (v : V) : Nat := match v with
  | .str y => if y = e then 0 else f y
  | _ => 0
theorem numP_e (e : Str) (f : Str → Nat) : numP e f (.str e) = 0 := if_pos rfl
theorem numP_d {e : Str} {f : Str → Nat} {y : Str} (h : y ≠ e) : numP e f (.str y) = f y := if_neg h
def tw1 (dots : List Str) (o n : Str → List (Str × V)) (e : Str) : List Str := (moving [e] dots o n).filter fun z => decide (numP e (hopR dots o n e []) (.str z) < numP e (hopR dots o n e []) (look (n e) z))
def tw2 (dots : List Str) (o n : Str → List (Str × V)) (e : Str) : List Str := (tw1 dots o n e).filter fun z => decide (numP e (hopR dots o n e dots) (.str z) < numP e (hopR dots o n e dots) (look (o e) z))
theorem tw_back {r0 r1 : Str → Nat} (dn : dots.Nodup) (ed : e ∉ dots) (p0 : PathR dots e (o e) r0) (p1 : PathR dots e (n e) r1) {v : Str} : v ∈ tw2 dots o n e ↔ Back dots e o n r0 r1 v := by
  unfold tw2 tw1 Back
  rw [List.mem_filter, List.mem_filter, decide_eq_true_iff, decide_eq_true_iff, and_assoc]
  refine and_congr_right fun m => ?_
  have vd : v ∈ dots := (List.mem_filter.mp m).1
  have ne : ∀ {y}, y ∈ dots → y ≠ e := fun hy c => ed (c ▸ hy)
  refine and_congr ?_ ?_
  · rw [numP_d (ne vd), hop_old dn ed p0 vd]
    rcases p1.st v vd with ⟨h, _⟩ | ⟨y, hy, h, _⟩
    · rw [h, numP_e]
      exact ⟨fun q => by omega, fun ⟨y, hy, q, _⟩ => by cases q; exact absurd hy ed⟩
    · rw [h, numP_d (ne hy), hop_old dn ed p0 hy]
      exact ⟨fun q => ⟨y, hy, rfl, by omega⟩, fun ⟨x, hx, q, lt⟩ => by cases q; omega⟩
  · rw [numP_d (ne vd), hop_new dn ed p1 vd]
    rcases p0.st v vd with ⟨h, _⟩ | ⟨y, hy, h, _⟩
    · rw [h, numP_e]
      exact ⟨fun q => by omega, fun ⟨y, hy, q, _⟩ => by cases q; exact absurd hy ed⟩
    · rw [h, numP_d (ne hy), hop_new dn ed p1 hy]
      exact ⟨fun q => ⟨y, hy, rfl, by omega⟩, fun ⟨x, hx, q, lt⟩ => by cases q; omega⟩
end
end Rw
end T_VI

section T_VG
set_option Elab.async false
set_option linter.all false
set_option maxRecDepth 100000
set_option maxHeartbeats 8000000
namespace Rw
open PySem L2 PyProof.Rows
/-! ### the ways of a mixture, as this law lists them -/
structure WebR (H : Hp) (D : Addr) (dots : List Str) (f : Str → List Str) : Prop where
  ex : ∃ rs : List (Str × V), Rd H D (.dK (tkv rs)) ∧ rs.map (·.1) = dots ∧ ∀ q ∈ rs, ∃ a : Addr, q.2 = .ref a ∧ H a = some (.lst ((f q.1).map V.str))
structure WebAt (H : Hp) (D : Addr) (dots : List Str) (f : Str → List Str) : Prop where
  ex : ∃ rs : List (Str × V), H D = some (.dK (tkv rs)) ∧ rs.map (·.1) = dots ∧ ∀ q ∈ rs, ∃ a : Addr, q.2 = .ref a ∧ H a = some (.lst ((f q.1).map V.str))
theorem WebR.to {H H' : Hp} {D : Addr} {dots : List Str} {f : Str → List Str} (M : WebR H D dots f) (x : Evl.Ex H H') : WebR H' D dots f := by
  obtain ⟨rs, h1, h2, h3⟩ := M.ex
  exact ⟨rs, rdx h1 x, h2, fun q hq => let ⟨a, e, h⟩ := h3 q hq; ⟨a, e, x _ _ h⟩⟩
def webF (oS nS : Str → Str) (zs ys : List Str) (z : Str) : List Str := if z ∈ ys ∧ nS z ≠ oS z then [oS z, nS z] else if z ∈ zs then [nS z] else [oS z]
theorem tkv_re {tb : List (Str × V)} {z : Str} {u v : V} (h : z ∉ tb.map (·.1)) : putK (tkv (tb ++ [(z, u)])) (Sum.inr z) v = tkv (tb ++ [(z, v)]) := by
  rw [tkv_old (by rw [List.map_append]; exact List.mem_append_right _ List.mem_cons_self), List.map_append]
  congr 2
  · refine (List.map_congr_left fun q hq => ?_).trans (List.map_id _)
    rw [if_neg fun c => h (by rw [← c]; exact List.mem_map_of_mem hq)]
    rfl
  · show [if z = z then (z, v) else (z, u)] = _
    rw [if_pos rfl]
section
variable {P : Program} {w : World} {K : PySem.W.Frag} {mg : Str → Option Value} {base : Heap}
def spWebL (K : PySem.W.Frag) : Sp := fun vs H Q _ => ∃ (m a b nb tb sb pb : Addr) (e : Str) (zs ys ends dots ss ps : List Str) (rows : List (Str × V)) (o n : Str → List (Str × V)) (oS nS : Str → Str), vs = [.ref m, .ref a, .ref b, .str e] ∧ ModelR H m nb tb sb pb ends dots ss ps rows o n ∧ SqT K H a (zs.map V.str) ∧ SqT K H b (ys.map V.str) ∧ e ∈ ends ∧
  (∀ z ∈ dots, look (o e) z = .str (oS z) ∧ look (n e) z = .str (nS z)) ∧ ∀ D H', Evl.Ex H H' → H D = none → WebAt H' D dots (webF oS nS zs ys) → Q (.ref D) H'
abbrev nWebL : List Str := ["model", "done", "fresh", "target", "first", "later", "found", "node"]
theorem sc_webL : FnScope nWebL ["model", "done", "fresh", "target"] (defScope s_web) := ⟨rfl, rfl, rfl, by decide +kernel, rfl, by decide +kernel, by decide +kernel⟩
theorem ok_webL {f : Addr} {fd : FuncData} (F : Fun K "_law_web" "_law_web" s_web f fd) : FnOk P w K mg base CX0 1 f fd ["model", "done", "fresh", "target"] (spWebL K) := by
  refine F.ok sc_webL (fun vs H Q E h => ?_) (fun cdv A outer s H vs Q E hr h => ?_)
  · obtain ⟨m, a, b, nb, tb, sb, pb, e, zs, ys, ends, dots, ss, ps, rows, o, n, oS, nS, rfl, _⟩ := h
    rfl
  · obtain ⟨m, a, b, nb, tb, sb, pb, e, zs, ys, ends, dots, ss, ps, rows, o, n, oS, nS, rfl, MS, ha, hb, he, hlk, k⟩ := h
    have nd := sc_webL.nd
    have hu := hu_of hr
    refine ⟨_, pss_cons (ps_asg (pe_dget hu (pe_dget hu (pv 0) pe_str (fun _ _ => rfl)) (pv 3) (fun _ _ => rfl)) (pg_tup rfl (pgs_cons (pg_name (i := 4) nd rfl (.inl rfl)) (pgs_cons (pg_name (i := 5) nd rfl (.inl rfl)) pgs_nil))))
      (pss_cons (ps_set (i := 6) nd rfl (.inl rfl) pe_dnewK)
      (pss_cons (ps_for PassesOwn.never rfl (pi_list (pe_dget hu (pv 0) pe_str (fun _ _ => rfl))) (pg_name (i := 7) nd rfl (.inl rfl))
        (C8.pss_cut (ps_dput hu (pv 6) (pv 7) (pe_ifExp (pt_cmpR op_in_seq (pv 7) (pv 1) rfl) (pe_lst (pa_cons (pe_dget hu (pv 5) (pv 7) (fun _ _ => rfl)) pa_nil)) (pe_lst (pa_cons (pe_dget hu (pv 4) (pv 7) (fun _ _ => rfl)) pa_nil))) rfl)
        (pss_one (ps_if (PW.pt (pw_and (pt_cmpR op_in_seq (pv 7) (pv 2) rfl) (pw_and1 (pt_cmpR op_ne (pe_dget hu (pv 5) (pv 7) (fun _ _ => rfl)) (pe_dget hu (pv 4) (pv 7) (fun _ _ => rfl)) (nomark _)))))
          (pss_one (ps_dput hu (pv 6) (pv 7) (pe_lst (pa_cons (pe_dget hu (pv 4) (pv 7) (fun _ _ => rfl)) (pa_cons (pe_dget hu (pv 5) (pv 7) (fun _ _ => rfl)) pa_nil))) rfl)) pss_nil))))
      (pss_one (ps_ret (pv 6))))), ?_⟩
    have ok := MS.ok
    have d6 := ok.d6
    obtain ⟨pr, po, pn, hv, pa⟩ := MS.ra e he
    refine ⟨.ref m, rfl, m, _, rfl, dgK MS.hm (mkS_tables _ _ _ _), .str e, rfl, tb, _, rfl, dgR (k := Sum.inr e) MS.ht hv, pr, _, rfl, Evl.st_of pa.hp, rfl, _, _, rfl, _, [], rfl, rfl, ?_⟩
    refine fun Fd hF => ?_
    have x1 : Evl.Ex H (upd H Fd (.dK [])) := Evl.Ex.new hF
    have f1 : (upd H Fd (.dK [])) Fd = some (.dK (tkv [])) := upd_same
    generalize upd H Fd (.dK []) = H1 at x1 f1
    refine ⟨.ref m, rfl, m, _, rfl, dgK (x1 _ _ MS.hm) (mkS_nodes _ _ _ _), nb, rfl, ⟨_, Evl.sq_of (x1 _ _ MS.hn)⟩, for_list (K := K) (a := nb) (xs := dots.map V.str)
      (fun i σ H' => ∃ (x7 : Option V) (rs : List (Str × V)), σ = [some (.ref m), some (.ref a), some (.ref b), some (.str e), some (.ref po), some (.ref pn), some (.ref Fd), x7] ∧ Evl.Ex H H' ∧ H' Fd = some (.dK (tkv rs)) ∧ rs.map (·.1) = dots.take i ∧ ∀ q ∈ rs, ∃ a : Addr, q.2 = .ref a ∧ H' a = some (.lst ((webF oS nS zs ys q.1).map V.str)))
      ⟨none, [], rfl, x1, f1, rfl, fun q hq => nomatch hq⟩ (fun i σ H' _ ⟨_, _, _, x, _⟩ => Evl.sq_of (x _ _ MS.hn)) ?_ ?_⟩
    · rintro i v σ H2 hi ⟨x7, rs, rfl, x2, f2, hk, hrs⟩
      obtain ⟨z, hz, rfl⟩ := str_at hi
      have zd := List.mem_of_getElem? hz
      have etake : dots.take (i + 1) = dots.take i ++ [z] := by rw [List.take_add_one, hz]; rfl
      have hzn : z ∉ rs.map (·.1) := fun hm => by
        rw [hk] at hm
        have h1 : (dots.take (i + 1)).Nodup := ok.dn.sublist (List.take_sublist _ _)
        rw [etake] at h1
        exact (List.nodup_append.mp h1).2.2 z hm z (List.mem_singleton.mpr rfl) rfl
      have rl : rs.length ≤ 6 := by
        have := congrArg List.length hk
        rw [List.length_map, List.length_take] at this
        omega
      have c1 := (look_ok pa.o1 zd).2
      have c2 := (look_ok pa.o2 zd).2
      rw [(hlk z zd).1] at c1
      rw [(hlk z zd).2] at c2
      have pa2 := pa.ex x2
      have go : DGet H2 po (.str z) (some (.str (oS z))) := dgK (k := Sum.inr z) pa2.ho c1
      have gn : DGet H2 pn (.str z) (some (.str (nS z))) := dgK (k := Sum.inr z) pa2.hn c2
      obtain ⟨y0, hy0⟩ : ∃ y0, y0 = if z ∈ zs then nS z else oS z := ⟨_, rfl⟩
      have room : (tkv rs).length < sizeLine := by rw [tkv_len]; exact small1000 (by omega)
      refine ⟨fun σ' H' => σ' = [some (.ref m), some (.ref a), some (.ref b), some (.str e), some (.ref po), some (.ref pn), some (.ref Fd), some (.str z)] ∧ ∃ l : Addr, Evl.Ex H H' ∧ H' Fd = some (.dK (tkv (rs ++ [(z, .ref l)]))) ∧ H' l = some (.lst [.str y0]) ∧ ∀ q ∈ rs, ∃ a : Addr, q.2 = .ref a ∧ H' a = some (.lst ((webF oS nS zs ys q.1).map V.str)), ?_, ?_⟩
      · have fin : ∀ l, H2 l = none → [some (V.ref m), some (.ref a), some (.ref b), some (.str e), some (.ref po), some (.ref pn), some (.ref Fd), some (.str z)] = [some (.ref m), some (.ref a), some (.ref b), some (.str e), some (.ref po), some (.ref pn), some (.ref Fd), some (.str z)] ∧ ∃ l' : Addr, Evl.Ex H (upd (upd H2 l (.lst [.str y0])) Fd (.dK (putK (tkv rs) (Sum.inr z) (.ref l)))) ∧ (upd (upd H2 l (.lst [.str y0])) Fd (.dK (putK (tkv rs) (Sum.inr z) (.ref l)))) Fd = some (.dK (tkv (rs ++ [(z, .ref l')]))) ∧ (upd (upd H2 l (.lst [.str y0])) Fd (.dK (putK (tkv rs) (Sum.inr z) (.ref l)))) l' = some (.lst [.str y0]) ∧
            ∀ q ∈ rs, ∃ a : Addr, q.2 = .ref a ∧ (upd (upd H2 l (.lst [.str y0])) Fd (.dK (putK (tkv rs) (Sum.inr z) (.ref l)))) a = some (.lst ((webF oS nS zs ys q.1).map V.str)) := fun l hl => by
          have ln : l ≠ Fd := fun c => by rw [c, f2] at hl; cases hl
          refine ⟨rfl, l, (x2.trans (Evl.Ex.new hl)).mut hF, by rw [upd_same, tkv_new hzn], by rw [upd_ne ln]; exact upd_same, fun q hq => ?_⟩
          obtain ⟨a', e', h'⟩ := hrs q hq
          have h2' := (Evl.Ex.new (o := .lst [.str y0]) hl) _ _ h'
          exact ⟨a', e', by rw [upd_ne (ne_of h' f2 (by intro z; cases z))]; exact h2'⟩
        refine ⟨.str z, rfl, .ref a, rfl, a, zs.map V.str, rfl, .inr (Evl.ex_t x2 ha), rfl, flat_strs zs, _, rfl, ?_⟩
        rw [inV_str]
        by_cases mz : z ∈ zs
        · rw [if_pos mz] at hy0
          subst hy0
          rw [decide_eq_true mz]
          refine iteT ⟨.ref pn, rfl, .str z, rfl, pn, _, rfl, gn, by show 1 ≤ sizeLine; decide, fun l hl => ?_⟩
          exact ⟨.ref Fd, rfl, .str z, rfl, Fd, _, rfl, DPut.k (k := Sum.inr z) ((Evl.Ex.new hl) _ _ f2) room, fin l hl⟩
        · rw [if_neg mz] at hy0
          subst hy0
          rw [decide_eq_false mz]
          refine iteF ⟨.ref po, rfl, .str z, rfl, po, _, rfl, go, by show 1 ≤ sizeLine; decide, fun l hl => ?_⟩
          exact ⟨.ref Fd, rfl, .str z, rfl, Fd, _, rfl, DPut.k (k := Sum.inr z) ((Evl.Ex.new hl) _ _ f2) room, fin l hl⟩
      rintro σ H3 ⟨rfl, l, x3, f3, l3, old⟩
      have pa3 := pa.ex x3
      have go3 : DGet H3 po (.str z) (some (.str (oS z))) := dgK (k := Sum.inr z) pa3.ho c1
      have gn3 : DGet H3 pn (.str z) (some (.str (nS z))) := dgK (k := Sum.inr z) pa3.hn c2
      have keep : ∀ {l' : List Str}, webF oS nS zs ys z = l' → l' = [y0] → ∃ (x7 : Option V) (rs' : List (Str × V)), [some (V.ref m), some (.ref a), some (.ref b), some (.str e), some (.ref po), some (.ref pn), some (.ref Fd), some (.str z)] = [some (.ref m), some (.ref a), some (.ref b), some (.str e), some (.ref po), some (.ref pn), some (.ref Fd), x7] ∧ Evl.Ex H H3 ∧ H3 Fd = some (.dK (tkv rs')) ∧ rs'.map (·.1) = dots.take (i + 1) ∧ ∀ q ∈ rs', ∃ a : Addr, q.2 = .ref a ∧ H3 a = some (.lst ((webF oS nS zs ys q.1).map V.str)) := fun {l'} e1 e2 => by
        refine ⟨_, rs ++ [(z, .ref l)], rfl, x3, f3, by rw [List.map_append, hk, etake]; rfl, fun q hq => ?_⟩
        rcases List.mem_append.mp hq with hq | hq
        · exact old q hq
        · rw [List.mem_singleton.mp hq]
          exact ⟨l, rfl, by rw [l3, e1, e2]; rfl⟩
      refine ⟨.str z, rfl, .ref b, rfl, b, ys.map V.str, rfl, .inr (Evl.ex_t x3 hb), rfl, flat_strs ys, _, rfl, ?_⟩
      rw [inV_str]
      by_cases my : z ∈ ys
      · rw [decide_eq_true my]
        refine ⟨.ref pn, rfl, .str z, rfl, pn, _, rfl, gn3, .ref po, rfl, .str z, rfl, po, _, rfl, go3, rfl, _, rfl, ?_⟩
        by_cases q : nS z = oS z
        · have hq : decide (V.str (nS z) = V.str (oS z)) = true := decide_eq_true (by rw [q])
          rw [hq]
          refine iteF ?_
          refine keep rfl ?_
          unfold webF
          rw [if_neg fun c => c.2 q, hy0]
          split <;> rfl
        · have hq : decide (V.str (nS z) = V.str (oS z)) = false := decide_eq_false fun c => q (V.str.inj c)
          rw [hq]
          refine iteT ?_
          refine ⟨.ref po, rfl, .str z, rfl, po, _, rfl, go3, .ref pn, rfl, .str z, rfl, pn, _, rfl, gn3, by show 2 ≤ sizeLine; decide, fun l2 hl2 => ?_⟩
          have ln : l2 ≠ Fd := fun c => by rw [c, f3] at hl2; cases hl2
          refine ⟨.ref Fd, rfl, .str z, rfl, Fd, _, rfl, DPut.k (k := Sum.inr z) ((Evl.Ex.new hl2) _ _ f3) (by rw [tkv_len, List.length_append, List.length_singleton]; exact small1000 (by omega)), ?_⟩
          refine ⟨_, rs ++ [(z, .ref l2)], rfl, (x3.trans (Evl.Ex.new hl2)).mut hF, by rw [upd_same, tkv_re hzn], by rw [List.map_append, hk, etake]; rfl, fun q' hq' => ?_⟩
          rcases List.mem_append.mp hq' with hq' | hq'
          · obtain ⟨a', e', h'⟩ := old q' hq'
            have h2' := (Evl.Ex.new (o := .lst [.str (oS z), .str (nS z)]) hl2) _ _ h'
            exact ⟨a', e', by rw [upd_ne (ne_of h' f3 (by intro z; cases z))]; exact h2'⟩
          · rw [List.mem_singleton.mp hq']
            refine ⟨l2, rfl, ?_⟩
            have ew : webF oS nS zs ys z = [oS z, nS z] := by
              unfold webF
              rw [if_pos ⟨my, q⟩]
            show upd (upd H3 l2 _) Fd _ l2 = some (.lst ((webF oS nS zs ys z).map V.str))
            rw [upd_ne ln, ew]
            exact upd_same
      · rw [decide_eq_false my]
        refine iteF (keep rfl ?_)
        unfold webF
        rw [if_neg fun c => my c.1, hy0]
        split <;> rfl
    · rintro σ H2 ⟨x7, rs, rfl, x2, f2, hk, hrs⟩
      rw [List.length_map, List.take_length] at hk
      exact ⟨.ref Fd, rfl, k Fd H2 x2 hF ⟨rs, f2, hk, hrs⟩⟩
end
end Rw
end T_VG

section T_VH
set_option Elab.async false
set_option linter.all false
set_option maxRecDepth 100000
set_option maxHeartbeats 8000000
namespace Rw
open PySem L2 PyProof.Rows
/-! ### numbers that fall along all ways, as this law finds them -/
def insW (dots : List Str) (f : Str → List Str) (z : Str) : List Str := (f z).filter fun y => decide (y ∈ dots)
theorem insW_mem {dots : List Str} {f : Str → List Str} {z y : Str} : y ∈ insW dots f z ↔ y ∈ f z ∧ y ∈ dots := by
  unfold insW
  rw [List.mem_filter, decide_eq_true_iff]
structure Low (dots : List Str) (f : Str → List Str) (dom : List Str) (g : Str → Int) : Prop where
  nd : dom.Nodup
  sub : ∀ z ∈ dom, z ∈ dots
  low : ∀ z ∈ dom, ∀ y ∈ insW dots f z, y ∈ dom ∧ g y < g z
  pos : ∀ z ∈ dom, 0 ≤ g z
def Stuck (dots : List Str) (f : Str → List Str) (dom : List Str) : Prop := ∀ z ∈ dots, z ∉ dom → ∃ y ∈ insW dots f z, y ∉ dom
def numW (dom : List Str) (g : Str → Int) : List (Str × V) := dom.map fun z => (z, V.int (g z))
theorem numW_keys {dom : List Str} {g : Str → Int} : (numW dom g).map (·.1) = dom := by
  unfold numW
  rw [List.map_map]
  exact List.map_id' dom
theorem numW_len {dom : List Str} {g : Str → Int} : (numW dom g).length = dom.length := by unfold numW; rw [List.length_map]
theorem numW_get {dom : List Str} {g : Str → Int} {z : Str} (h : z ∈ dom) : valV (tkv (numW dom g)) (Sum.inr z) = some (.int (g z)) := by
  obtain ⟨v, hv, hm⟩ := tkv_some (tb := numW dom g) (z := z) (by rw [numW_keys]; exact h)
  unfold numW at hm
  obtain ⟨y, _, e⟩ := List.mem_map.mp hm
  cases e
  exact hv
theorem numW_has {dom : List Str} {g : Str → Int} (y : Str) : (valV (tkv (numW dom g)) (Sum.inr y)).isSome = decide (y ∈ dom) := by
  by_cases h : y ∈ dom
  · rw [numW_get h, decide_eq_true h]
    rfl
  · rw [tkv_none (by rw [numW_keys]; exact h), decide_eq_false h]
    rfl
def putW (g : Str → Int) (z : Str) (m : Int) : Str → Int := fun y => if y = z then m else g y
theorem numW_new {dom : List Str} {g : Str → Int} {z : Str} {m : Int} (h : z ∉ dom) : putK (tkv (numW dom g)) (Sum.inr z) (.int m) = tkv (numW (dom ++ [z]) (putW g z m)) := by
  rw [tkv_new (by rw [numW_keys]; exact h)]
  unfold numW
  rw [List.map_append]
  refine congrArg tkv (congr (congrArg _ (List.map_congr_left fun y hy => ?_)) ?_)
  · show (y, V.int (g y)) = (y, V.int (if y = z then m else g y))
    rw [if_neg fun e => h (by rw [← e]; exact hy)]
  · show [(z, V.int m)] = [(z, V.int (if z = z then m else g z))]
    rw [if_pos rfl]
theorem Low.put {dots : List Str} {f : Str → List Str} {dom : List Str} {g : Str → Int} {z : Str} {m : Int} (h : Low dots f dom g) (hz : z ∉ dom) (zd : z ∈ dots) (lo : ∀ y ∈ insW dots f z, y ∈ dom) (m0 : 0 ≤ m) (mg : ∀ y ∈ insW dots f z, g y < m) : Low dots f (dom ++ [z]) (putW g z m) := by
  have far : ∀ y ∈ dom, putW g z m y = g y := fun y hy => show (if y = z then m else g y) = g y from if_neg fun e => hz (by rw [← e]; exact hy)
  have here : putW g z m z = m := if_pos rfl
  refine ⟨?_, fun y hy => ?_, fun y hy x hx => ?_, fun y hy => ?_⟩
  · rw [List.nodup_append]
    exact ⟨h.nd, by simp, fun a ha b hb e => hz (by rw [List.mem_singleton.mp hb] at e; exact e ▸ ha)⟩
  · rcases List.mem_append.mp hy with hy | hy
    · exact h.sub y hy
    · rw [List.mem_singleton.mp hy]; exact zd
  · rcases List.mem_append.mp hy with hy | hy
    · obtain ⟨a1, a2⟩ := h.low y hy x hx
      rw [far y hy, far x a1]
      exact ⟨List.mem_append_left _ a1, a2⟩
    · rw [List.mem_singleton.mp hy] at hx ⊢
      rw [here, far x (lo x hx)]
      exact ⟨List.mem_append_left _ (lo x hx), mg x hx⟩
  · rcases List.mem_append.mp hy with hy | hy
    · rw [far y hy]
      exact h.pos y hy
    · rw [List.mem_singleton.mp hy, here]
      exact m0
theorem wkey_at {rs : List (Str × V)} {dots : List Str} (h : rs.map (·.1) = dots) {i : Nat} {kk : Key} {v : V} (hkv : (tkv rs)[i]? = some (kk, v)) : ∃ z, dots[i]? = some z ∧ kk = Sum.inr z := by
  unfold tkv at hkv
  rw [List.getElem?_map] at hkv
  cases q : rs[i]? with
  | none => rw [q] at hkv; cases hkv
  | some t =>
    rw [q] at hkv
    exact ⟨t.1, by rw [← h, List.getElem?_map, q]; rfl, (congrArg Prod.fst (Option.some.inj hkv)).symm⟩
/-- what is told: numbers, or none where a set is not left -/
def RanksIs (dots : List Str) (f : Str → List Str) (v : V) : Prop :=
  (v = .non ∧ ∃ S : Str → Prop, (∃ z ∈ dots, S z) ∧ ∀ z ∈ dots, S z → ∃ y ∈ f z, y ∈ dots ∧ S y) ∨ ((∃ a, v = .ref a) ∧ ∃ r : Str → Nat, ∀ z ∈ dots, ∀ y ∈ f z, y ∈ dots → r y < r z)
theorem dgV {H : Hp} {a : Addr} {kvs : List (Key × V)} {k : Key} (h : Rd H a (.dK kvs)) : DGet H a (kV k) (valV kvs k) := .inl ⟨kvs, k, h, rfl, rfl⟩
section
variable {P : Program} {w : World} {K : PySem.W.Frag} {mg : Str → Option Value} {base : Heap}
def spRanksW : Sp := fun vs H Q _ => ∃ (D : Addr) (dots : List Str) (f : Str → List Str), vs = [.ref D] ∧ WebAt H D dots f ∧ dots.Nodup ∧ dots.length ≤ 6 ∧ (∀ z ∈ dots, (f z).length ≤ 2) ∧ (∀ z ∈ dots, ∀ y ∈ f z, Nm y) ∧ ∀ v H', Evl.Ex H H' → RanksIs dots f v → Q v H'
abbrev nRanksW : List Str := ["web", "found", "step", "node", "later", "place"]
theorem sc_ranksW : FnScope nRanksW ["web"] (defScope s_ranks) := ⟨rfl, rfl, rfl, by decide +kernel, rfl, by decide +kernel, by decide +kernel⟩
theorem ok_ranksW {f : Addr} {fd : FuncData} (F : Fun K "_law_ranks" "_law_ranks" s_ranks f fd) (mMax : mg "max" = none) (mLen : mg "len" = none) : FnOk P w K mg base CX0 1 f fd ["web"] spRanksW := by
  refine F.ok sc_ranksW (fun vs H Q E h => ?_) (fun cdv A outer s H vs Q E hr h => ?_)
  · obtain ⟨D, dots, f, rfl, _⟩ := h
    rfl
  · obtain ⟨D, dots, f, rfl, M, dn, d6, two, fnm, k⟩ := h
    have nd := sc_ranksW.nd
    have hu := hu_of hr
    refine ⟨_, PSs.nox (pss_cons (ps_set (i := 1) nd rfl (.inr rfl) pe_dnewK)
      (pss_cons (ps_lock (ps_for PassesOwn.never rfl (pi_keys (pv 0)) (pg_name (i := 2) nd rfl (.inl rfl))
        (pss_one (ps_for PassesOwn.never rfl (pi_keys (pv 0)) (pg_name (i := 3) nd rfl (.inl rfl))
          (pss_cons (ps_setLc (i := 4) (own := [("place", 5)]) (g := gName 5) (tt := tB (tDIn (tVar 5) (tVar 0))) (te := tVar 5) (by rfl) nd rfl rfl (sw_true rfl rfl rfl (by decide +kernel)) (pi_list (pe_dget hu (pv 0) (pv 3) (fun _ _ => rfl))) (blkOk_by (own := [("place", 5)]) (N := nRanksW) (sc := defScope s_ranks) (by decide +kernel))
              (fun _ _ _ _ _ => pg_name (i := 5) nd rfl (Or.inl rfl)) (fun _ _ _ _ _ => pts_one (pt_cmp (pc_din hu (pv 5) (pv 0)) rfl)) (fun _ _ _ _ _ => pv 5))
          (pss_one (ps_if (PW.pt (pw_and (pt_cmp (pc_dnotin hu (pv 3) (pv 1)) rfl) (pw_and1 (pt_cmpR (op_eqD hr.units)
              (pe_lc (own := [("place", 5)]) (g := gName 5) (tt := tB (tDNotIn (tVar 5) (tVar 1))) (te := tVar 5) rfl nd (pi_list (pv 4)) (blkOk_by (own := [("place", 5)]) (N := nRanksW) (sc := defScope s_ranks) (by decide +kernel))
                (fun _ _ _ _ _ => pg_name (i := 5) nd rfl (Or.inl rfl)) (fun _ _ _ _ _ => pts_one (pt_cmp (pc_dnotin hu (pv 5) (pv 1)) rfl)) (fun _ _ _ _ _ => pv 5)) (pe_lst pa_nil) (nomark _)))))
            (pss_one (ps_dput hu (pv 1) (pv 3) (pe_callB (cr_max rfl) (by rfl) mMax (by decide +kernel) (pa_cons (pe_op op_cat (pe_lst (pa_cons pe_int pa_nil))
              (pe_lc (own := [("place", 5)]) (g := gName 5) (tt := tYes) (te := tOp (rI0 fun i j => V.int (i + j)) (tDGet (tVar 1) (tVar 5)) (tC (.int 1))) rfl nd (pi_list (pv 4)) (blkOk_by (own := [("place", 5)]) (N := nRanksW) (sc := defScope s_ranks) (by decide +kernel))
                (fun _ _ _ _ _ => pg_name (i := 5) nd rfl (Or.inl rfl)) (fun _ _ _ _ _ => pts_nil) (fun _ _ _ _ _ => pe_op op_add (pe_dget hu (pv 1) (pv 5) (fun _ _ => rfl)) pe_int))) pa_nil)) rfl)) pss_nil)))))))
      (pss_one (ps_ret (pe_ifExp (pt_cmpR op_eq (pe_callB call_lenD (by rfl) mLen PySem.boot_len (pa_cons (pv 1) pa_nil)) (pe_callB call_lenD (by rfl) mLen PySem.boot_len (pa_cons (pv 0) pa_nil)) (nomark _)) (pv 1) pe_non))))), ?_⟩
    obtain ⟨rs, r1, r2, r3⟩ := M.ex
    have rl : rs.length = dots.length := by rw [← r2, List.length_map]
    have tl : (tkv rs).length = dots.length := by rw [tkv_len, rl]
    -- found = {}
    refine fun Fd hF => ?_
    have FD : Fd ≠ D := (ne_of_none r1 hF).symm
    have d0 : (upd H Fd (.dK [])) D = some (.dK (tkv rs)) := by rw [upd_ne FD.symm]; exact r1
    refine ⟨D, .dK (tkv rs), d0, trivial, fun od => ?_⟩
    have hBF : (upd H D (.frz od (.dK (tkv rs)))) Fd = none := by rw [upd_ne FD]; exact hF
    have lockB : (upd H D (.frz od (.dK (tkv rs)))) D = some (.frz od (.dK (tkv rs))) := upd_same
    have back : ∀ {H4 : Hp}, Evl.Ex (upd H D (.frz od (.dK (tkv rs)))) H4 → Evl.Ex H (upd H4 D (.dK (tkv rs))) := fun {H4} x b u h => by
      by_cases q : b = D
      · subst q
        rw [upd_same, ← r1, h]
      · rw [upd_ne q]
        exact x _ _ (by rw [upd_ne q]; exact h)
    have xL : Evl.Ex (upd H D (.frz od (.dK (tkv rs)))) (upd (upd H Fd (.dK [])) D (.frz od (.dK (tkv rs)))) := fun c u h => by
      by_cases q : c = D
      · subst q
        rw [upd_same] at h ⊢
        exact h
      · rw [upd_ne q] at h ⊢
        by_cases q2 : c = Fd
        · subst q2
          rw [hF] at h
          cases h
        · rw [upd_ne q2]
          exact h
    have r3B : ∀ q ∈ rs, ∃ a : Addr, q.2 = .ref a ∧ (upd H D (.frz od (.dK (tkv rs)))) a = some (.lst ((f q.1).map V.str)) := fun q hq => by
      obtain ⟨l, e1, e3⟩ := r3 q hq
      exact ⟨l, e1, by rw [upd_ne (ne_of e3 r1 (by intro z; cases z))]; exact e3⟩
    have fL : (upd (upd H Fd (.dK [])) D (.frz od (.dK (tkv rs)))) Fd = some (.dK (tkv (numW [] fun _ => 0))) := by rw [upd_ne FD]; exact upd_same
    generalize upd (upd H Fd (.dK [])) D (.frz od (.dK (tkv rs))) = HL at xL fL
    generalize upd H D (.frz od (.dK (tkv rs))) = HB at hBF lockB back xL r3B
    -- for step in web
    refine ⟨.ref D, rfl, D, od, rfl, .inl ⟨tkv rs, xL _ _ lockB, for_it walk_keys
      (fun i σ H' => ∃ (x6 x7 x8 : Option V) (dom : List Str) (g : Str → Int), σ = [some (.ref D), some (.ref Fd), x6, x7, x8, none] ∧ Evl.Ex HB H' ∧ H' Fd = some (.dK (tkv (numW dom g))) ∧ Low dots f dom g ∧ (i ≤ dom.length ∨ Stuck dots f dom))
      ⟨none, none, none, [], _, rfl, xL, fL, ⟨List.nodup_nil, (fun z h => nomatch h), (fun z h => nomatch h), (fun z h => nomatch h)⟩, .inl (Nat.zero_le _)⟩ (fun i σ H' _ ⟨_, _, _, _, _, _, x, _⟩ => x _ _ lockB) ?_ ?_⟩⟩
    · rintro i x σ H2 H2' hi ⟨x6, x7, x8, dom0, g0, rfl, x2, f2, N2, pr⟩ ⟨rfl, kk, v, hkv, rfl⟩
      rw [tl] at hi
      -- for node in web
      refine ⟨.ref D, rfl, D, od, rfl, .inl ⟨tkv rs, x2 _ _ lockB, for_it walk_keys
        (fun j σ H' => ∃ (x7 x8 : Option V) (mo : List Str) (g : Str → Int), σ = [some (.ref D), some (.ref Fd), some (kV kk), x7, x8, none] ∧ Evl.Ex HB H' ∧ H' Fd = some (.dK (tkv (numW (dom0 ++ mo) g))) ∧ Low dots f (dom0 ++ mo) g ∧
          (Stuck dots f dom0 → mo = []) ∧ ∀ z ∈ dots.take j, (∀ y ∈ insW dots f z, y ∈ dom0) → z ∈ dom0 ++ mo)
        ⟨x7, x8, [], g0, rfl, x2, by rw [List.append_nil]; exact f2, by rw [List.append_nil]; exact N2, fun _ => rfl, fun z hz => by cases hz⟩ (fun j σ H' _ ⟨_, _, _, _, _, x, _⟩ => x _ _ lockB) ?_ ?_⟩⟩
      · rintro j y0 σ H4 H4' hj ⟨y7, y8, mo, g, rfl, x4, f4, N4, halt, seen⟩ ⟨rfl, k2, v2, hkv2, rfl⟩
        rw [tl] at hj
        obtain ⟨z, hz, rfl⟩ := wkey_at r2 hkv2
        have zd := List.mem_of_getElem? hz
        have et : dots.take (j + 1) = dots.take j ++ [z] := by rw [List.take_add_one, hz]; rfl
        have dl := nodup_le (dom0 ++ mo) dots N4.nd N4.sub
        obtain ⟨zl, hzl, hz3⟩ : ∃ l : Addr, valV (tkv rs) (Sum.inr z) = some (.ref l) ∧ HB l = some (.lst ((f z).map V.str)) := by
          obtain ⟨u, h1, h2⟩ := tkv_some (tb := rs) (z := z) (by rw [r2]; exact zd)
          obtain ⟨l, e1, e3⟩ := r3B _ h2
          exact ⟨l, by rw [h1]; exact congrArg some e1, e3⟩
        have f2l := two z zd
        -- later
        refine ⟨.ref D, rfl, .str z, rfl, D, _, rfl, dgR (k := Sum.inr z) (.inr ⟨od, x4 _ _ lockB⟩) hzl, zl, rfl, ⟨_, Evl.sq_of (x4 _ _ hz3)⟩, fun R hR => lc_list (K := K) (a := zl) (xs := (f z).map V.str)
          (fun i H' => Evl.Ex H4' H' ∧ H' R = some (.lst ((((f z).take i).filter fun y => decide (y ∈ dots)).map V.str))) ⟨Evl.Ex.new hR, upd_same⟩ (fun i H' _ h => Evl.sq_of (h.1 _ _ (x4 _ _ hz3))) ?_ ?_⟩
        · rintro l y1 H6 hl ⟨x6', h6⟩
          obtain ⟨y, hy, rfl⟩ := str_at hl
          have et1 : (f z).take (l + 1) = (f z).take l ++ [y] := by rw [List.take_add_one, hy]; rfl
          have hasD : (valV (tkv rs) (Sum.inr y)).isSome = decide (y ∈ dots) := by
            by_cases q : y ∈ dots
            · obtain ⟨u, h1, _⟩ := tkv_some (tb := rs) (z := y) (by rw [r2]; exact q)
              rw [h1, decide_eq_true q]
              rfl
            · rw [tkv_none (by rw [r2]; exact q), decide_eq_false q]
              rfl
          refine ⟨rfl, .str y, rfl, .ref D, rfl, D, _, rfl, dgV (k := Sum.inr y) (.inr ⟨od, x6' _ _ (x4 _ _ lockB)⟩), _, rfl, ?_⟩
          rw [hasD]
          by_cases q : y ∈ dots
          · rw [decide_eq_true q]
            refine iteT ⟨.str y, rfl, _, h6, by rw [List.length_map]; exact small1000 (Nat.le_trans (List.length_filter_le _ _) (by rw [List.length_take]; omega)), x6'.mut hR, ?_⟩
            rw [upd_same, et1, List.filter_append, List.filter_cons_of_pos (by rw [decide_eq_true q]), List.filter_nil, List.map_append]
            rfl
          · rw [decide_eq_false q]
            refine iteF ⟨x6', ?_⟩
            rw [h6, et1, List.filter_append, List.filter_cons_of_neg (by rw [decide_eq_false q]; decide), List.filter_nil, List.append_nil]
        rintro H6 ⟨x6', h6⟩
        rw [List.length_map, List.take_length] at h6
        obtain ⟨ls, hls⟩ : ∃ ls, ls = insW dots f z := ⟨_, rfl⟩
        have h6' : H6 R = some (.lst (ls.map V.str)) := by rw [hls]; exact h6
        have lsl : ls.length ≤ 2 := by rw [hls]; exact Nat.le_trans (List.length_filter_le _ _) f2l
        have lnm : ∀ y ∈ ls, Nm y := fun y hy => by rw [hls] at hy; exact fnm z zd y (insW_mem.mp hy).1
        have x46 := x4.trans x6'
        have f6 := x6' _ _ f4
        -- what is kept where nothing is put
        have stay : ∀ {Hx : Hp}, Evl.Ex H6 Hx → (z ∈ dom0 ++ mo ∨ ¬ ∀ y ∈ ls, y ∈ dom0 ++ mo) → ∃ (x7 x8 : Option V) (mo' : List Str) (g' : Str → Int), [some (V.ref D), some (.ref Fd), some (kV kk), some (.str z), some (.ref R), none] = [some (.ref D), some (.ref Fd), some (kV kk), x7, x8, none] ∧ Evl.Ex HB Hx ∧ Hx Fd = some (.dK (tkv (numW (dom0 ++ mo') g'))) ∧ Low dots f (dom0 ++ mo') g' ∧
            (Stuck dots f dom0 → mo' = []) ∧ ∀ z ∈ dots.take (j + 1), (∀ y ∈ insW dots f z, y ∈ dom0) → z ∈ dom0 ++ mo' := fun {Hx} x why => by
          refine ⟨_, _, mo, g, rfl, x46.trans x, x _ _ f6, N4, halt, fun t ht low => ?_⟩
          rw [et] at ht
          rcases List.mem_append.mp ht with ht | ht
          · exact seen t ht low
          · rw [List.mem_singleton.mp ht] at low ⊢
            rw [← hls] at low
            exact why.resolve_right fun c => c fun y hy => List.mem_append_left _ (low y hy)
        -- node not in found and ..
        refine ⟨.str z, rfl, .ref Fd, rfl, Fd, _, rfl, dgV (k := Sum.inr z) (.inl f6), _, rfl, ?_⟩
        rw [numW_has]
        by_cases zi : z ∈ dom0 ++ mo
        · rw [decide_eq_true zi]
          exact iteF (stay (Evl.Ex.refl _) (.inl zi))
        rw [decide_eq_false zi]
        refine iteT ⟨.ref R, rfl, R, rfl, ⟨_, Evl.sq_of h6'⟩, fun R2 hR2 => lc_list (K := K) (a := R) (xs := ls.map V.str)
          (fun i H' => Evl.Ex H6 H' ∧ H' R2 = some (.lst (((ls.take i).filter fun y => decide (y ∉ dom0 ++ mo)).map V.str))) ⟨Evl.Ex.new hR2, upd_same⟩ (fun i H' _ h => Evl.sq_of (h.1 _ _ h6')) ?_ ?_⟩
        · rintro l y1 H7 hl ⟨x7', h7⟩
          obtain ⟨y, hy, rfl⟩ := str_at hl
          have et1 : ls.take (l + 1) = ls.take l ++ [y] := by rw [List.take_add_one, hy]; rfl
          refine ⟨rfl, .str y, rfl, .ref Fd, rfl, Fd, _, rfl, dgV (k := Sum.inr y) (.inl (x7' _ _ f6)), _, rfl, ?_⟩
          rw [numW_has]
          by_cases q : y ∈ dom0 ++ mo
          · rw [decide_eq_true q]
            refine iteF ⟨x7', ?_⟩
            rw [h7, et1, List.filter_append, List.filter_cons_of_neg (by rw [decide_eq_false (not_not_intro q)]; decide), List.filter_nil, List.append_nil]
          · rw [decide_eq_false q]
            refine iteT ⟨.str y, rfl, _, h7, by rw [List.length_map]; exact small1000 (Nat.le_trans (List.length_filter_le _ _) (by rw [List.length_take]; omega)), x7'.mut hR2, ?_⟩
            rw [upd_same, et1, List.filter_append, List.filter_cons_of_pos (by rw [decide_eq_true q]), List.filter_nil, List.map_append]
            rfl
        rintro H7 ⟨x7', h7⟩
        rw [List.length_map, List.take_length] at h7
        obtain ⟨un, hun⟩ : ∃ un, un = ls.filter fun y => decide (y ∉ dom0 ++ mo) := ⟨_, rfl⟩
        rw [← hun] at h7
        refine ⟨by show 0 ≤ sizeLine; decide, fun e0 he0 => ?_⟩
        have x8' : Evl.Ex H7 (upd H7 e0 (.lst [])) := Evl.Ex.new he0
        have un8 := x8' _ _ h7
        obtain ⟨dd, g1', g2', g3'⟩ := data_list (K := K) (Evl.sq_of un8) fun v hv => by
          obtain ⟨y, hy, rfl⟩ := List.mem_map.mp hv
          rw [hun] at hy
          exact nm_data (lnm y (List.mem_filter.mp hy).1)
        refine ⟨dd, .list [], g1', .lst (Evl.sq_of upd_same) .nil, g2', by rfl, ?_⟩
        rw [g3', show (un.map V.str).isEmpty = un.isEmpty by cases un <;> rfl]
        have x68 := x7'.trans x8'
        generalize upd H7 e0 (.lst []) = H8 at x8' x68
        refine ⟨_, rfl, ?_⟩
        by_cases all : ∀ y ∈ ls, y ∈ dom0 ++ mo
        · have eu : un = [] := by
            rw [hun, List.filter_eq_nil_iff]
            intro y hy
            rw [decide_eq_false (not_not_intro (all y hy))]
            decide
          rw [eu]
          refine iteT ?_
          -- found[node] = max([0] + [..])
          refine ⟨by show 1 ≤ sizeLine; decide, fun p1 hp1 => ?_⟩
          have x9 : Evl.Ex H8 (upd H8 p1 (.lst [.int 0])) := Evl.Ex.new hp1
          have q1 : (upd H8 p1 (.lst [.int 0])) p1 = some (.lst [.int 0]) := upd_same
          generalize upd H8 p1 (.lst [.int 0]) = H9 at x9 q1
          have x69 := x68.trans x9
          refine ⟨.ref R, rfl, R, rfl, ⟨_, Evl.sq_of (x69 _ _ h6')⟩, fun R3 hR3 => lc_list (K := K) (a := R) (xs := ls.map V.str)
            (fun i H' => Evl.Ex H9 H' ∧ H' R3 = some (.lst (((ls.take i).map fun y => g y + 1).map V.int))) ⟨Evl.Ex.new hR3, upd_same⟩ (fun i H' _ h => Evl.sq_of (h.1 _ _ (x69 _ _ h6'))) ?_ ?_⟩
          · rintro l y1 HA hl ⟨xA, hA⟩
            obtain ⟨y, hy, rfl⟩ := str_at hl
            have et2 : ls.take (l + 1) = ls.take l ++ [y] := by rw [List.take_add_one, hy]; rfl
            have gy := numW_get (dom := dom0 ++ mo) (g := g) (all y (List.mem_of_getElem? hy))
            refine ⟨rfl, yes_if ?_⟩
            refine ⟨.ref Fd, rfl, .str y, rfl, Fd, _, rfl, dgR (k := Sum.inr y) (.inl (xA _ _ (x69 _ _ f6))) gy, _, _, rfl, rfl, _, hA, by rw [List.length_map, List.length_map, List.length_take]; exact small1000 (by omega), xA.mut hR3, ?_⟩
            rw [upd_same, et2, List.map_append, List.map_append]
            rfl
          rintro HA ⟨xA, hA⟩
          rw [List.length_map, List.take_length] at hA
          refine ⟨p1, R3, [.int 0], _, rfl, rfl, xA _ _ q1, hA, Nat.le_of_lt (small1000 (by rw [List.length_map, List.length_map]; show 1 + ls.length ≤ 1000; omega)), fun p3 hp3 => ?_⟩
          have xB : Evl.Ex HA (upd HA p3 (.lst ([.int 0] ++ (ls.map fun y => g y + 1).map V.int))) := Evl.Ex.new hp3
          have qB : (upd HA p3 (.lst ([.int 0] ++ (ls.map fun y => g y + 1).map V.int))) p3 = some (.lst ((0 :: ls.map fun y => g y + 1).map V.int)) := upd_same
          generalize upd HA p3 (.lst ([.int 0] ++ (ls.map fun y => g y + 1).map V.int)) = HC at xB qB
          have x6C := x69.trans (xA.trans xB)
          refine ⟨p3, 0 :: ls.map fun y => g y + 1, rfl, Evl.sq_of qB, by rw [List.length_cons]; omega, fun mx m1 m2 => ?_⟩
          refine ⟨.ref Fd, rfl, .str z, rfl, Fd, _, rfl, DPut.k (k := Sum.inr z) (x6C _ _ f6) (by rw [tkv_len, numW_len]; exact small1000 (by omega)), ?_⟩
          have NN : Low dots f ((dom0 ++ mo) ++ [z]) (putW g z mx) := N4.put zi zd (fun y hy => all y (by rw [hls]; exact hy)) (m2 0 List.mem_cons_self) fun y hy => by
            have := m2 (g y + 1) (List.mem_cons_of_mem _ (List.mem_map.mpr ⟨y, by rw [hls]; exact hy, rfl⟩))
            omega
          refine ⟨_, _, mo ++ [z], putW g z mx, rfl, (x46.trans x6C).mut hBF, by rw [upd_same, numW_new zi, List.append_assoc], by rw [← List.append_assoc]; exact NN, fun st => ?_, fun t ht low => ?_⟩
          · have m0 := halt st
            subst m0
            rw [List.append_nil] at zi all
            obtain ⟨y, hy, ny⟩ := st z zd zi
            exact (ny (all y (by rw [hls]; exact hy))).elim
          · rw [← List.append_assoc]
            rw [et] at ht
            rcases List.mem_append.mp ht with ht | ht
            · exact List.mem_append_left _ (seen t ht low)
            · exact List.mem_append_right _ ht
        · have eu : un.isEmpty = false := by
            cases hu2 : un with
            | nil =>
              refine absurd (fun y hy => Decidable.byContradiction fun c => ?_) all
              have m : y ∈ un := by rw [hun]; exact List.mem_filter.mpr ⟨hy, decide_eq_true c⟩
              rw [hu2] at m
              cases m
            | cons _ _ => rfl
          rw [eu]
          exact iteF (stay x68 (.inr all))
      · rintro σ H4 ⟨y7, y8, mo, g, rfl, x4, f4, N4, halt, seen⟩
        rw [tl, List.take_length] at seen
        refine ⟨_, y7, y8, dom0 ++ mo, g, rfl, x4, f4, N4, ?_⟩
        rcases pr with pr | pr
        · by_cases big : i + 1 ≤ (dom0 ++ mo).length
          · exact .inl big
          · rw [List.length_append] at big
            have e0 : mo = [] := List.eq_nil_of_length_eq_zero (by omega)
            subst e0
            rw [List.append_nil] at seen
            refine .inr fun z zd zn => Decidable.byContradiction fun c => ?_
            rw [List.append_nil] at zn
            exact zn (seen z zd fun y hy => Decidable.byContradiction fun q => c ⟨y, hy, by rw [List.append_nil]; exact q⟩)
        · rw [halt pr, List.append_nil]
          exact .inr pr
    · rintro σ H4 ⟨x6, x7, x8, dom, g, rfl, x4, f4, N4, pr⟩
      rw [tl] at pr
      refine ⟨x4 _ _ lockB, ?_⟩
      have x5 := back x4
      have f5 : (upd H4 D (.dK (tkv rs))) Fd = some (.dK (tkv (numW dom g))) := by rw [upd_ne FD]; exact f4
      have d5 : (upd H4 D (.dK (tkv rs))) D = some (.dK (tkv rs)) := upd_same
      generalize upd H4 D (.dK (tkv rs)) = H5 at x5 f5 d5
      -- found if len(found) == len(web) else None
      refine ⟨.ref Fd, rfl, Fd, _, rfl, f5, .ref D, rfl, D, _, rfl, d5, rfl, _, rfl, ?_⟩
      rw [tl, tkv_len, numW_len]
      by_cases sh : dom.length = dots.length
      · rw [decide_eq_true (show V.int (dom.length : Int) = V.int (dots.length : Int) by rw [sh])]
        have full : ∀ z ∈ dots, z ∈ dom := fun z hz => Decidable.byContradiction fun q => by
          have := nodup_le (z :: dom) dots (List.nodup_cons.mpr ⟨q, N4.nd⟩) fun y hy => by
            rcases List.mem_cons.mp hy with e | hy
            · rw [e]; exact hz
            · exact N4.sub y hy
          rw [List.length_cons] at this
          omega
        refine iteT ⟨.ref Fd, rfl, k (.ref Fd) H5 x5 (.inr ⟨⟨Fd, rfl⟩, fun z => (g z).toNat, fun z hz y hy yd => ?_⟩)⟩
        obtain ⟨_, h2⟩ := N4.low z (full z hz) y (insW_mem.mpr ⟨hy, yd⟩)
        have := N4.pos y (full y yd)
        have := N4.pos z (full z hz)
        show (g y).toNat < (g z).toNat
        omega
      · rw [decide_eq_false (show ¬ V.int (dom.length : Int) = V.int (dots.length : Int) from fun c => sh (by injection c with c; omega))]
        have dl := nodup_le dom dots N4.nd N4.sub
        refine iteF (k .non H5 x5 (.inl ⟨rfl, fun z => z ∉ dom, ?_, fun z hz sz => ?_⟩))
        · refine Decidable.byContradiction fun c => sh ?_
          have := nodup_le dots dom dn fun z hz => Decidable.byContradiction fun q => c ⟨z, hz, q⟩
          omega
        · obtain ⟨y, hy, ny⟩ := (pr.resolve_left fun q => sh (by omega)) z hz sz
          obtain ⟨a1, a2⟩ := insW_mem.mp hy
          exact ⟨y, a1, a2, ny⟩
end
end Rw
end T_VH

section T_TP
set_option Elab.async false
set_option linter.all false
set_option maxRecDepth 100000
set_option maxHeartbeats 4000000
namespace Rw
open PySem L2 PyProof.Rows
theorem pathT_place : ∀ {ws : List Str} {p : Str} {q : Str × V}, ws.Nodup → q ∈ pathT p ws → q.1 ∈ ws ∧ (q.2 = .str p ∨ ∃ y ∈ ws, y ≠ q.1 ∧ q.2 = .str y)
  | [], _, _, _, h => nomatch h
  | z :: ws, p, q, nd, h => by
    obtain ⟨zn, nd'⟩ := List.nodup_cons.mp nd
    rcases List.mem_cons.mp (show q ∈ (z, V.str p) :: pathT z ws from h) with rfl | h
    · exact ⟨List.mem_cons_self, .inl rfl⟩
    · obtain ⟨h1, h2⟩ := pathT_place nd' h
      refine ⟨List.mem_cons_of_mem _ h1, .inr ?_⟩
      rcases h2 with h2 | ⟨y, hy, ne, h2⟩
      · exact ⟨z, List.mem_cons_self, fun c => zn (c ▸ h1), h2⟩
      · exact ⟨y, List.mem_cons_of_mem _ hy, ne, h2⟩
section
variable {P : Program} {w : World} {K : PySem.W.Frag} {mg : Str → Option Value} {base : Heap}
/-! ### the table of a path -/
def spTableP (K : PySem.W.Frag) : Sp := fun vs H Q _ => ∃ (d g c a : Addr) (zs : List Str) (e : Str), vs = [.ref d, .ref a, .str e, .str "path"] ∧ DrawAt H d g c ∧ SqL K (off d g H) a (zs.map V.str) ∧ zs.Nodup ∧ (∀ z ∈ zs, Nm z) ∧ Nm e ∧ e ∉ zs ∧ zs.length ≤ 10 ∧
  ∀ (p : Addr) (ws : List Str) (H' : Hp), ws.Perm zs → TabOk zs e (pathT e ws) → DrawAt H' d g c → Evl.Ex (off d g H) (off d g H') → H p = none → off d g H' p = some (.dK (tkv (pathT e ws))) → Q (.ref p) H'
theorem ok_tableP {f fM fP : Addr} {fd fdM fdP : FuncData} (F : Fun K "_law_table" "_law_table" s_table f fd)
    (M : FnOk P w K mg base CX0 3 fM fdM ["draw", "some"] (spMixed K)) (kM : PySem.W.keepIn K (.ref fM) = true) (bM : Binds K fdM ["draw", "some"] []) (gM : mg "_law_mixed" = some (.ref fM))
    (PL : FnOk P w K mg base CX0 3 fP fdP ["draw", "some"] (spPickL K)) (kP : PySem.W.keepIn K (.ref fP) = true) (bP : Binds K fdP ["draw", "some"] []) (gP : mg "_law_pick" = some (.ref fP)) (mEnum : mg "enumerate" = none) (mMax : mg "max" = none) :
    FnOk P w K mg base CX0 4 f fd ["draw", "nodes", "target", "way"] (spTableP K) := by
  refine F.ok sc_table (fun vs H Q E h => ?_) (fun cdv A outer s H vs Q E hr h => ?_)
  · obtain ⟨d, g, c, a, zs, e, rfl, _⟩ := h
    rfl
  · obtain ⟨d, g, c, a, zs, e, rfl, D, hS, hnd, hnm, he, hez, hzl, k⟩ := h
    have nd := sc_table.nd
    have hu := hu_of hr
    refine ⟨_, pss_cons (ps_par (i := 4) (j := 5) (by rfl) nd rfl rfl (by decide) rfl rfl (pa_cons pe_dnewK (pa_cons (pe_call M hr rfl gM kM bM .nil pass0 (pa_cons (pv 0) (pa_cons (pv 1) pa_nil))) pa_nil)) (by rfl))
      (pss_cons (ps_for PassesOwn.never rfl (pi_enum (by rfl) mEnum (pa_cons (pv 5) pa_nil)) (pg_tup rfl (pgs_cons (pg_name (i := 6) nd rfl (.inl rfl)) (pgs_cons (pg_name (i := 7) nd rfl (.inr rfl)) pgs_nil)))
        (pss_one (ps_if (pt_cmpR op_eq (pv 3) pe_str (nomark _))
          (pss_one (ps_dput hu (pv 4) (pv 7) (pe_call PL hr rfl gP kP bP .nil pass0 (pa_cons (pv 0) (pa_cons (pe_op op_cat (pe_op op_cat (pe_lst (pa_cons (pv 2) pa_nil)) (pe_slice sl_list (pv 5) po_none (po_some (pv 6))))
            (pe_op op_rep (pe_slice sl_list (pv 5) (po_some (pe_callB (call_max2 rfl) (by rfl) mMax (by decide +kernel) (pa_cons pe_int (pa_cons (pe_op op_sub (pv 6) pe_int) pa_nil)))) (po_some (pv 6))) pe_int)) pa_nil))) rfl))
          (pss_one (ps_if (pt_cmpR op_eq (pv 3) pe_str (nomark _))
            (pss_one (ps_dput hu (pv 4) (pv 7) (pe_ifExp (pt_cmpR op_gt (pv 6) pe_int (nomark _)) (pe_ix ix_list (pv 5) (pe_op op_sub (pv 6) pe_int) (fun _ _ => rfl)) (pv 2)) rfl))
            (pss_one (ps_dput hu (pv 4) (pv 7) (pe_call PL hr rfl gP kP bP .nil pass0 (pa_cons (pv 0) (pa_cons (pe_op op_cat (pe_lst (pa_cons (pv 2) (pa_cons (pv 2) (pa_cons pe_non pa_nil))))
              (pe_op op_rep (pe_lc (own := [("other", 8)]) (g := gName 8) (tt := tTest (tOp rNe (tVar 8) (tVar 7))) (te := tVar 8) rfl nd (pi_list (pv 1)) (blkOk_by (own := [("other", 8)]) (N := nTable) (sc := defScope s_table) (by decide +kernel))
                (fun _ _ _ _ _ => pg_name (i := 8) nd rfl (Or.inl rfl)) (fun _ _ _ _ _ => pts_one (pt_cmpR op_ne (pv 8) (pv 7) (nomark _))) (fun _ _ _ _ _ => pv 8)) pe_int)) pa_nil))) rfl)))))))
      (pss_one (ps_ret (pv 4)))), ?_⟩
    refine fun fd0 hfd => ?_
    have nfd := D.ned hfd
    have D1 : DrawAt (upd H fd0 (.dK [])) d g c := D.new hfd
    have x1 : Evl.Ex (off d g H) (off d g (upd H fd0 (.dK []))) := off_ex (Evl.Ex.new hfd)
    have e1 : off d g (upd H fd0 (.dK [])) fd0 = some (.dK (tkv [])) := off_of upd_same nfd.1 nfd.2.1
    generalize upd H fd0 (.dK []) = H1 at D1 x1 e1
    refine ⟨.ref d, rfl, .ref a, rfl, d, g, c, a, zs.map V.str, rfl, D1, .inl (Evl.ex_l x1 hS), by rw [List.length_map]; omega, fun v hv => ?_, fun lp ys H2 hperm D2 x2 hlp0 hlp => ?_⟩
    · obtain ⟨z, hz, rfl⟩ := List.mem_map.mp hv
      exact nm_data (hnm z hz)
    obtain ⟨ws, rfl, hws⟩ := perm_strs hperm
    have wnd : ws.Nodup := hws.nodup_iff.mpr hnd
    have wl : ws.length ≤ 10 := by rw [hws.length_eq]; exact hzl
    have x12 := x1.trans x2
    have e2 := x2 _ _ e1
    have lf : lp ≠ fd0 := ne_of hlp e2 (by intro z; cases z)
    refine ⟨_, _, rfl, ?_⟩
    have hfd0 : off d g H fd0 = none := off_free hfd
    refine ⟨.ref lp, rfl, lp, _, rfl, Evl.sq_of (off_some hlp).2.2, for_it (walk_enum (K := K) (a := lp) (xs := ws.map V.str))
      (fun i σ H' => ∃ (x6 x7 : Option V), σ = [some (.ref d), some (.ref a), some (.str e), some (.str "path"), some (.ref fd0), some (.ref lp), x6, x7, none] ∧ i ≤ ws.length ∧
        off d g H' fd0 = some (.dK (tkv (pathT e (ws.take i)))) ∧ DrawAt H' d g c ∧ Evl.Ex (off d g H) (off d g H') ∧ off d g H' lp = some (.lst (ws.map V.str)))
      ⟨none, none, rfl, Nat.zero_le _, e2, D2, x12, hlp⟩ (fun i σ H' _ ⟨_, _, _, _, _, _, _, h⟩ => Evl.sq_of (off_some h).2.2) ?_ ?_⟩
    · rintro i x σ H4 H4' hi ⟨x6, x7, rfl, _, f4, D4, x4, l4⟩ ⟨Tt, xk, xv, rfl, hTt, rfl, hxk, hxv⟩
      obtain rfl : xk = .int (i : Nat) := (Option.some.inj hxk).symm
      obtain ⟨z, hz, rfl⟩ := str_at hxv
      have hil : i < ws.length := (List.getElem?_eq_some_iff.mp hz).1
      have etake : ws.take (i + 1) = ws.take i ++ [z] := by rw [List.take_add_one, hz]; rfl
      have hzn : z ∉ ws.take i := fun hm => by
        have h1 : (ws.take (i + 1)).Nodup := wnd.sublist (List.take_sublist _ _)
        rw [etake] at h1
        exact (List.nodup_append.mp h1).2.2 z hm z (List.mem_singleton.mpr rfl) rfl
      have y1 : Evl.Ex H4 (upd H4 Tt (.tup [.int (i : Nat), .str z])) := Evl.Ex.new hTt
      have t1 : (upd H4 Tt (.tup [.int (i : Nat), .str z])) Tt = some (.tup [.int (i : Nat), .str z]) := upd_same
      generalize upd H4 Tt (.tup [.int (i : Nat), .str z]) = H5 at y1 t1
      have D5 := D4.ext y1
      have z5 := off_ex (d := d) (g := g) y1
      have f5 := z5 _ _ f4
      have l5 := z5 _ _ l4
      have x5 := x4.trans z5
      have pl : (pathT e (ws.take i)).length ≤ 10 := by
        have h1 := congrArg List.length (pathT_keys e (ws.take i))
        rw [List.length_map, List.length_take] at h1
        omega
      have fin : ∀ {v : V}, v = .str (endS e (ws.take i)) → ∃ (x6 x7 : Option V), [some (V.ref d), some (.ref a), some (.str e), some (.str "path"), some (.ref fd0), some (.ref lp), some (.int (i : Nat)), some (.str z), none] = [some (V.ref d), some (.ref a), some (.str e), some (.str "path"), some (.ref fd0), some (.ref lp), x6, x7, none] ∧ i + 1 ≤ ws.length ∧
          off d g (upd H5 fd0 (.dK (putK (tkv (pathT e (ws.take i))) (Sum.inr z) v))) fd0 = some (.dK (tkv (pathT e (ws.take (i + 1))))) ∧ DrawAt (upd H5 fd0 (.dK (putK (tkv (pathT e (ws.take i))) (Sum.inr z) v))) d g c ∧ Evl.Ex (off d g H) (off d g (upd H5 fd0 (.dK (putK (tkv (pathT e (ws.take i))) (Sum.inr z) v)))) ∧ off d g (upd H5 fd0 (.dK (putK (tkv (pathT e (ws.take i))) (Sum.inr z) v))) lp = some (.lst (ws.map V.str)) := fun {v} ev => by
        subst ev
        refine ⟨_, _, rfl, hil, ?_, D5.mut nfd.1 nfd.2.1 nfd.2.2, off_mut x5 hfd0, ?_⟩
        · rw [tkv_new (by rw [pathT_keys]; exact hzn), etake, pathT_snoc]
          exact off_of upd_same nfd.1 nfd.2.1
        · have h1 := off_some l5
          exact off_of (by rw [upd_ne lf]; exact h1.2.2) h1.1 h1.2.1
      have small : (tkv (pathT e (ws.take i))).length < sizeLine := by rw [tkv_len]; exact small1000 (by omega)
      refine ⟨Tt, _, rfl, Evl.st_of t1, rfl, _, _, rfl, _, [], rfl, rfl, ?_⟩
      refine ⟨.str "path", rfl, rfl, false, by rfl, iteF ?_⟩
      refine ⟨.str "path", rfl, rfl, true, by rfl, iteT ?_⟩
      refine ⟨.int (i : Nat), rfl, (i : Int), 0, rfl, rfl, _, rfl, ite2 (fun hpos => ?_) (fun hpos => ?_)⟩
      · have hpos' : 0 < i := by
          have := of_decide_eq_true hpos
          omega
        obtain ⟨j, rfl⟩ : ∃ j, i = j + 1 := ⟨i - 1, by omega⟩
        have hj : ws[j]? = some ws[j] := List.getElem?_eq_getElem (by omega)
        refine ⟨.ref lp, rfl, .int ((j + 1 : Nat) : Int), rfl, ((j + 1 : Nat) : Int), 1, rfl, rfl, lp, _, _, .str ws[j], rfl, rfl, Evl.sq_of (off_some l5).2.2, ?_, ?_⟩
        · rw [show ((j + 1 : Nat) : Int) - 1 = (j : Int) by omega]
          exact atI_nat (by rw [List.getElem?_map, hj]; rfl)
        · refine ⟨.ref fd0, rfl, .str z, rfl, fd0, _, rfl, DPut.k (k := Sum.inr z) (off_some f5).2.2 small, fin ?_⟩
          have h1 := endS_take e ws (j + 1) (by omega)
          have h2 : (e :: ws)[j + 1]? = ws[j]? := rfl
          rw [h2, hj] at h1
          rw [← Option.some.inj h1]
      · have i0 : i = 0 := Nat.eq_zero_of_not_pos fun q => hpos (decide_eq_true (by omega))
        subst i0
        refine ⟨.str e, rfl, .ref fd0, rfl, .str z, rfl, fd0, _, rfl, DPut.k (k := Sum.inr z) (off_some f5).2.2 small, fin ?_⟩
        rw [List.take_zero]
        rfl
    · rintro σ H4 ⟨x6, x7, rfl, _, f4, D4, x4, l4⟩
      rw [List.length_map, List.take_length] at f4
      have kn := pathT_keys e ws
      refine ⟨.ref fd0, rfl, k fd0 ws H4 hws ⟨?_, ?_⟩ D4 x4 hfd f4⟩
      · rw [kn]
        exact hws
      · intro q hq
        obtain ⟨_, h | ⟨y, hy, ne, h⟩⟩ := pathT_place wnd hq
        · exact .inr (.inl h)
        · exact .inr (.inr ⟨y, hws.mem_iff.mp hy, ne, h⟩)
end
end Rw
end T_TP

section T_UE
set_option Elab.async false
set_option linter.all false
set_option maxRecDepth 100000
set_option maxHeartbeats 16000000
namespace Rw
open PySem L2 PyProof.Rows LamX
section
variable {P : Program} {w : World} {K : PySem.W.Frag} {mg : Str → Option Value} {base : Heap}
/-! ### how many plans have so many rounds -/
def spNum : Sp := fun vs H Q _ => ∃ k : Nat, vs = [.int (k : Int)] ∧ Q (.bl true) H
theorem sc_is_number : FnScope ["value"] ["value"] (defScope p_is_number) := ⟨rfl, rfl, rfl, by decide +kernel, rfl, by decide +kernel, by decide +kernel⟩
theorem ok_is_number {f : Addr} {fd : FuncData} (F : Fun K "is_number" "is_number" p_is_number f fd) (mIsi : mg "isinstance" = none) (mInt : mg "int" = none) (mBool : mg "bool" = none) : FnOk P w K mg base CX0 1 f fd ["value"] spNum := by
  refine F.ok sc_is_number (fun vs H Q E h => ?_) (fun cdv A outer s H vs Q E hr h => ?_)
  · obtain ⟨k, rfl, _⟩ := h
    rfl
  · obtain ⟨k, rfl, kk⟩ := h
    refine ⟨_, pss_one (ps_ret (pe_and (pe_callB call_isi (by rfl) mIsi (by decide +kernel) (pa_cons (pv 0) (pa_cons (pe_bltn (v := .ty "int") (by rfl) mInt (by decide +kernel) rfl) pa_nil)))
      (pe_one (pe_not (pe_callB call_isi (by rfl) mIsi (by decide +kernel) (pa_cons (pv 0) (pa_cons (pe_bltn (v := .ty "bool") (by rfl) mBool (by decide +kernel) rfl) pa_nil))))))), ?_⟩
    refine ⟨.int (k : Int), rfl, .int (k : Int), .ty "int", _, _, true, rfl, .ty _, .base (.int _), kit_ty (by decide +kernel), true, rfl, iteT ?_⟩
    exact ⟨.int (k : Int), rfl, .int (k : Int), .ty "bool", _, _, false, rfl, .ty _, .base (.int _), kit_ty (by decide +kernel), false, rfl, kk⟩
def spChkMany : Sp := fun vs H Q _ => ∃ k : Nat, vs = [.int (k : Int)] ∧ k ≤ 6 ∧ Q .non H
theorem sc_chk_many : FnScope ["many"] ["many"] (defScope p_check_many) := ⟨rfl, rfl, rfl, by decide +kernel, rfl, by decide +kernel, by decide +kernel⟩
theorem ok_chk_many {f : Addr} {fd : FuncData} {tk : Tok} (F : Fun K "check_many" "check_many" p_check_many f fd) (C1 : Cal P w K mg base 1 "is_number" ["value"] spNum) (mMost : mg "MOST_ROUNDS" = some (.int 6 tk)) : FnOk P w K mg base CX0 2 f fd ["many"] spChkMany := by
  obtain ⟨f1, fd1, F1, k1, b1, g1⟩ := C1.ex
  refine F.ok sc_chk_many (fun vs H Q E h => ?_) (fun cdv A outer s H vs Q E hr h => ?_)
  · obtain ⟨k, rfl, _⟩ := h
    rfl
  · obtain ⟨k, rfl, k6, q⟩ := h
    refine ⟨_, pss_one (ps_if (PW.pt (pw_or (pt_not (pt_val (pe_call F1 hr rfl g1 k1 b1 .nil pass0 (pa_cons (pv 0) pa_nil))))
      (pw_or1 (pt_not (pt_chain op_le op_le pe_int (pv 0) (pe_glob (v := .int 6) (by rfl) mMost ⟨_, rfl⟩)))))) (pss_one ps_never) pss_nil), ?_⟩
    refine ⟨.int (k : Int), rfl, k, rfl, true, rfl, ?_⟩
    refine ⟨.int (k : Int), rfl, 0, (k : Int), rfl, rfl, true, congrArg V.bl (decide_eq_true (show (0 : Int) ≤ (k : Int) by omega)), ?_⟩
    exact ⟨_, 6, rfl, rfl, true, congrArg V.bl (decide_eq_true (show (k : Int) ≤ 6 by omega)), q⟩
def spHowMany (T : List (Addr × Str)) (C : Addr) : Sp := fun vs H Q _ => ∃ (m c : Addr) (k : Nat) (ws ends dots ss ps : List Str) (o n : Str → List (Str × V)), vs = [.ref m, .ref c, .int (k : Int)] ∧ k ≤ 6 ∧ NetAt C H m ends dots ss ps o n ∧ ModelOk ends dots ss ps ∧ TabsOk ends dots o n ∧ SqS K H c ws ∧ ws.Nodup ∧ (∀ x ∈ ws, x ∈ wishesL) ∧ Tabs T H ∧
  ∀ H', Evl.Ex (nt H) (nt H') → Tabs T H' → Q (.int (cnt (fun on => decide (on ∈ avoidL ends dots ss ps o n ws)) (moving ends dots o n) k [] : Int)) H'
abbrev nHow : List Str := ["net", "wishes", "many", "safe"]
theorem sc_how : FnScope nHow ["net", "wishes", "many"] (defScope p_how_many) := ⟨rfl, rfl, rfl, by decide +kernel, rfl, by decide +kernel, by decide +kernel⟩
theorem ok_how {f C : Addr} {fd : FuncData} {T : List (Addr × Str)} (F : Fun K "how_many" "how_many" p_how_many f fd) (NX : NetTxt K C) (Pg : Prp P w K mg base C 2 "changing" (spChanging C)) (C1 : Cal P w K mg base 1 "check_net" ["net"] (spCheckNet C)) (C3 : Cal P w K mg base 3 "check_wishes" ["wishes"] (spCheckWishes (K := K)))
    (C2 : Cal P w K mg base 2 "check_many" ["many"] spChkMany) (C4 : Cal P w K mg base 7 "moments_to_avoid" ["net", "wishes"] (spAvoid (K := K) T C)) (C5 : Cal P w K mg base 6 "safe_rounds" ["changing", "broken"] (spSafeRounds (K := K) T)) (C8 : Cal P w K mg base 2 "plan_counts" ["changing", "safe", "many"] spCounts) : FnOk P w K mg base CX0 8 f fd ["net", "wishes", "many"] (spHowMany (K := K) T C) := by
  obtain ⟨p0, g0, fd0, at0, F0, b0⟩ := Pg.ex
  obtain ⟨f1, fd1, F1, k1, b1, g1⟩ := C1.ex
  obtain ⟨f2, fd2, F2, k2, b2, g2⟩ := C2.ex
  obtain ⟨f3, fd3, F3, k3, b3, g3⟩ := C3.ex
  obtain ⟨f4, fd4, F4, k4, b4, g4⟩ := C4.ex
  obtain ⟨f5, fd5, F5, k5, b5, g5⟩ := C5.ex
  obtain ⟨f8, fd8, F8, k8, b8, g8⟩ := C8.ex
  refine F.ok sc_how (fun vs H Q E h => ?_) (fun cdv A outer s H vs Q E hr h => ?_)
  · obtain ⟨m, c, kk, ws, ends, dots, ss, ps, o, n, rfl, _⟩ := h
    rfl
  · obtain ⟨m, c, kk, ws, ends, dots, ss, ps, o, n, rfl, kk6, N, ok, tok, hc, hn, hs, hT, k⟩ := h
    have ndN := sc_how.nd
    have hu := hu_of hr
    have r1 : Room 1 _ := hr.mono (by decide)
    have r2 : Room 2 _ := hr.mono (by decide)
    have r3 : Room 3 _ := hr.mono (by decide)
    have r6 : Room 6 _ := hr.mono (by decide)
    have e2 := ok.e2
    have d6 := ok.d6
    have l4 : ws.length ≤ 4 := nodup_le ws wishesL hn hs
    have ml : (moving ends dots o n).length ≤ 6 := Nat.le_trans (List.length_filter_le _ _) d6
    have mnd : (moving ends dots o n).Nodup := ok.dn.sublist List.filter_sublist
    have mso : sortedS (moving ends dots o n) = true := sorted_sub List.filter_sublist ok.ds
    have mnm : ∀ z ∈ moving ends dots o n, Nm z := fun z hz => ok.dm z (moving_sub hz)
    refine ⟨_, pss_cons (ps_expr (pe_call F1 r1 rfl g1 k1 b1 .nil pass0 (pa_cons (pv 0) pa_nil)))
      (pss_cons (ps_expr (pe_call F3 r3 rfl g3 k3 b3 .nil pass0 (pa_cons (pv 1) pa_nil)))
      (pss_cons (ps_expr (pe_call F2 r2 rfl g2 k2 b2 .nil pass0 (pa_cons (pv 2) pa_nil)))
      (pss_cons (ps_set (i := 3) ndN rfl (.inl rfl) (pe_call F5 r6 rfl g5 k5 b5 .nil pass0 (pa_cons (pe_prop (pv 0) NX.cl at0 F0 r3 b0 .nil pass0 rfl) (pa_cons (pe_call F4 hr rfl g4 k4 b4 .nil pass0 (pa_cons (pv 0) (pa_cons (pv 1) pa_nil))) pa_nil))))
      (pss_one (ps_ret (pe_dget hu (pe_ix ix_list (pe_call F8 r2 rfl g8 k8 b8 .nil pass0 (pa_cons (pe_prop (pv 0) NX.cl at0 F0 r3 b0 .nil pass0 rfl) (pa_cons (pv 3) (pa_cons (pv 2) pa_nil)))) (pv 2) (fun _ _ => rfl)) (pe_tup pa_nil) (fun _ _ => rfl))))))), ?_⟩
    refine ⟨.ref m, rfl, m, ends, dots, ss, ps, o, n, rfl, N, ?_⟩
    refine ⟨.ref c, rfl, c, ws, rfl, hc, hn, hs, by omega, fun H1 x1 => ?_⟩
    refine ⟨.int (kk : Int), rfl, kk, rfl, kk6, ?_⟩
    obtain ⟨dx, T', N', S, Po, rows, h1, _⟩ := N.ex
    have hn1 : nt H m = some (.ins C dx (nflds T' N' S Po)) := nt_of h1 fun _ z => by cases z
    generalize hys : moving ends dots o n = ys at k ml mnd mso mnm
    have z1 : Evl.Ex (nt H) H1 := (ex_nt H).trans x1
    refine ⟨.ref m, rfl, m, dx, _, rfl, z1 _ _ hn1, m, ends, dots, ss, ps, o, n, rfl, N.to x1, by omega, by omega, ok.en, fun l1 H2 x2 _ hl1 => ?_⟩
    rw [hys] at hl1
    have x12 := x1.trans x2
    refine ⟨.ref m, rfl, .ref c, rfl, m, c, ws, ends, dots, ss, ps, o, n, rfl, N.to x12, ok, tok, hc.ex x12, l4, hT.ext x12, fun pb H3 B x3 T3 _ hpb tB eB => ?_⟩
    have lB : B.length ≤ 256 := by
      have h2 := congrArg List.length eB
      rw [List.length_map] at h2
      rw [h2]
      unfold avoidL
      have main : ∀ l : List Str, (l.flatMap (brokenL ends dots ss ps o n)).length ≤ 64 * l.length := fun l => by
        induction l with
        | nil => exact Nat.le_refl _
        | cons z l ih =>
          rw [List.flatMap_cons, List.length_append, List.length_cons]
          have := brokenL_len (ends := ends) (dots := dots) (ss := ss) (ps := ps) (o := o) (n := n) (wd := z) (by rw [hys]; exact ml)
          omega
      exact Nat.le_trans (main ws) (by omega)
    have y3 := x3.trans (ex_nt H3)
    refine ⟨l1, pb, ys, B, rfl, Evl.st_of (y3 _ _ (nt_tup hl1)), ml, mnd, mso, hpb, tB, lB, T3, fun sp H4 x4 T4 _ S4 => ?_⟩
    rw [eB] at S4
    have x04 := (nt_ex x12).trans (x3.trans x4)
    have z4 := x04.trans (ex_nt H4)
    refine ⟨.ref m, rfl, m, dx, _, rfl, z4 _ _ hn1, m, ends, dots, ss, ps, o, n, rfl, N.nt.to z4, by omega, by omega, ok.en, fun l2 H5 x5 _ hl2 => ?_⟩
    rw [hys] at hl2
    refine ⟨.ref sp, rfl, .int (kk : Int), rfl, l2, sp, kk, _, ys, rfl, hl2, S4.to x5, ml, mnd, mso, mnm, by omega, fun co H6 Cs x6 _ CD lC => ?_⟩
    obtain ⟨fa, hfa⟩ : ∃ fa, Cs[kk]? = some fa := ⟨_, List.getElem?_eq_getElem (by omega)⟩
    refine ⟨.int (kk : Int), rfl, co, _, (kk : Int), .ref fa, rfl, rfl, Evl.sq_of CD.hc, atI_nat (by rw [List.getElem?_map, hfa]; rfl), by show 0 ≤ sizeLine; decide, fun t ht => ?_⟩
    have y7 : Evl.Ex H6 (upd H6 t (.tup [])) := Evl.Ex.new ht
    refine ⟨fa, _, rfl, .inr ⟨_, ([] : List Str).map Sum.inr, t, .inl (y7 _ _ (CD.at_ kk fa hfa)), rfl, upd_same, (cntT_get mnd (List.nil_sublist _)).symm⟩, ?_⟩
    exact k _ (x04.trans (nt_ex ((x5.trans x6).trans y7))) (T4.ext ((x5.trans x6).trans y7))
end
end Rw
end T_UE

section T_G0
set_option Elab.async false
set_option linter.all false
set_option maxRecDepth 100000
set_option maxHeartbeats 2000000
namespace Rw
open PySem PySem.Spec L2 PyProof.Rows
/-! ### repr of data -/
def rRepr (K : PySem.W.Frag) : List V → Hp → VK → Prop := fun xs H Q => ∃ (a : Addr) (d : PyData), xs = [.ref a] ∧ Dp K H (.ref a) d ∧ d.showable = true ∧ d.hasDict = false ∧ d.depth ≤ 64 ∧ d.shown.length ≤ sizeLine ∧ Q (.str d.shown) H
theorem call_reprD {X : Cx} (hg : X.A.guards = some []) (hu : X.A.units + 70 < cLine) : CallR X (.builtin "repr") (rRepr X.K) := by
  intro pins s σ H xs us Q I r h
  obtain ⟨a, d, rfl, hd, h1, h2, h3, h4, q⟩ := h
  obtain ⟨u, rfl, ru⟩ := vals1 r
  obtain ⟨as, rd⟩ := Dp.reads I d (.ref a) u hd ru
  cases ru
  refine repr_of_reads' rd h1 (fun z => by rw [h2] at z; cases z) hg (by omega) (fun _ _ e => e) (fun h' v tk keep => ?_) h4
  exact ⟨.str d.shown, H, Inv.kept I keep, ⟨_, rfl⟩, q⟩
/-! ### defs that are called where no repr is under way -/
structure FnG (P : Program) (w : World) (K : PySem.W.Frag) (mg : Str → Option Value) (base : Heap) (CX : CXT) (k : Nat) (f : Addr) (fd : FuncData) (ps : List Str) (sp : Sp) : Prop where
  many : ∀ vs H Q E, sp vs H Q E → vs.length = ps.length
  goes : ∀ (A : Around) (outer : List Env) (s : Shared) (H : Hp) (args : Args) (us : List Value) (vs : List V) (Q : VK) (E : XK), A.guards = some [] → Room k A → Env0 P w K mg base A outer s H →
    BindsTo s fd args (ps.zip us) → Vals vs us → sp vs H Q E → codeAny (model P w) A (.call (.ref f) args) (CR CX outer P w H s Q E) s
section
variable {P : Program} {w : World} {K : PySem.W.Frag} {mg : Str → Option Value} {base : Heap} {CX : CXT} {k : Nat} {f : Addr} {fd : FuncData} {ps : List Str} {sp : Sp}
theorem FnG.of (F : FnOk P w K mg base CX k f fd ps sp) : FnG P w K mg base CX k f fd ps sp :=
  ⟨F.len, fun A o s H ar us vs Q E _ => F.run A o s H ar us vs Q E⟩
/-- a def by its body -/
theorem Fun.okG {x qual : Str} {st : Stmt} {N : List Str} (F : Fun K x qual st f fd) (S : FnScope N ps (defScope st)) (len : ∀ vs H Q E, sp vs H Q E → vs.length = ps.length)
    (body : ∀ (cv : Value) (A : Around) (outer : List Env) (s : Shared) (H : Hp) (vs : List V) (Q : VK) (E : XK), (A.deeper (envOfC qual (defScope st) s.heap.objs.size f cv)).guards = some [] →
      Room k (A.deeper (envOfC qual (defScope st) s.heap.objs.size f cv)) → sp vs H Q E →
      ∃ t, PSs (cxOf CX P w K mg base N qual (defScope st) f cv A outer s H E) (defBody st) t ∧ t { nx := fun _ H' => Q .non H', rt := Q } (L2.start N vs) H) : FnG P w K mg base CX (k + 1) f fd ps sp := by
  obtain ⟨_, _, _, _, _, _, cv, _, _, rfl, at_f, code_f⟩ := F.ex
  constructor
  · exact len
  · intro A outer s H ar us vs Q E guard room here bound rel prom
    have n_of := len _ _ _ _ prom
    have known : K.In s.heap := here.mod.kin.keeps fun b o e => (here.bs b o e).1
    have nolim : s.heap.NoLimit := here.mod.nolimit.keeps fun b o e => (here.bs b o e).1
    have slots : ∀ y ∈ ps.zip us, (defScope st).names.lookup y.1 = some .local ∨ ((defScope st).names.lookup y.1 = some .cell ∧ ((cellsFrom (s.heap.objs.size + 1) (defScope st).names []).lookup y.1).isSome = true) := by
      rintro ⟨m, u⟩ hy
      cases S.par m (List.of_mem_zip hy).1 with
      | inl q => exact .inl q
      | inr q => exact .inr ⟨q, PySem.W.cellsFrom_some _ _ _ (.inl q)⟩
    refine codeAny_call_function room.depth (known _ _ at_f) rfl S.co S.gen rfl (PySem.W.codeRec_of known code_f)
      (bound _ _ _ _ ?_)
    refine wpAny_newFunctionEnv_cells S.kind slots fun env isEnv s1 made => ?_
    subst isEnv
    refine ⟨nolim.keeps made.toInCall.keep, codeAny_func ?_⟩
    obtain ⟨t, term, reading⟩ := body cv A outer s H vs Q E guard (room.deeper _) prom
    have inv := inv_start (CX := CX) (E := E) S room.hd here n_of rel made
    refine wpAny_mono (term.run [] s1 (L2.start N vs) H _ inv reading) (fun out s' got => ?_) fun _ _ got => got
    cases out with
    | brk =>
      obtain ⟨_, _, _, no⟩ := got
      exact no.elim
    | cont =>
      obtain ⟨_, _, _, no⟩ := got
      exact no.elim
    | next =>
      obtain ⟨_, H', J, q⟩ := got
      exact ⟨V.non, H', J.os, J.bare, J.base, J.hok, rfl, q⟩
    | ret u =>
      obtain ⟨v, _, H', J, rv, q⟩ := got
      exact ⟨v, H', J.os, J.bare, J.base, J.hok, rv, q⟩
end
section
variable {X : Cx} {CX : CXT} {k : Nat} {f : Addr} {fd : FuncData} {ps : List Str} {sp : Sp} {dvs : List V} {ds : List Value} {E : XK} {x : Str} {p pos : Pos} {e : Expr} {es : List Expr} {t : TA}
/-- f(e, ..), f such a def -/
theorem pe_callG (guard : X.A.guards = some []) (F : FnG X.prog X.w X.K X.mg X.base CX k f fd ps sp) (room : Room k X.A) (glob : Gl X x) (at_x : X.mg x = some (.ref f)) (kept : PySem.W.keepIn X.K (.ref f) = true) (bind : Binds X.K fd ps ds) (dflt : Vals dvs ds) (pass : Passes CX X E)
    (args : PA X (e :: es) t) (nodebug : (x == ("__debug__" : Str)) = false := by decide) (first : starEach (e :: es) X.env = (false, eval e X.env) :: starEach es X.env := by rfl) (plain : (backTo pos (starEach es X.env)).any (·.1) = false := by rfl) :
    PE X (.Call (.Name x p) (e :: es) [] pos) (tCall sp dvs E t) := by
  constructor
  intro pins s σ H Q I reading
  refine wpAny_Call_Name_kw (ld_glob I glob at_x ?_ nodebug)
  refine PySem.W.callWith_K (h₀ := X.base) I.ok.mod.kin kept (thn (args.run pos pins s σ H _ I reading) ?_) first plain
  rintro us s1 ⟨vs, H1, I1, rel, prom⟩
  refine ⟨I1.kIn, ?_⟩
  have rel2 : Vals (vs ++ dvs) (us ++ ds) := rel.append dflt
  have n_of : (us ++ ds).length = ps.length := rel2.length.symm.trans (F.many _ _ _ _ prom)
  have ran := F.goes X.A X.stack s1 H1 ⟨us, []⟩ (us ++ ds) (vs ++ dvs) Q E guard room I1.env0 (bind s1 us I1.kIn n_of) rel2 prom
  refine wpAny_call (codeAny_mono ran fun out s2 got => ?_)
  match out, got with
  | .error e, got => exact pass pins σ H1 s1 e s2 I1 got
  | .ok (.ret u), got => exact I1.after got
  | .ok .next, got => exact got.elim
  | .ok .brk, got => exact got.elim
  | .ok .cont, got => exact got.elim
end
end Rw
end T_G0

section T_RS
set_option Elab.async false
set_option linter.all false
set_option maxRecDepth 100000
set_option maxHeartbeats 8000000
namespace Rw
open PySem L2 PyProof.Rows
/-! ### lists of rounds are shown -/
def rowsD (Rs : List (List Str)) : PyData := .list (Rs.map fun r => .tuple (r.map .str))
theorem strs_shown : ∀ {zs : List Str}, (∀ z ∈ zs, Nm z) → PyData.canLayAll0 (zs.map PyData.str) = true ∧ PyData.depthAll (zs.map PyData.str) = 0 ∧ PyData.weightAll (zs.map PyData.str) ≤ 7 * zs.length ∧ PyData.intsShortAll 13 (zs.map PyData.str) = true ∧ PyData.showableAll (zs.map PyData.str) = true
  | [], _ => ⟨rfl, rfl, Nat.zero_le _, rfl, rfl⟩
  | z :: zs, h => by
    obtain ⟨g2, g3, g4, g5, g6⟩ := strs_shown fun y hy => h y (List.mem_cons_of_mem _ hy)
    have hz := h z List.mem_cons_self
    have zl : z.cps.size ≤ 6 := nm_len hz
    refine ⟨?_, ?_, ?_, ?_, ?_⟩
    · show (PyData.strOk z && PyData.canLayAll0 (zs.map PyData.str)) = true
      rw [g2, nm_ok hz]
      rfl
    · show max 0 (PyData.depthAll (zs.map PyData.str)) = 0
      rw [g3]
      rfl
    · show z.cps.size + 1 + PyData.weightAll (zs.map PyData.str) ≤ 7 * (zs.length + 1)
      omega
    · show (PyData.intsShort 13 (.str z) && PyData.intsShortAll 13 (zs.map PyData.str)) = true
      rw [g5]
      rfl
    · show (true && PyData.showableAll (zs.map PyData.str)) = true
      rw [g6]
      rfl
theorem rows_shown : ∀ {Rs : List (List Str)}, (∀ r ∈ Rs, r.length ≤ 6 ∧ ∀ z ∈ r, Nm z) → PyData.canLayAll0 (Rs.map fun r => .tuple (r.map .str)) = true ∧ PyData.depthAll (Rs.map fun r => .tuple (r.map .str)) ≤ 1 ∧ PyData.weightAll (Rs.map fun r => .tuple (r.map .str)) ≤ 43 * Rs.length ∧ PyData.intsShortAll 13 (Rs.map fun r => .tuple (r.map .str)) = true ∧ PyData.showableAll (Rs.map fun r => .tuple (r.map .str)) = true
  | [], _ => ⟨rfl, Nat.zero_le _, Nat.zero_le _, rfl, rfl⟩
  | r :: Rs, h => by
    obtain ⟨g2, g3, g4, g5, g6⟩ := rows_shown fun y hy => h y (List.mem_cons_of_mem _ hy)
    obtain ⟨r6, rn⟩ := h r List.mem_cons_self
    obtain ⟨s2, s3, s4, s5, s6⟩ := strs_shown rn
    refine ⟨?_, ?_, ?_, ?_, ?_⟩
    · show (PyData.canLayAll0 (r.map PyData.str) && PyData.canLayAll0 (Rs.map fun r => .tuple (r.map .str))) = true
      rw [g2, s2]
      rfl
    · show max (PyData.depthAll (r.map PyData.str) + 1) (PyData.depthAll (Rs.map fun r => .tuple (r.map .str))) ≤ 1
      omega
    · show PyData.weightAll (r.map PyData.str) + 1 + PyData.weightAll (Rs.map fun r => .tuple (r.map .str)) ≤ 43 * (Rs.length + 1)
      omega
    · show (PyData.intsShortAll 13 (r.map PyData.str) && PyData.intsShortAll 13 (Rs.map fun r => .tuple (r.map .str))) = true
      rw [g5, s5]
      rfl
    · show (PyData.showableAll (r.map PyData.str) && PyData.showableAll (Rs.map fun r => .tuple (r.map .str))) = true
      rw [g6, s6]
      rfl
structure ShownOk (d : PyData) : Prop where
  s1 : d.showable = true
  s2 : d.hasDict = false
  s3 : d.depth ≤ 64
  s4 : d.shown.length ≤ sizeLine
theorem rowsD_shown {Rs : List (List Str)} (h : ∀ r ∈ Rs, r.length ≤ 6 ∧ ∀ z ∈ r, Nm z) (few : Rs.length ≤ 100) : ShownOk (rowsD Rs) := by
  obtain ⟨g2, g3, g4, g5, g6⟩ := rows_shown h
  have lay : PyData.canLay0 (rowsD Rs) = true := g2
  have dep : PyData.depth (rowsD Rs) ≤ 2 := by
    show PyData.depthAll (Rs.map fun r => .tuple (r.map .str)) + 1 ≤ 2
    omega
  refine ⟨g6, PyData.hasDict_of_canLay _ lay, by omega, ?_⟩
  refine PyData.shown_fits_of_layable0 (B := 13) (by decide) (by decide) ?_ g5
  show (PyData.canLay0 (rowsD Rs) && decide (PyData.depth (rowsD Rs) ≤ 64) && decide (PyData.weight (rowsD Rs) ≤ 2 ^ 20)) = true
  rw [lay, decide_eq_true (show PyData.depth (rowsD Rs) ≤ 64 by omega), decide_eq_true (show PyData.weight (rowsD Rs) ≤ 2 ^ 20 from Nat.le_trans (show PyData.weightAll (Rs.map fun r => .tuple (r.map .str)) ≤ 43 * Rs.length from g4) (by omega))]
  rfl
theorem rowsD2_shown {Rs : List (List Str)} (h : ∀ r ∈ Rs, r.length ≤ 6 ∧ ∀ z ∈ r, Nm z) (few : Rs.length ≤ 100) : ShownOk (.list [rowsD Rs, rowsD Rs]) := by
  obtain ⟨g2, g3, g4, g5, g6⟩ := rows_shown h
  have lay1 : PyData.canLay0 (rowsD Rs) = true := g2
  have lay : PyData.canLay0 (.list [rowsD Rs, rowsD Rs]) = true := by
    show (PyData.canLay0 (rowsD Rs) && (PyData.canLay0 (rowsD Rs) && true)) = true
    rw [lay1]
    rfl
  have dep : PyData.depth (.list [rowsD Rs, rowsD Rs]) ≤ 3 := by
    show max (PyData.depthAll (Rs.map fun r => .tuple (r.map .str)) + 1) (max (PyData.depthAll (Rs.map fun r => .tuple (r.map .str)) + 1) 0) + 1 ≤ 3
    omega
  refine ⟨?_, PyData.hasDict_of_canLay _ lay, by omega, ?_⟩
  · show (PyData.showableAll (Rs.map fun r => .tuple (r.map .str)) && (PyData.showableAll (Rs.map fun r => .tuple (r.map .str)) && true)) = true
    rw [g6]
    rfl
  refine PyData.shown_fits_of_layable0 (B := 13) (by decide) (by decide) ?_ ?_
  · show (PyData.canLay0 (.list [rowsD Rs, rowsD Rs]) && decide (PyData.depth (.list [rowsD Rs, rowsD Rs]) ≤ 64) && decide (PyData.weight (.list [rowsD Rs, rowsD Rs]) ≤ 2 ^ 20)) = true
    rw [lay, decide_eq_true (show PyData.depth (.list [rowsD Rs, rowsD Rs]) ≤ 64 by omega), decide_eq_true (show PyData.weight (.list [rowsD Rs, rowsD Rs]) ≤ 2 ^ 20 from ?_)]
    · rfl
    · show PyData.weightAll (Rs.map fun r => .tuple (r.map .str)) + 1 + (PyData.weightAll (Rs.map fun r => .tuple (r.map .str)) + 1 + 0) ≤ 2 ^ 20
      omega
  · show (PyData.intsShortAll 13 (Rs.map fun r => .tuple (r.map .str)) && (PyData.intsShortAll 13 (Rs.map fun r => .tuple (r.map .str)) && true)) = true
    rw [g5]
    rfl
theorem dp_rows {K : PySem.W.Frag} {H : Hp} {a : Addr} {L : List (Addr × List Str)} (h : H a = some (.lst (L.map fun q => V.ref q.1))) (t : RowsT H L) : Dp K H (.ref a) (rowsD (L.map (·.2))) := by
  unfold rowsD
  rw [List.map_map]
  exact .lst (Evl.sq_of h) (dpa_rows t)
end Rw
end T_RS

section T_G1
set_option Elab.async false
set_option linter.all false
set_option maxRecDepth 100000
set_option maxHeartbeats 2000000
namespace Rw
open PySem PySem.Spec PySem.Calls L2 PyProof.Rows
/-- the law's own call, its def a FnG -/
theorem law_goes {P : Program} {w : World} {K : PySem.W.Frag} {mg mb : Str → Option Value} {k : Nat} {fa a : Addr} {fd : FuncData} {x : Str} {sp : Sp} {s : Shared} {vs : List Value} {ns : List Int}
    (known : K.In s.heap) (globs : s.heap.Ns mainGlobals mg) (blt : s.heap.Ns builtinsNs mb) (blt_is : ∀ y : Str, y ≠ "__name__" → mb y = bootBuiltins y) (nolim : s.heap.NoLimit) (nogen : s.gens = #[])
    (scr : s.heap.get? a = some { cls := .type "list", data := .seq vs.toArray }) (intsOf : IntsAre vs ns) (few : ns.length ≤ sizeLine) (room : Room k callerA)
    (F : ∀ base : Heap, K.In base → base.Ns mainGlobals mg → FnG P w K mg base CX0 k fa fd [x] sp) (bind : ∀ (s : Shared) (u : Value), BindsTo s fd ⟨[u], []⟩ [(x, u)])
    (prom : ∀ H : Hp, SqL K H a (ns.map V.int) → sp [.ref a] H (fun v _ => v = .bl true) fun _ _ _ => False) :
    codeAny (model P w) callerA (.call (.ref fa) ⟨[.ref a], []⟩) (fun r s' => r = .ok (.ret (.bool true)) ∧ OldK s.heap s'.heap ∧ s'.os = s.os ∧ AllBare s'.gens) s := by
  have items := vals_ints intsOf
  have main : ∀ H : Hp, (∀ b u, H b = some u → b = a ∧ K.lookup a = none ∧ u = .frz { cls := .type "list", data := .seq vs.toArray } (.lst (ns.map V.int))) → SqL K H a (ns.map V.int) →
      codeAny (model P w) callerA (.call (.ref fa) ⟨[.ref a], []⟩) (fun r s' => r = .ok (.ret (.bool true)) ∧ OldK s.heap s'.heap ∧ s'.os = s.os ∧ AllBare s'.gens) s := by
    intro H sole reads
    have held : HOk P w H s.heap := fun b u z => by
      obtain ⟨rfl, _, rfl⟩ := sole b u z
      exact ⟨scr, by rw [List.length_map]; exact few, vs, _, items, scr⟩
    have ns_hid : ∀ {b : Addr} {m : Str → Option Value}, s.heap.Ns b m → (hidT s.heap H).Ns b m := by
      rintro b m ⟨o, es, ep, at_b, isD, rest⟩
      refine ⟨o, es, ep, hidT_get at_b ?_, isD, rest⟩
      cases z : H b with
      | none => rfl
      | some u =>
        obtain ⟨rfl, _, _⟩ := sole b u z
        rw [scr] at at_b
        cases at_b
        cases isD
    have known_hid : K.In (hidT s.heap H) := fun b o at_b => hidT_get (known b o at_b) (by
      cases z : H b with
      | none => rfl
      | some u =>
        obtain ⟨rfl, no, _⟩ := sole b u z
        rw [no] at at_b
        cases at_b)
    have lim_hid : (hidT s.heap H).NoLimit := by
      obtain ⟨mc, q1, q2⟩ := nolim
      exact ⟨mc, ns_hid q1, q2⟩
    have here : Env0 P w K mg (hidT s.heap H) callerA [] s H :=
      { frames := rfl, mod := ⟨known_hid, ns_hid globs, ⟨mb, ns_hid blt, blt_is⟩, lim_hid⟩, bs := fun b o => of_hidT, bsz := Nat.le_of_eq (hidT_size _ _), funs := trivial,
        frf := fun b hb => (by cases hb), hok := held, bare := .of_eq nogen }
    have ran := (F _ known_hid (ns_hid globs)).goes callerA [] s H ⟨[.ref a], []⟩ [.ref a] [.ref a] _ _ rfl room here (bind s (.ref a)) (.cons rfl .nil) (prom H reads)
    refine codeAny_mono ran fun out s' got => ?_
    match out, got with
    | .error _, got => exact got.elim
    | .ok .next, got => exact got.elim
    | .ok .brk, got => exact got.elim
    | .ok .cont, got => exact got.elim
    | .ok (.ret u), got =>
      obtain ⟨v, H', os, bare, un, held', rel, yes⟩ := got
      have yes' : v = .bl true := yes
      subst yes'
      have u_is : u = Value.bool true := rel
      subst u_is
      refine ⟨rfl, OldK.of_keep fun b o at_b => ?_, os, bare⟩
      cases z : H b with
      | none => exact un.keep b o at_b z (fun hb => by cases hb) (fun hb => by cases hb)
      | some u =>
        obtain ⟨rfl, _, rfl⟩ := sole b u z
        obtain ⟨still, _⟩ := held' b _ (un.frzs b _ _ z)
        rw [scr] at at_b
        cases at_b
        exact still
  cases kn : K.lookup a with
  | none =>
    refine main (fun b => if b = a then some (.frz { cls := .type "list", data := .seq vs.toArray } (.lst (ns.map V.int))) else none) (fun b u z => ?_) (.inl (.inr ⟨_, if_pos rfl⟩))
    by_cases e : b = a
    · rw [if_pos e] at z
      exact ⟨e, kn, (Option.some.inj z).symm⟩
    · rw [if_neg e] at z
      cases z
  | some o =>
    have o_is := known a o kn
    rw [scr] at o_is
    cases o_is
    exact main (fun _ => none) (fun b u z => by cases z) (.inr ⟨_, vs.toArray, _, kn, rfl, rfl, rfl, by rw [List.size_toArray, intsOf.length]; exact few, by simpa using items⟩)
/-- the end of a row, its law a FnG -/
theorem walk_ofG {l : PySem.W.OpenLaw} {n k : Nat} {q : Program} {loose : List Str} {XP : (Str → Option Value) → Heap → Prop} {YP : World → Heap → Prop} {d : DefRec} {K : Params → PySem.W.Frag} {sp : World → Sp} {x : Str}
    (most : l.most = some n) (small : n ≤ sizeLine) (nodef : d.params.defaults = []) (room : Room k callerA) (knows : ∀ (w : World) (h : Heap), YP w h → (K w.params).In h)
    (F : ∀ (w : World) (mg : Str → Option Value) (fa : Addr) (h : Heap), (K w.params).In h → h.Ns mainGlobals mg → mg d.name = some (.ref fa) →
      ∃ fd : FuncData, (∀ (s : Shared) (u : Value), BindsTo s fd ⟨[u], []⟩ [(x, u)]) ∧ ∀ base : Heap, (K w.params).In base → base.Ns mainGlobals mg → FnG l.prog w (K w.params) mg base CX0 k fa fd [x] (sp w))
    (prom : ∀ (w : World) (H : Hp) (a : Addr) (ns : List Int), ns.length ≤ n → SqL (K w.params) H a (ns.map V.int) → sp w [.ref a] H (fun v _ => v = .bl true) fun _ _ _ => False) :
    PySem.W.WalkO q loose XP YP l.row.toRowW d [] (fun f vs => PySem.call f vs) := by
  refine Att.attach_call most nodef ?_
  intro w s₀ s₁ mg mb fa o pm cd doc a vs ns G Y _ _ _ at_law scr intsOf few nogen
  obtain ⟨fd, bind, all⟩ := F w mg fa _ (knows w _ Y) G.T.g at_law
  exact law_goes (knows w _ Y) G.T.g G.T.b G.T.builtins G.T.nolimit nogen scr intsOf (Nat.le_trans few small) room all bind fun H reads => prom w H a ns few reads
end Rw
end T_G1

section T_B1
set_option Elab.async false
set_option linter.all false
set_option maxRecDepth 100000
set_option maxHeartbeats 4000000
namespace Rw
open PySem L2 PyProof.Rows
section
variable {P : Program} {w : World} {K : PySem.W.Frag} {mg : Str → Option Value} {base : Heap}
theorem sc_begin : FnScope ["script", "great", "cell"] ["script"] (defScope s_begin) := ⟨rfl, rfl, rfl, by decide +kernel, rfl, by decide +kernel, by decide +kernel⟩
theorem ok_begin {f : Addr} {fd : FuncData} (F : Fun K "_law_begin" "_law_begin" s_begin f fd) (mAbs : mg "abs" = none) : FnOk P w K mg base CX0 1 f fd ["script"] (spBegin K) := by
  refine F.ok sc_begin (fun vs H Q E h => ?_) (fun cdv A outer s H vs Q E hr h => ?_)
  · obtain ⟨a, ns, rfl, _⟩ := h
    rfl
  · obtain ⟨a, ns, rfl, hS, hl, k⟩ := h
    have nd := sc_begin.nd
    refine ⟨_, pss_cons (ps_setLc (i := 1) (own := [("cell", 2)]) (g := gName 2) (by rfl) nd rfl rfl (sw_true rfl rfl rfl (by decide +kernel)) (pi_list (pv 0)) (blkOk_by (own := [("cell", 2)]) (N := ["script", "great", "cell"]) (sc := defScope s_begin) (by decide +kernel))
          (fun _ _ _ _ _ => pg_name (i := 2) nd rfl (Or.inl rfl)) (fun _ _ _ _ _ => pts_one (pt_cmpR op_ge (pe_callB call_abs (by rfl) mAbs boot_abs (pa_cons (pv 2) pa_nil)) (pe_op op_pow pe_int pe_int) (nomark _)))
          (fun _ _ _ _ _ => pe_op op_sub (pe_callB call_abs (by rfl) mAbs boot_abs (pa_cons (pv 2) pa_nil)) (pe_op op_pow pe_int pe_int)))
      (pss_one (ps_ret (pe_disp (pps_cons pe_str (pv 1) (pps_cons pe_str pe_int (pps_cons pe_str
          (pe_lc (own := [("cell", 2)]) (g := gName 2) (tt := tYes) rfl nd (pi_list (pv 0)) (blkOk_by (own := [("cell", 2)]) (N := ["script", "great", "cell"]) (sc := defScope s_begin) (by decide +kernel))
            (fun _ _ _ _ _ => pg_name (i := 2) nd rfl (Or.inl rfl)) (fun _ _ _ _ _ => pts_nil) (fun _ _ _ _ _ => pe_callB call_abs (by rfl) mAbs boot_abs (pa_cons (pv 2) pa_nil)))
          (pps_cons pe_str pe_int pps_nil)))) (by rfl) (by rfl) (fun z => by cases z) (by decide)))), ?_⟩
    -- great = [..]
    have int_at : ∀ {i : Nat} {x : V}, (ns.map V.int)[i]? = some x → ∃ z : Int, x = V.int z := fun {i x} hi => by
      rw [List.getElem?_map] at hi
      cases e : ns[i]? with
      | none => rw [e] at hi; cases hi
      | some z => rw [e] at hi; exact ⟨z, (Option.some.inj hi).symm⟩
    refine ⟨.ref a, rfl, a, rfl, ⟨_, hS⟩, fun g hg => lc_list (K := K) (a := a) (xs := ns.map V.int)
      (fun i H1 => ∃ gs : List Int, gs.length ≤ i ∧ H1 = upd H g (.lst (gs.map V.int))) ⟨[], Nat.le_refl _, rfl⟩ ?_ ?_ ?_⟩
    · rintro i H1 _ ⟨gs, _, rfl⟩
      exact Evl.ex_l (Evl.Ex.new hg) hS
    · rintro i x H1 hi ⟨gs, hgl, rfl⟩
      obtain ⟨z, rfl⟩ := int_at hi
      have hil : i < (ns.map V.int).length := (List.getElem?_eq_some_iff.mp hi).1
      rw [List.length_map] at hil
      refine ⟨rfl, _, rfl, z, rfl, 10, 18, rfl, rfl, ⟨by decide, by decide, by decide⟩, _, _, rfl, rfl, _, rfl, ite2 (fun _ => ?_) (fun _ => ⟨gs, by omega, rfl⟩)⟩
      refine ⟨_, rfl, z, rfl, 10, 18, rfl, rfl, ⟨by decide, by decide, by decide⟩, _, _, rfl, rfl, _, upd_same, ?_, gs ++ [(if z < 0 then -z else z) - 10 ^ (18 : Int).toNat], ?_, ?_⟩
      · rw [List.length_map]; exact small1000 (by omega)
      · rw [List.length_append]; show gs.length + 1 ≤ i + 1; omega
      · rw [upd_upd, List.map_append]; rfl
    · rintro H1 ⟨gs, _, rfl⟩
      -- the dict
      intro d hd
      have hng : g ≠ d := ne_of_none upd_same hd
      have hSd : SqL K (upd (upd H g (.lst (gs.map V.int))) d (.dK [])) a (ns.map V.int) := Evl.ex_l (Evl.Ex.new hd) (Evl.ex_l (Evl.Ex.new hg) hS)
      refine ⟨.ref g, rfl, .ref a, rfl, a, rfl, ⟨_, hSd⟩, fun c hc => lc_list (K := K) (a := a) (xs := ns.map V.int)
        (fun i H1 => ∃ cs : List Int, cs.length ≤ i ∧ H1 = upd (upd (upd H g (.lst (gs.map V.int))) d (.dK [])) c (.lst (cs.map V.int))) ⟨[], Nat.le_refl _, rfl⟩ ?_ ?_ ?_⟩
      · rintro i H1 _ ⟨cs, _, rfl⟩
        exact Evl.ex_l (Evl.Ex.new hc) hSd
      · rintro i x H1 hi ⟨cs, hcl, rfl⟩
        obtain ⟨z, rfl⟩ := int_at hi
        have hil : i < (ns.map V.int).length := (List.getElem?_eq_some_iff.mp hi).1
        rw [List.length_map] at hil
        refine ⟨rfl, ?_⟩
        refine yes_if ?_
        refine ⟨_, rfl, z, rfl, _, upd_same, ?_, cs ++ [if z < 0 then -z else z], ?_, ?_⟩
        · rw [List.length_map]; exact small1000 (by omega)
        · rw [List.length_append]; show cs.length + 1 ≤ i + 1; omega
        · rw [upd_upd, List.map_append]; rfl
      · rintro H1 ⟨cs, _, rfl⟩
        have ndc : d ≠ c := ne_of_none upd_same hc
        have ngc : g ≠ c := ne_of_none (o := .lst (gs.map V.int)) (by rw [upd_ne hng]; exact upd_same) hc
        have dn : H d = none := by rw [upd_ne hng.symm] at hd; exact hd
        have cn : H c = none := by rw [upd_ne ndc.symm, upd_ne ngc.symm] at hc; exact hc
        refine ⟨by rw [upd_ne ndc]; exact upd_same, dkv g c 0 0, rfl, by show 4 ≤ 15; decide, ?_⟩
        refine k d g c _ ⟨⟨0, 0, ?_⟩, ⟨gs, ?_⟩, ⟨cs, ?_⟩, ngc.symm⟩ fun b o e => off_of ?_ (ne_of_none e dn) (ne_of_none e hg)
        · rw [upd_same]
          exact congrArg (fun z => some (HO.dK z)) (by kernel_rfl)
        · rw [upd_ne hng, upd_ne ngc, upd_ne hng, upd_same]
        · rw [upd_ne ndc.symm, upd_same]
        · rw [upd_ne (ne_of_none e dn), upd_ne (ne_of_none e cn), upd_ne (ne_of_none e dn), upd_ne (ne_of_none e hg)]
          exact e
end
end Rw
end T_B1

section T_BQ
set_option Elab.async false
set_option linter.all false
set_option maxRecDepth 100000
set_option maxHeartbeats 4000000
namespace Rw
open PySem PySem.Spec L2 PyProof.Rows LamX

/-- repr of None, or of data -/
def rReprN (K : PySem.W.Frag) : List V → Hp → VK → Prop := fun xs H Q => ∃ v : V, xs = [v] ∧ ((v = .non ∧ Q (.str "None") H) ∨ ∃ (a : Addr) (d : PyData), v = .ref a ∧ Dp K H (.ref a) d ∧ ShownOk d ∧ Q (.str d.shown) H)
theorem call_reprN {X : Cx} (hg : X.A.guards = some []) (hu : X.A.units + 70 < cLine) : CallR X (.builtin "repr") (rReprN X.K) := by
  intro pins s σ H xs us Q I r h
  obtain ⟨v, rfl, ⟨rfl, q⟩ | ⟨a, d, rfl, hd, hs, q⟩⟩ := h
  · obtain ⟨u, rfl, ru⟩ := vals1 r
    cases ru
    exact PySem.P.repr_of_none ⟨.str "None", H, I.tok _, ⟨_, rfl⟩, q⟩
  · exact call_reprD hg hu pins s σ H [.ref a] us Q I r ⟨a, d, rfl, hd, hs.s1, hs.s2, hs.s3, hs.s4, q⟩
/-! ### steps of laws that draw and call lambdas -/
theorem DrawAt.nt {H : Hp} {d g c : Addr} (D : DrawAt H d g c) : DrawAt (nt H) d g c := by
  obtain ⟨r, t, h⟩ := D.ex
  obtain ⟨gs, hg⟩ := D.gl
  obtain ⟨cs, hc⟩ := D.cl
  exact ⟨⟨r, t, nt_dK h⟩, ⟨gs, nt_lst hg⟩, ⟨cs, nt_lst hc⟩, D.ne⟩
theorem DrawAt.ntTo {H H' : Hp} {d g c : Addr} (D : DrawAt H d g c) (x : Evl.Ex (Rw.nt H) (Rw.nt H')) : DrawAt H' d g c := D.nt.ext (x.trans (ex_nt H'))
theorem Tabs.draw {T : List (Addr × Str)} {d g c : Addr} {H H' : Hp} (h : Tabs T H) (D : DrawAt H d g c) (x : Evl.Ex (off d g H) (off d g H')) : Tabs T H' := fun q hq => by
  obtain ⟨ts, h1, h2, h3⟩ := h q hq
  have st : ∀ {b : Addr} {u : HO}, H b = some u → (∀ l, u ≠ .dK l) → (∀ l, u ≠ .lst l) → H' b = some u := fun {b u} e n1 n2 => by
    obtain ⟨r, t, hd⟩ := D.ex
    obtain ⟨gs, hg⟩ := D.gl
    refine ex_off d g H' _ _ (x _ _ (off_of e (fun z => ?_) (fun z => ?_)))
    · rw [z, hd] at e
      exact n1 _ (Option.some.inj e).symm
    · rw [z, hg] at e
      exact n2 _ (Option.some.inj e).symm
  refine ⟨ts, st h1 (fun l z => by cases z) (fun l z => by cases z), h2, fun pos cv hcv => ?_⟩
  obtain ⟨c', e1, e2⟩ := h3 pos cv hcv
  exact ⟨c', e1, st e2 (fun l z => by unfold CodeO at z; cases z) (fun l z => by unfold CodeO at z; cases z)⟩
/-- what stays while draws are made and lambdas are -/
def fr (d g : Addr) (H : Hp) : Hp := off d g (nt H)
theorem fr_draw {d g : Addr} {H H' : Hp} (x : Evl.Ex (off d g H) (off d g H')) : Evl.Ex (fr d g H) (fr d g H') := fun a o h => by
  have z := off_some h
  have y := nt_some z.2.2
  have w := off_some (x a o (off_of y.1 z.1 z.2.1))
  exact off_of (nt_of w.2.2 y.2) z.1 z.2.1
theorem fr_nt {d g : Addr} {H H' : Hp} (x : Evl.Ex (nt H) (nt H')) : Evl.Ex (fr d g H) (fr d g H') := off_ex x
theorem fr_ex {d g : Addr} {H H' : Hp} (x : Evl.Ex H H') : Evl.Ex (fr d g H) (fr d g H') := fr_nt (nt_ex x)
theorem ex_fr (d g : Addr) (H : Hp) : Evl.Ex (fr d g H) H := (ex_off d g (nt H)).trans (ex_nt H)
theorem fr_of {d g : Addr} {H : Hp} {a : Addr} {o : HO} (h : off d g H a = some o) (n : ∀ ps, o ≠ .tbl ps) : fr d g H a = some o := by
  have z := off_some h
  exact off_of (nt_of z.2.2 n) z.1 z.2.1
theorem nt_mut2 {H H3 : Hp} {D : Addr} {xs : List V} (x : Evl.Ex (nt H) (nt H3)) (hD : nt H D = none) : Evl.Ex (nt H) (nt (upd H3 D (.lst xs))) := fun p' o' h' => by
  have h1 := x _ _ h'
  have np : p' ≠ D := fun z => by rw [z, hD] at h'; cases h'
  exact nt_of (by rw [upd_ne np]; exact (nt_some h1).1) (nt_some h1).2
theorem ModelS.fr {d g : Addr} {H : Hp} {m nb tb sb pb : Addr} {ends dots ss ps : List Str} {rows : List (Str × V)} {o n : Str → List (Str × V)} (h : ModelS (off d g H) m nb tb sb pb ends dots ss ps rows o n) : ModelS (Rw.fr d g H) m nb tb sb pb ends dots ss ps rows o n := by
  refine ⟨fr_of h.hm (fun _ z => by cases z), fr_of h.hn (fun _ z => by cases z), fr_of h.ht (fun _ z => by cases z), fr_of h.hs (fun _ z => by cases z), fr_of h.hp (fun _ z => by cases z), h.rk, fun e he => ?_, h.ok⟩
  obtain ⟨p, po, pn, hv, pa⟩ := h.ra e he
  exact ⟨p, po, pn, hv, fr_of pa.hp (fun _ z => by cases z), fr_of pa.ho (fun _ z => by cases z), fr_of pa.hn (fun _ z => by cases z), pa.o1, pa.o2⟩
theorem rest_fr {d g c : Addr} {H H' : Hp} (D : DrawAt H d g c) : Evl.Ex (nt (rest H H')) (Rw.fr d g H') := fun a u ha => by
  have y := nt_some ha
  have z : H a = none ∧ H' a = some u := by
    have e := y.1
    unfold rest at e
    cases q : H a with
    | none => rw [q] at e; exact ⟨rfl, e⟩
    | some w => rw [q] at e; cases e
  have ne := D.ned z.1
  exact fr_of (off_of z.2 ne.1 ne.2.1) y.2
theorem BadAt.nt {H : Hp} {b : Addr} {f : List Str → List Str} {Ps : List (List Str)} (h : BadAt H b f Ps) : BadAt (Rw.nt H) b f Ps := by
  obtain ⟨T, h1, h2, h3⟩ := h
  exact ⟨T, nt_of h1 (fun _ z => by cases z), h2, fun t ht => nt_lst (h3 t ht)⟩
end Rw
end T_BQ

section T_NOF
set_option Elab.async false
set_option linter.all false
set_option maxRecDepth 100000
set_option maxHeartbeats 8000000
namespace Rw
open PySem L2 PyProof.Rows
theorem dkv_no (g c : Addr) (r t : Int) {tb : List (Str × V)} (h : ∀ q ∈ tb, q.2 ≠ .int r) : dkv g c r t ≠ tkv tb := fun e => by
  have m : ((.inr "rest" : Key), V.int r) ∈ dkv g c r t := List.mem_cons_of_mem _ List.mem_cons_self
  rw [e] at m
  unfold tkv at m
  obtain ⟨q, hq, eq⟩ := List.mem_map.mp m
  exact h q hq (Prod.mk.inj eq).2
/-- a net stands apart from the draws -/
theorem net_off {C : Addr} {H : Hp} {m d g c : Addr} {ends dots ss ps : List Str} {o n : Str → List (Str × V)} (h : NetAt C H m ends dots ss ps o n) (D : DrawAt H d g c) (e2 : ends.length ≤ 2) : NetAt C (off d g H) m ends dots ss ps o n := by
  obtain ⟨dx, T, N, S, P, rows, h1, h2, h3, h4, h5, h6, h7⟩ := h
  obtain ⟨⟨r, t, hd⟩, ⟨gs, hg⟩, _, _⟩ := D
  have any : ∀ {a : Addr} {u : HO}, H a = some u → (∀ l, u ≠ .lst l) → (∀ l, u ≠ .dK l) → off d g H a = some u := fun {a u} e n1 n2 => off_of e (fun q => by rw [q, hd] at e; exact n2 _ (Option.some.inj e).symm) (fun q => by rw [q, hg] at e; exact n1 _ (Option.some.inj e).symm)
  have dic : ∀ {a : Addr} {tb : List (Str × V)}, H a = some (.dK (tkv tb)) → (dkv g c r t ≠ tkv tb) → off d g H a = some (.dK (tkv tb)) := fun {a tb} e no => off_of e (fun q => by rw [q, hd] at e; exact no (HO.dK.inj (Option.some.inj e))) (fun q => by rw [q, hg] at e; cases (Option.some.inj e))
  refine ⟨dx, T, N, S, P, rows, any h1 (fun _ z => by cases z) (fun _ z => by cases z), dic h2 (fun e => ?_), any h3 (fun _ z => by cases z) (fun _ z => by cases z), any h4 (fun _ z => by cases z) (fun _ z => by cases z), any h5 (fun _ z => by cases z) (fun _ z => by cases z), h6, fun e he => ?_⟩
  · have l := congrArg List.length e
    rw [tkv_len] at l
    have l4 : (dkv g c r t).length = 4 := rfl
    have l2 := congrArg List.length h6
    rw [List.length_map] at l2
    omega
  · obtain ⟨p, po, pn, q1, pa⟩ := h7 e he
    have tab : ∀ {tb : List (Str × V)}, TabOk dots e tb → dkv g c r t ≠ tkv tb := fun {tb} ok => dkv_no g c r t fun q hq z => by
      have := ok.ps q hq
      rw [z] at this
      rcases this with w | w | ⟨_, _, _, w⟩ <;> cases w
    exact ⟨p, po, pn, q1, any pa.hp (fun _ z => by cases z) (fun _ z => by cases z), dic pa.ho (tab pa.o1), dic pa.hn (tab pa.o2), pa.o1, pa.o2⟩
end Rw
end T_NOF

section T_LW
set_option Elab.async false
set_option linter.all false
set_option maxRecDepth 100000
set_option maxHeartbeats 16000000
namespace Rw
open PySem PySem.Spec L2 PyProof.Rows LamX
theorem tabs_mutK {T : List (Addr × Str)} {H3 : Hp} {D : Addr} {xs ys : List (Key × V)} (T3 : Tabs T H3) (d3 : H3 D = some (.dK xs)) : Tabs T (upd H3 D (.dK ys)) := fun q hq => by
  obtain ⟨ts, t1, t2, t3⟩ := T3 q hq
  refine ⟨ts, by rw [upd_ne (fun z => by rw [z, d3] at t1; cases t1)]; exact t1, t2, fun pos cv hcv => ?_⟩
  obtain ⟨c', e1, e2⟩ := t3 pos cv hcv
  exact ⟨c', e1, by rw [upd_ne (fun z => by rw [z, d3] at e2; unfold CodeO at e2; cases e2)]; exact e2⟩
/-- the numbers of places from some nodes on, a dict -/
def lenT (dots : List Str) (o n : Str → List (Str × V)) (e : Str) (on l : List Str) : List (Str × V) := l.map fun z => (z, V.int (hopR dots o n e on z : Nat))
theorem lenT_keys {dots : List Str} {o n : Str → List (Str × V)} {e : Str} {on l : List Str} : (lenT dots o n e on l).map (·.1) = l := by
  unfold lenT
  rw [List.map_map]
  exact List.map_id' l
/-- a list of two dicts -/
def TwoD (H : Hp) (pl : Addr) (T0 T1 : List (Str × V)) : Prop := ∃ q0 q1 : Addr, H pl = some (.lst [.ref q0, .ref q1]) ∧ H q0 = some (.dK (tkv T0)) ∧ H q1 = some (.dK (tkv T1))
theorem TwoD.to {H H' : Hp} {pl : Addr} {T0 T1 : List (Str × V)} (h : TwoD H pl T0 T1) (x : Evl.Ex H H') : TwoD H' pl T0 T1 := by
  obtain ⟨q0, q1, h0, h1, h2⟩ := h
  exact ⟨q0, q1, x _ _ h0, x _ _ h1, x _ _ h2⟩
/-- a list of dicts, the j-th one F j -/
def SomeD (H : Hp) (D : Addr) (k : Nat) (F : Nat → List (Str × V)) : Prop := ∃ qs : List Addr, H D = some (.lst (qs.map V.ref)) ∧ qs.length = k ∧ ∀ (j : Nat) (q : Addr), qs[j]? = some q → H q = some (.dK (tkv (F j)))
theorem SomeD.two {H : Hp} {D : Addr} {F : Nat → List (Str × V)} (h : SomeD H D 2 F) : TwoD H D (F 0) (F 1) := by
  obtain ⟨qs, h1, h2, h3⟩ := h
  match qs, h2 with
  | [q0, q1], _ => exact ⟨q0, q1, h1, h3 0 q0 rfl, h3 1 q1 rfl⟩
/-- a number of the dict of places past, the goal's as well -/
theorem past_get {dots : List Str} {o n : Str → List (Str × V)} {e y : Str} {on : List Str} (dn : dots.Nodup) (ed : e ∉ dots) (h : y = e ∨ y ∈ dots) : valV (tkv (lenT dots o n e on dots ++ [(e, .int 0)])) (Sum.inr y) = some (.int (numP e (hopR dots o n e on) (.str y) : Nat)) := by
  have kn : ((lenT dots o n e on dots ++ [(e, V.int 0)]).map (·.1)).Nodup := by
    rw [List.map_append, lenT_keys, List.nodup_append]
    exact ⟨dn, List.nodup_cons.mpr ⟨by simp, List.nodup_nil⟩, fun a ha b hb q => ed (by rw [List.mem_singleton.mp hb] at q; have q' : a = e := q; exact q' ▸ ha)⟩
  rcases h with rfl | h
  · rw [numP_e]
    exact tkv_val kn (List.mem_append_right _ List.mem_cons_self)
  · have ne : y ≠ e := fun c => ed (by rw [← c]; exact h)
    rw [numP_d ne]
    exact tkv_val kn (List.mem_append_left _ (List.mem_map.mpr ⟨y, h, rfl⟩))
/-- one more -/
theorem SomeD.more {H0 H Hx : Hp} {D q : Addr} {k : Nat} {F : Nat → List (Str × V)} (h : SomeD H D k F) (x : Evl.Ex H Hx) (hq : Hx q = none) (hD0 : H0 D = none) : ∃ qs : List Addr, (upd Hx q (.dK (tkv (F k)))) D = some (.lst (qs.map V.ref)) ∧ qs.length = k ∧
    SomeD (upd (upd Hx q (.dK (tkv (F k)))) D (.lst (qs.map V.ref ++ [.ref q]))) D (k + 1) F := by
  obtain ⟨qs, h1, h2, h3⟩ := h
  have y : Evl.Ex Hx (upd Hx q (.dK (tkv (F k)))) := Evl.Ex.new hq
  have hD := y _ _ (x _ _ h1)
  refine ⟨qs, hD, h2, qs ++ [q], by rw [upd_same, List.map_append]; rfl, by rw [List.length_append, h2]; rfl, fun j q' hj => ?_⟩
  have ne : ∀ {b : Addr} {T : List (Str × V)}, (upd Hx q (.dK (tkv (F k)))) b = some (.dK (tkv T)) → b ≠ D := fun {b T} e => ne_of e hD (by intro z; cases z)
  rcases Nat.lt_or_ge j qs.length with c | c
  · rw [List.getElem?_append_left c] at hj
    have z := y _ _ (x _ _ (h3 j q' hj))
    rw [upd_ne (ne z)]
    exact z
  · have ej : j = k := by
      have := (List.getElem?_eq_some_iff.mp hj).1
      rw [List.length_append, List.length_singleton] at this
      omega
    subst ej
    rw [List.getElem?_append_right c, h2, Nat.sub_self] at hj
    obtain rfl : q = q' := Option.some.inj hj
    have z : (upd Hx q (.dK (tkv (F j)))) q = some (.dK (tkv (F j))) := upd_same
    rw [upd_ne (ne z)]
    exact z
theorem rowsD_shaped {Rs : List (List Str)} (h : ∀ r ∈ Rs, r.length ≤ 6 ∧ ∀ z ∈ r, Nm z) : SeqAt.shaped (rowsD Rs) = true := by
  obtain ⟨g2, g3, _, _, _⟩ := rows_shown h
  have lay : PyData.canLay0 (rowsD Rs) = true := g2
  have dep : PyData.depth (rowsD Rs) ≤ 2 := by
    show PyData.depthAll (Rs.map fun r => .tuple (r.map .str)) + 1 ≤ 2
    omega
  unfold SeqAt.shaped
  rw [lay, decide_eq_true (show PyData.depth (rowsD Rs) ≤ 64 by omega)]
  rfl
theorem rowsD_empty (Rs : List (List Str)) : PyData.eqv (rowsD Rs) (.list []) = Rs.isEmpty := by
  cases Rs <;> rfl
theorem few_le_plan {brk : List Str → Bool} {ys : List Str} {k : Nat} {l : List (List Str)} (h : Few brk ys k ys) (p : PlanFrom brk ys [] l) : k ≤ l.length := by
  have r := plan_rch p Rch.zero
  rw [Nat.zero_add] at r
  exact Nat.le_of_not_lt fun q => h.2 _ q r
theorem plan_has {brk : List Str → Bool} {ys : List Str} {l : List (List Str)} {d : List Str} (h : PlanFrom brk ys d l) : safeS brk ys ys ≠ [] := by
  induction h with
  | done ne => exact ne
  | step _ _ _ ih => exact ih
section
variable {P : Program} {w : World} {K : PySem.W.Frag} {mg : Str → Option Value} {base : Heap}
def spLaw (K : PySem.W.Frag) (T : List (Addr × Str)) : Sp := fun vs H Q _ => ∃ (a : Addr) (ns : List Int), vs = [.ref a] ∧ SqL K H a (ns.map V.int) ∧ ns.length ≤ 63 ∧ Tabs T H ∧ ∀ H', Q (.bl true) H'
abbrev nLaw : List Str := ["script", "draw", "turn", "names", "target", "nodes", "pair", "model", "made", "moved", "past", "twice_back", "found", "is_plain", "node", "lot", "one"]
theorem sc_law : FnScope nLaw ["script"] (defScope s_law) := ⟨rfl, rfl, rfl, by decide +kernel, rfl, by decide +kernel, by decide +kernel⟩
abbrev scPast : Scope := { kind := .function, names := [(".0", .local), ("lot", .cell), ("dict", .globalImplicit), ("model", .cell), ("nodes", .cell), ("target", .cell)], isGenerator := false, isCoroutine := false }
/-- the reading of the pairs of nodes and numbers of places -/
def tRowLen (K : PySem.W.Frag) : TE := tTup (tCons (tVar 14) (tCons (tCB (fun xs H Q => ∃ x n, xs = [x] ∧ LenV K x H n ∧ Q (.int n) H) (tCons (tCall (spRowS K) [] E0 (tCons (tVar 7) (tCons (tVar 15) (tCons (tVar 4) (tCons (tVar 14) tNil))))) tNil)) tNil))
def rDictPairs (K : PySem.W.Frag) : List V → Hp → VK → Prop := fun xs H Q => ∃ (a : Addr) (ps : List Addr) (kvs : List (Key × V)), xs = [.ref a] ∧ SqL K H a (ps.map V.ref) ∧ Paired (fun p kv => SqT K H p [kV kv.1, kv.2]) ps kvs ∧ ∀ p, H p = none → Q (.ref p) (upd H p (.dK (mergeK [] kvs)))
def tPast1 (K : PySem.W.Frag) : TE := tCB (rDictPairs K) (tCons (tLc (iList K (tVar 5)) (gName 14) tYes (tRowLen K) [14]) tNil)
theorem ok_law {f C : Addr} {fd : FuncData} {T : List (Addr × Str)} (F : Fun K "law" "law" s_law f fd)
    (CB : Cal P w K mg base 1 "_law_begin" ["script"] (spBegin K)) (CTk : Cal P w K mg base 2 "_law_take" ["draw", "size"] spTake) (CNm : Cal P w K mg base 4 "_law_names" ["draw", "size"] (spWords K)) (CTb : Cal P w K mg base 4 "_law_table" ["draw", "nodes", "target", "way"] (spTableP K)) (CMa : Cal P w K mg base 6 "_law_made" ["model"] (spMade C))
    (CMv : Cal P w K mg base 1 "_law_moved" ["model"] spMovedS) (CRw : Cal P w K mg base 1 "_law_row" ["model", "turned", "target", "node"] (spRowS K)) (CWb : Cal P w K mg base 1 "_law_web" ["model", "done", "fresh", "target"] (spWebL K)) (CRk : Cal P w K mg base 1 "_law_ranks" ["web"] spRanksW)
    (CFe : Cal P w K mg base 8 "fewest" ["net", "wishes"] (spFewest (K := K) T C)) (CHm : Cal P w K mg base 8 "how_many" ["net", "wishes", "many"] (spHowMany (K := K) T C))
    (mRange : mg "range" = none) (mMin : mg "min" = none) (mMax : mg "max" = none) (mLen : mg "len" = none) (mTup : mg "tuple" = none) (mSorted : mg "sorted" = none) (mDict : mg "dict" = none) (mList : mg "list" = none) : FnOk P w K mg base CX0 10 f fd ["script"] (spLaw K T) := by
  obtain ⟨fB, fdB, BG, kB, bB, gB⟩ := CB.ex
  obtain ⟨fK, fdK, TK, kK, bK, gK⟩ := CTk.ex
  obtain ⟨fN, fdN, NM, kN, bN, gN⟩ := CNm.ex
  obtain ⟨fT, fdT, TB, kT, bT, gT⟩ := CTb.ex
  obtain ⟨fA, fdA, MA, kA, bA, gA⟩ := CMa.ex
  obtain ⟨fV, fdV, MV, kV_, bV, gV⟩ := CMv.ex
  obtain ⟨fR, fdR, RW, kR, bR, gR⟩ := CRw.ex
  obtain ⟨fW, fdW, WB, kW, bW, gW⟩ := CWb.ex
  obtain ⟨fQ, fdQ, RK, kQ, bQ, gQ⟩ := CRk.ex
  obtain ⟨fF, fdF, FE, kF, bF, gF⟩ := CFe.ex
  obtain ⟨fH, fdH, HM, kH, bH, gH⟩ := CHm.ex
  refine F.ok sc_law (fun vs H Q E h => ?_) (fun cdv A outer s H vs Q E hr h => ?_)
  · obtain ⟨a, ns, rfl, _⟩ := h
    rfl
  · obtain ⟨a, ns, rfl, hS, hl, hT, k⟩ := h
    have nd := sc_law.nd
    have hu := hu_of hr
    have hr1 : Room 1 _ := hr.mono (by decide)
    have hr2 : Room 2 _ := hr.mono (by decide)
    have hr4 : Room 4 _ := hr.mono (by decide)
    have hr6 : Room 6 _ := hr.mono (by decide)
    have hr8 : Room 8 _ := hr.mono (by decide)
    refine ⟨_, pss_cons (ps_set (i := 1) nd rfl (.inl rfl) (pe_call BG hr1 rfl gB kB bB .nil pass0 (pa_cons (pv 0) pa_nil)))
      (pss_cons (ps_for PassesOwn.never rfl (pi_range1 (by rfl) mRange (pa_cons (pe_callB (call_max2 rfl) (by rfl) mMax (by decide +kernel) (pa_cons pe_int (pa_cons (pe_callB (call_min2 rfl) (by rfl) mMin (by decide +kernel) (pa_cons pe_int (pa_cons (pe_callB call_len (by rfl) mLen PySem.boot_len (pa_cons (pv 0) pa_nil)) pa_nil))) pa_nil))) pa_nil)) (pg_name (i := 2) nd rfl (.inl rfl))
        (pss_cons (ps_set (i := 3) nd rfl (.inl rfl) (pe_call NM hr4 rfl gN kN bN .nil pass0 (pa_cons (pv 1) (pa_cons (pe_op op_add pe_int (pe_call TK hr2 rfl gK kK bK .nil pass0 (pa_cons (pv 1) (pa_cons pe_int pa_nil)))) pa_nil))))
        (pss_cons (ps_asg (pe_tup (pa_cons (pe_ix ix_list (pv 3) pe_int (fun _ _ => rfl)) (pa_cons (pe_callB cr_sortedLU (by rfl) mSorted (by decide +kernel) (pa_cons (pe_slice sl_list (pv 3) (po_some pe_int) po_none) pa_nil)) pa_nil))) (pg_tup rfl (pgs_cons (pg_name (i := 4) nd rfl (.inr rfl)) (pgs_cons (pg_name (i := 5) nd rfl (.inr rfl)) pgs_nil))))
        (pss_cons (ps_set (i := 6) nd rfl (.inr rfl) (pe_tup (pa_cons (pe_call TB hr4 rfl gT kT bT .nil pass0 (pa_cons (pv 1) (pa_cons (pv 5) (pa_cons (pv 4) (pa_cons pe_str pa_nil))))) (pa_cons (pe_call TB hr4 rfl gT kT bT .nil pass0 (pa_cons (pv 1) (pa_cons (pv 5) (pa_cons (pv 4) (pa_cons pe_str pa_nil))))) pa_nil))))
        (pss_cons (ps_set (i := 7) nd rfl (.inr rfl) (pe_disp (pps_cons pe_str (pv 5) (pps_cons pe_str (pe_disp (pps_cons (pv 4) (pv 6) pps_nil) (by rfl) (by rfl) (fun z => by cases z) (by decide)) (pps_cons pe_str (pe_slice sl_list (pv 5) po_none (po_some (pe_call TK hr2 rfl gK kK bK .nil pass0 (pa_cons (pv 1) (pa_cons pe_int pa_nil))))) (pps_cons pe_str (pe_lst pa_nil) pps_nil)))) (by rfl) (by rfl) (fun z => by cases z) (by decide)))
        (pss_cons (ps_par (i := 8) (j := 9) (by rfl) nd rfl rfl (by decide) rfl rfl (pa_cons (pe_call MA hr6 rfl gA kA bA .nil pass0 (pa_cons (pv 7) pa_nil)) (pa_cons (pe_call MV hr1 rfl gV kV_ bV .nil pass0 (pa_cons (pv 7) pa_nil)) pa_nil)) (by rfl))
        (C8.pss_cut (ps_set (i := 10) nd rfl (.inr rfl) (pe_lc (own := [("lot", 15)]) (g := gName 15) (tt := tYes) (te := tPast1 K) rfl nd (pi_list (pe_lst (pa_cons (pe_tup pa_nil) (pa_cons (pv 5) pa_nil)))) (blkOk_by (own := [("lot", 15)]) (N := nLaw) (sc := defScope s_law) (by decide +kernel))
              (fun _ _ _ _ _ => pg_name (i := 15) nd rfl (Or.inr rfl)) (fun _ _ _ _ _ => pts_nil)
              (fun _ _ _ _ _ => pe_callTy (call_dictP rfl) (by rfl) mDict (by decide +kernel) (pa_cons
                (pe_lc (own := [("node", 14)]) (g := gName 14) (tt := tYes) (te := tRowLen K) rfl nd (pi_list (pv 5)) (by
                  have q : ∀ {sc : Scope}, blkC nLaw scPast sc [("node", 14)] = true → BlkOk nLaw scPast sc [("node", 14)] := fun h => blkOk_by h
                  refine q ?_
                  decide +kernel)
                  (fun _ _ _ _ _ => pg_name (i := 14) nd rfl (Or.inl rfl)) (fun _ _ _ _ _ => pts_nil)
                  (fun _ _ _ _ _ => pe_tup (pa_cons (pv 14) (pa_cons (pe_callB call_len (by rfl) mLen PySem.boot_len (pa_cons (pe_call RW hr1 rfl gR kR bR .nil pass0 (pa_cons (pv 7) (pa_cons (pv 15) (pa_cons (pv 4) (pa_cons (pv 14) pa_nil))))) pa_nil)) pa_nil)))) pa_nil))))
        (C8.pss_cut (ps_set (i := 10) nd rfl (.inr rfl) (pe_lc (own := [("one", 16)]) (g := gName 16) (tt := tYes) (te := tCB (rDictPairs K) (tCons (tOp rCat (LiI.tListItems (tVar 16)) (tLst (tCons (tTup (tCons (tVar 4) (tCons (tC (.int 0)) tNil))) tNil))) tNil)) rfl nd (pi_list (pv 10)) (blkOk_by (own := [("one", 16)]) (N := nLaw) (sc := defScope s_law) (by decide +kernel))
              (fun _ _ _ _ _ => pg_name (i := 16) nd rfl (Or.inl rfl)) (fun _ _ _ _ _ => pts_nil)
              (fun _ _ _ _ _ => pe_callTy (call_dictP rfl) (by rfl) mDict (by decide +kernel) (pa_cons (pe_op op_cat (LiI.pe_listItems rfl (pv 16) (by rfl) mList (by decide +kernel)) (pe_lst (pa_cons (pe_tup (pa_cons (pv 4) (pa_cons pe_int pa_nil))) pa_nil))) pa_nil))))
        (C8.pss_cut (ps_setLc (i := 11) (own := [("node", 14)]) (g := gName 14) (tt := tTest (tOp (rI0 fun i j => V.bl (decide (j < i))) (tDGet (tOp (rIxL K) (tVar 10) (tC (.int 0))) (tDGet (tOp (rIxT K) (tVar 6) (tC (.int 1))) (tVar 14))) (tDGet (tOp (rIxL K) (tVar 10) (tC (.int 0))) (tVar 14)))) (te := tVar 14) (by rfl) nd rfl rfl (sw_true rfl rfl rfl (by decide +kernel)) (pi_list (pv 9)) (blkOk_by (own := [("node", 14)]) (N := nLaw) (sc := defScope s_law) (by decide +kernel))
              (fun _ _ _ _ _ => pg_name (i := 14) nd rfl (Or.inl rfl)) (fun _ _ _ _ _ => pts_one (pt_cmpR op_gt (pe_dget hu (pe_ix ix_list (pv 10) pe_int (fun _ _ => rfl)) (pe_dget hu (pe_ix ix_tup (pv 6) pe_int (fun _ _ => rfl)) (pv 14) (fun _ _ => rfl)) (fun _ _ => rfl)) (pe_dget hu (pe_ix ix_list (pv 10) pe_int (fun _ _ => rfl)) (pv 14) (fun _ _ => rfl)) (nomark _))) (fun _ _ _ _ _ => pv 14))
        (C8.pss_cut (ps_setLc (i := 11) (own := [("node", 14)]) (g := gName 14) (tt := tTest (tOp (rI0 fun i j => V.bl (decide (j < i))) (tDGet (tOp (rIxL K) (tVar 10) (tC (.int 1))) (tDGet (tOp (rIxT K) (tVar 6) (tC (.int 0))) (tVar 14))) (tDGet (tOp (rIxL K) (tVar 10) (tC (.int 1))) (tVar 14)))) (te := tVar 14) (by rfl) nd rfl rfl (sw_true rfl rfl rfl (by decide +kernel)) (pi_list (pv 11)) (blkOk_by (own := [("node", 14)]) (N := nLaw) (sc := defScope s_law) (by decide +kernel))
              (fun _ _ _ _ _ => pg_name (i := 14) nd rfl (Or.inl rfl)) (fun _ _ _ _ _ => pts_one (pt_cmpR op_gt (pe_dget hu (pe_ix ix_list (pv 10) pe_int (fun _ _ => rfl)) (pe_dget hu (pe_ix ix_tup (pv 6) pe_int (fun _ _ => rfl)) (pv 14) (fun _ _ => rfl)) (fun _ _ => rfl)) (pe_dget hu (pe_ix ix_list (pv 10) pe_int (fun _ _ => rfl)) (pv 14) (fun _ _ => rfl)) (nomark _))) (fun _ _ _ _ _ => pv 14))
        (pss_cons (ps_set (i := 12) nd rfl (.inl rfl) (pe_call FE hr8 rfl gF kF bF .nil pass0 (pa_cons (pv 8) (pa_cons (pe_lst (pa_cons pe_str pa_nil)) pa_nil))))
        (C8.pss_cut (ps_if (PW.pt (pw_or (pt_cmpR op_ne (pe_ix ix_tup (pv 12) pe_int (fun _ _ => rfl)) pe_str (nomark _))
            (pw_or (pt_cmpR op_ne (pe_cmpR op_gt (pe_callB call_len (by rfl) mLen PySem.boot_len (pa_cons (pe_ix ix_tup (pv 12) pe_int (fun _ _ => rfl)) pa_nil)) pe_int (nomark _)) (pe_cmpR (op_neD hr.units) (pv 11) (pe_lst pa_nil) (nomark _)) (nomark _))
            (pw_or1 (pt_cmpR op_ne (pe_cmpR (op_eqD hr.units) (pe_ix ix_tup (pv 12) pe_int (fun _ _ => rfl)) (pe_lst pa_nil) (nomark _)) (pe_cmpR (op_eqD hr.units) (pv 9) (pe_lst pa_nil) (nomark _)) (nomark _)))))) (pss_one (ps_ret pe_bl)) pss_nil)
        (C8.pss_cut (ps_set (i := 13) nd rfl (.inl rfl) (pe_cmpR op_notN (pe_call RK hr1 rfl gQ kQ bQ .nil pass0 (pa_cons (pe_call WB hr1 rfl gW kW bW .nil pass0 (pa_cons (pv 7) (pa_cons (pe_tup pa_nil) (pa_cons (pe_callTy call_tuple_of (by rfl) mTup (by decide +kernel) (pa_cons (pv 9) pa_nil)) (pa_cons (pv 4) pa_nil))))) pa_nil)) pe_non (nomark _)))
        (pss_one (ps_if (PW.pt (pw_or (pt_cmpR op_ne (pe_cmpR op_lt (pe_callB call_len (by rfl) mLen PySem.boot_len (pa_cons (pe_ix ix_tup (pv 12) pe_int (fun _ _ => rfl)) pa_nil)) pe_int (nomark _)) (pv 13) (nomark _))
            (pw_or1 (PW.pt (pw_and (pt_cmpR op_gt (pe_call HM hr8 rfl gH kH bH .nil pass0 (pa_cons (pv 8) (pa_cons (pe_lst (pa_cons pe_str pa_nil)) (pa_cons pe_int pa_nil)))) pe_int (nomark _)) (pw_and1 (pt_cmpR (op_neD hr.units) (pv 11) (pe_lst pa_nil) (nomark _)))))))) (pss_one (ps_ret pe_bl)) pss_nil)))))))))))))))
      (pss_one (ps_ret pe_bl))), ?_⟩
    -- draw = _law_begin(script)
    refine ⟨.ref a, rfl, a, ns, rfl, hS, hl, fun d g c H1 D1 x1 => ?_⟩
    have T1 : Tabs T H1 := hT.ext (x1.trans (ex_off d g H1))
    refine ⟨.ref a, rfl, .ref a, _, rfl, .inl ⟨_, Evl.ex_l (x1.trans (ex_off d g H1)) hS, rfl⟩, 16, _, rfl, 6, _, rfl, ?_⟩
    obtain ⟨many, hmany⟩ : ∃ many : Int, many = (if (if ((ns.map V.int).length : Int) < 16 then ((ns.map V.int).length : Int) else 16) > 6 then (if ((ns.map V.int).length : Int) < 16 then ((ns.map V.int).length : Int) else 16) else 6) := ⟨_, rfl⟩
    have bound : (0 : Int) ≤ many ∧ many ≤ 100 := by
      rw [hmany, List.length_map]
      split <;> split <;> omega
    refine ⟨many, by rw [hmany], by omega, by omega, for_range (lo := 0) (n := many.toNat)
      (fun i σ H' => ∃ x2 x3 x4 x5 x6 x7 x8 x9 x10 x11 x12 x13 x14 x15 x16 : Option V, σ = [some (.ref a), some (.ref d), x2, x3, x4, x5, x6, x7, x8, x9, x10, x11, x12, x13, x14, x15, x16] ∧ DrawAt H' d g c ∧ Tabs T H')
      ⟨none, none, none, none, none, none, none, none, none, none, none, none, none, none, none, rfl, D1, T1⟩ ?_ ?_⟩
    · rintro i σ H2 hi ⟨x2, x3, x4, x5, x6, x7, x8, x9, x10, x11, x12, x13, x14, x15, x16, rfl, D2, T2⟩
      -- names
      refine ⟨.ref d, rfl, .ref d, rfl, d, g, c, 5, rfl, by decide, by decide, D2, fun t H3 t0 t1 D3 y3 => ?_⟩
      obtain ⟨u, rfl⟩ : ∃ u : Nat, t = (u : Int) := ⟨t.toNat, by omega⟩
      have T3 := Rw.Tabs.draw T2 D2 y3
      refine ⟨3, (u : Int), rfl, rfl, d, g, c, 3 + u, by show [V.ref d, V.int (3 + (u : Int))] = [V.ref d, V.int ((3 + u : Nat) : Int)]; rw [show ((3 + u : Nat) : Int) = 3 + (u : Int) by omega], D3, by omega, fun wl ws0 H4 wlen wnd wnm D4 y4 hwl0 hwl => ?_⟩
      have T4 := Rw.Tabs.draw T3 D3 y4
      obtain ⟨e, ws, rfl⟩ : ∃ e ws, ws0 = e :: ws := by
        cases ws0 with
        | nil => rw [List.length_nil] at wlen; omega
        | cons e ws => exact ⟨e, ws, rfl⟩
      rw [List.length_cons] at wlen
      have end_ : e ∉ ws := (List.nodup_cons.mp wnd).1
      have wnd' : ws.Nodup := (List.nodup_cons.mp wnd).2
      have em : Nm e := wnm e List.mem_cons_self
      have hwl4 := (off_some hwl).2.2
      -- target, nodes
      refine ⟨.ref wl, rfl, wl, _, 0, .str e, rfl, rfl, Evl.sq_of hwl4, atI_nat (j := 0) rfl, .ref wl, rfl, 1, rfl, wl, _, rfl, Evl.sq_of hwl4, fun p1 hp1 => ?_⟩
      have ecut : cutV ((e :: ws).map V.str) (some 1) none = ws.map V.str := cut_drop ((e :: ws).map V.str) 1
      rw [ecut]
      have y5 : Evl.Ex H4 (upd H4 p1 (.lst (ws.map V.str))) := Evl.Ex.new hp1
      have q5 : (upd H4 p1 (.lst (ws.map V.str))) p1 = some (.lst (ws.map V.str)) := upd_same
      generalize upd H4 p1 (.lst (ws.map V.str)) = H5 at y5 q5
      refine ⟨p1, ws, rfl, .inl (Evl.sq_of q5), by omega, fun dots db dperm dsort hdb => ⟨by show 2 ≤ sizeLine; decide, fun tp htp => ?_⟩⟩
      have D5 := D4.ext y5
      have ndb := D5.ned hdb
      have y6 : Evl.Ex H5 (upd H5 db (.lst (dots.map V.str))) := Evl.Ex.new hdb
      have y7 : Evl.Ex (upd H5 db (.lst (dots.map V.str))) (upd (upd H5 db (.lst (dots.map V.str))) tp (.tup [.str e, .ref db])) := Evl.Ex.new htp
      have q6 := y7 _ _ (show (upd H5 db (.lst (dots.map V.str))) db = some (.lst (dots.map V.str)) from upd_same)
      have q7 : (upd (upd H5 db (.lst (dots.map V.str))) tp (.tup [.str e, .ref db])) tp = some (.tup [.str e, .ref db]) := upd_same
      have y57 := y6.trans y7
      generalize upd (upd H5 db (.lst (dots.map V.str))) tp (.tup [.str e, .ref db]) = H7 at y57 q6 q7
      have D7 := D5.ext y57
      have T7 := (T4.ext y5).ext y57
      have dbO : off d g H7 db = some (.lst (dots.map V.str)) := off_of q6 ndb.1 ndb.2.1
      have dl : dots.length = ws.length := dperm.length_eq
      have dn : dots.Nodup := dperm.nodup_iff.mpr wnd'
      have dm : ∀ z ∈ dots, Nm z := fun z hz => wnm z (List.mem_cons_of_mem _ (dperm.subset hz))
      have ed : e ∉ dots := fun h => end_ (dperm.subset h)
      have d6 : dots.length ≤ 6 := by omega
      refine ⟨tp, _, rfl, Evl.st_of q7, rfl, _, _, rfl, _, [], rfl, rfl, ?_⟩
      -- pair
      refine ⟨.ref d, rfl, .ref db, rfl, .str e, rfl, d, g, c, db, dots, e, rfl, D7, Evl.sq_of dbO, dn, dm, em, ed, by omega, fun po w1 H8 pm1 ok1 D8 y8 po0 hpo => ?_⟩
      have T8 := Rw.Tabs.draw T7 D7 y8
      refine ⟨.ref d, rfl, .ref db, rfl, .str e, rfl, d, g, c, db, dots, e, rfl, D8, Evl.sq_of (y8 _ _ dbO), dn, dm, em, ed, by omega, fun pn w2 H9 pm2 ok2 D9 y9 pn0 hpn => ⟨by show 2 ≤ sizeLine; decide, fun pr hpr => ?_⟩⟩
      have T9 := Rw.Tabs.draw T8 D8 y9
      have npr := D9.ned hpr
      have yA : Evl.Ex H9 (upd H9 pr (.tup [.ref po, .ref pn])) := Evl.Ex.new hpr
      have qA : (upd H9 pr (.tup [.ref po, .ref pn])) pr = some (.tup [.ref po, .ref pn]) := upd_same
      generalize upd H9 pr (.tup [.ref po, .ref pn]) = HA at yA qA
      have DA := D9.ext yA
      have TA := T9.ext yA
      have oA := off_ex (d := d) (g := g) yA
      have prO : off d g HA pr = some (.tup [.ref po, .ref pn]) := off_of qA npr.1 npr.2.1
      have poO := oA _ _ (y9 _ _ hpo)
      have pnO := oA _ _ hpn
      have dbO2 := oA _ _ (y9 _ _ (y8 _ _ dbO))
      -- model
      refine fun m hm => ?_
      have nm_ := DA.ned hm
      have yB : Evl.Ex HA (upd HA m (.dK [])) := Evl.Ex.new hm
      have qB : (upd HA m (.dK [])) m = some (.dK []) := upd_same
      generalize upd HA m (.dK []) = HB at yB qB
      have oB := off_ex (d := d) (g := g) yB
      have DB := DA.ext yB
      have TB' := TA.ext yB
      have mO : off d g HB m = some (.dK []) := off_of qB nm_.1 nm_.2.1
      refine ⟨.ref db, rfl, fun tb htb => ⟨.str e, rfl, .ref pr, rfl, upd_same, [(Sum.inr e, .ref pr)], rfl, by show 1 ≤ 15; decide, ?_⟩⟩
      have ntb := DB.ned htb
      rw [upd_upd, show mergeK [] [((Sum.inr e : Key), V.ref pr)] = tkv [(e, .ref pr)] from merge_tkv (tb := [(e, V.ref pr)]) (List.nodup_cons.mpr ⟨by simp, List.nodup_nil⟩)]
      have yC : Evl.Ex HB (upd HB tb (.dK (tkv [(e, .ref pr)]))) := Evl.Ex.new htb
      have qC : (upd HB tb (.dK (tkv [(e, .ref pr)]))) tb = some (.dK (tkv [(e, .ref pr)])) := upd_same
      have mtb : m ≠ tb := ne_of_none qB htb
      generalize upd HB tb (.dK (tkv [(e, .ref pr)])) = HC at yC qC
      have oC := off_ex (d := d) (g := g) yC
      have DC := DB.ext yC
      have TC := TB'.ext yC
      have tbO : off d g HC tb = some (.dK (tkv [(e, .ref pr)])) := off_of qC ntb.1 ntb.2.1
      refine ⟨.ref db, rfl, .ref d, rfl, d, g, c, 2, rfl, by decide, by decide, DC, fun t5 HD t50 t51 DD yD => ?_⟩
      obtain ⟨tk, rfl⟩ : ∃ tk : Nat, t5 = (tk : Int) := ⟨t5.toNat, by omega⟩
      have TD := Rw.Tabs.draw TC DC yD
      have oBD := oC.trans yD
      have oAD := oB.trans oBD
      have dbD := oAD _ _ dbO2
      refine ⟨_, rfl, db, _, rfl, Evl.sq_of (off_some dbD).2.2, fun sb hsb => ⟨by show 0 ≤ sizeLine; decide, fun pb hpb => ?_⟩⟩
      rw [cut_take, ← List.map_take] at hpb ⊢
      have nsb := DD.ned hsb
      have yE1 : Evl.Ex HD (upd HD sb (.lst ((dots.take tk).map V.str))) := Evl.Ex.new hsb
      have DE1 := DD.ext yE1
      have npb := DE1.ned hpb
      have yE2 : Evl.Ex (upd HD sb (.lst ((dots.take tk).map V.str))) (upd (upd HD sb (.lst ((dots.take tk).map V.str))) pb (.lst [])) := Evl.Ex.new hpb
      have sE := yE2 _ _ (show (upd HD sb (.lst ((dots.take tk).map V.str))) sb = some (.lst ((dots.take tk).map V.str)) from upd_same)
      have pE : (upd (upd HD sb (.lst ((dots.take tk).map V.str))) pb (.lst [])) pb = some (.lst (([] : List Str).map V.str)) := upd_same
      have yE := yE1.trans yE2
      generalize upd (upd HD sb (.lst ((dots.take tk).map V.str))) pb (.lst []) = HE at yE sE pE
      have DE := DD.ext yE
      have TE := TD.ext yE
      have oE := off_ex (d := d) (g := g) yE
      have mE := (off_some ((oBD.trans oE) _ _ mO)).2.2
      refine ⟨mE, mkS db tb sb pb, rfl, by show 4 ≤ 15; decide, ?_⟩
      rw [show mergeK [] (mkS db tb sb pb) = mkS db tb sb pb by kernel_rfl]
      -- all but the model's dict stays
      have stays : ∀ {b : Addr} {ob : HO}, off d g HE b = some ob → ob ≠ .dK [] → off d g (upd HE m (.dK (mkS db tb sb pb))) b = some ob := fun {b ob} h nob => by
        have z := off_some h
        exact off_of (by rw [upd_ne (ne_of z.2.2 mE nob)]; exact z.2.2) z.1 z.2.1
      have oAE := oAD.trans oE
      have mF : off d g (upd HE m (.dK (mkS db tb sb pb))) m = some (.dK (mkS db tb sb pb)) := off_of upd_same nm_.1 nm_.2.1
      have dbF := stays (oAE _ _ dbO2) (by intro z; cases z)
      have tbF := stays ((yD.trans oE) _ _ tbO) (by intro z; cases z)
      have sbF := stays (off_of sE nsb.1 nsb.2.1) (by intro z; cases z)
      have pbF := stays (off_of pE npb.1 npb.2.1) (by intro z; cases z)
      have prF := stays (oAE _ _ prO) (by intro z; cases z)
      have pathne : ∀ {w' : List Str}, w'.Perm dots → HO.dK (tkv (pathT e w')) ≠ .dK [] := fun {w'} pm z => by
        have z1 := congrArg List.length (HO.dK.inj z)
        rw [tkv_len] at z1
        have z2 := congrArg List.length (pathT_keys e w')
        rw [List.length_map] at z2
        have z3 := pm.length_eq
        rw [List.length_nil] at z1
        omega
      have poF := stays (oAE _ _ poO) (pathne pm1)
      have pnF := stays (oAE _ _ pnO) (pathne pm2)
      have DF : DrawAt (upd HE m (.dK (mkS db tb sb pb))) d g c := DE.mut nm_.1 nm_.2.1 nm_.2.2
      have TF : Tabs T (upd HE m (.dK (mkS db tb sb pb))) := tabs_mutK TE mE
      generalize upd HE m (.dK (mkS db tb sb pb)) = HF at mF dbF tbF sbF pbF prF poF pnF DF TF
      have ok : ModelOk [e] dots (dots.take tk) [] := ⟨by show 0 < 1; decide, by show 1 ≤ 2; decide, List.nodup_cons.mpr ⟨by simp, List.nodup_nil⟩, by rfl, (fun z hz => by rw [List.mem_singleton.mp hz]; exact em), by omega, d6, dn, dsort, dm, (fun z hz => by rw [List.mem_singleton.mp hz]; exact ed), dn.sublist (List.take_sublist _ _), sorted_sub (List.take_sublist _ _) dsort, (fun z hz => List.mem_of_mem_take hz), List.nodup_nil, by decide, (fun z hz => nomatch hz)⟩
      obtain ⟨o, ho⟩ : ∃ o : Str → List (Str × V), o = fun _ => pathT e w1 := ⟨_, rfl⟩
      obtain ⟨n, hn⟩ : ∃ n : Str → List (Str × V), n = fun _ => pathT e w2 := ⟨_, rfl⟩
      have eo : o e = pathT e w1 := by rw [ho]
      have en : n e = pathT e w2 := by rw [hn]
      have MF : ModelS (off d g HF) m db tb sb pb [e] dots (dots.take tk) [] [(e, .ref pr)] o n := ⟨mF, dbF, tbF, sbF, pbF, List.Perm.refl _, (fun e' he' => by
        rw [List.mem_singleton.mp he']
        exact ⟨pr, po, pn, tkv_val (tb := [(e, V.ref pr)]) (List.nodup_cons.mpr ⟨by simp, List.nodup_nil⟩) List.mem_cons_self, prF, by rw [eo]; exact poF, by rw [en]; exact pnF, by rw [eo]; exact ok1, by rw [en]; exact ok2⟩), ok⟩
      obtain ⟨r0, p0⟩ : ∃ r, PathR dots e (o e) r := ⟨_, by rw [eo]; exact pathT_r pm1.symm (pm1.nodup_iff.mpr dn)⟩
      obtain ⟨r1, p1'⟩ : ∃ r, PathR dots e (n e) r := ⟨_, by rw [en]; exact pathT_r pm2.symm (pm2.nodup_iff.mpr dn)⟩
      have tok : TabsOk [e] dots o n := ⟨(fun e' he' => by rw [List.mem_singleton.mp he', eo]; exact ok1), (fun e' he' => by rw [List.mem_singleton.mp he', en]; exact ok2)⟩
      -- made, moved
      have MF' := MF.to (ex_off d g HF)
      refine ⟨.ref m, rfl, m, db, tb, sb, pb, [e], dots, _, [], _, o, n, rfl, MF', fun nx HG yG hnx NG => ?_⟩
      have MG := MF'.to yG
      refine ⟨.ref m, rfl, m, db, tb, sb, pb, [e], dots, _, [], _, o, n, rfl, MG.r, MG.rk, fun ml HI yI hml0 hml => ⟨_, _, rfl, ?_⟩⟩
      have MI := MG.to yI
      have NI := (NG.to (rest_ex HF HG)).to yI
      have DI := (DF.ext yG).ext yI
      have TI := (TF.ext yG).ext yI
      have dbI := MI.hn
      have mvl : (moving [e] dots o n).length ≤ 6 := Nat.le_trans (List.length_filter_le _ _) d6
      have mnd : (moving [e] dots o n).Nodup := dn.sublist List.filter_sublist
      -- past
      refine ⟨fun σ' H' => ∃ pl : Addr, σ' = [some (.ref a), some (.ref d), some (.int (0 + (i : Int))), some (.ref wl), some (.str e), some (.ref db), some (.ref pr), some (.ref m), some (.ref nx), some (.ref ml), some (.ref pl), x11, x12, x13, x14, x15, x16] ∧ Evl.Ex HI H' ∧ TwoD H' pl (lenT dots o n e [] dots) (lenT dots o n e dots dots), ?_, ?_⟩
      · refine ⟨by show 0 ≤ sizeLine; decide, fun t0 ht0 => ⟨.ref db, rfl, by show 2 ≤ sizeLine; decide, fun l0 hl0 => ?_⟩⟩
        have yJ1 : Evl.Ex HI (upd HI t0 (.tup [])) := Evl.Ex.new ht0
        have yJ2 : Evl.Ex (upd HI t0 (.tup [])) (upd (upd HI t0 (.tup [])) l0 (.lst [.ref t0, .ref db])) := Evl.Ex.new hl0
        have t0J := yJ2 _ _ (show (upd HI t0 (.tup [])) t0 = some (.tup []) from upd_same)
        have l0J : (upd (upd HI t0 (.tup [])) l0 (.lst [.ref t0, .ref db])) l0 = some (.lst [.ref t0, .ref db]) := upd_same
        have yJ := yJ1.trans yJ2
        generalize upd (upd HI t0 (.tup [])) l0 (.lst [.ref t0, .ref db]) = HJ at yJ t0J l0J
        have dbJ := yJ _ _ dbI
        refine ⟨l0, rfl, ⟨_, Evl.sq_of l0J⟩, fun Dl hDl => lc_list (K := K) (a := l0) (xs := [.ref t0, .ref db])
          (fun j H' => Evl.Ex HJ H' ∧ SomeD H' Dl j fun j => lenT dots o n e (if j = 0 then [] else dots) dots) ⟨Evl.Ex.new hDl, [], upd_same, rfl, fun j q h => nomatch h⟩ (fun j H' _ h => Evl.sq_of (h.1 _ _ l0J)) ?_ ?_⟩
        · rintro j x HK hj ⟨yK, sd⟩
          have j2 : j < 2 := (List.getElem?_eq_some_iff.mp hj).1
          obtain ⟨lt, on, rfl, hon, hlt⟩ : ∃ (lt : Addr) (on : List Str), x = V.ref lt ∧ on = (if j = 0 then [] else dots) ∧ ∀ {Hx : Hp}, Evl.Ex HJ Hx → (SqL K Hx lt (on.map V.str) ∨ SqT K Hx lt (on.map V.str)) := by
            match j, hj, j2 with
            | 0, hj, _ => exact ⟨t0, [], (Option.some.inj hj).symm, rfl, fun x => .inr (Evl.st_of (x _ _ t0J))⟩
            | 1, hj, _ => exact ⟨db, dots, (Option.some.inj hj).symm, rfl, fun x => .inl (Evl.sq_of (x _ _ dbJ))⟩
          refine ⟨rfl, yes_if ?_⟩
          refine ⟨.ref db, rfl, db, rfl, ⟨_, Evl.sq_of (yK _ _ dbJ)⟩, fun D2 hD2 => lc_list (K := K) (a := db) (xs := dots.map V.str)
            (fun q H' => Evl.Ex HK H' ∧ ∃ ts : List Addr, H' D2 = some (.lst (ts.map V.ref)) ∧ ts.length = q ∧ Paired (fun t kv => H' t = some (.tup [kV kv.1, kv.2])) ts (tkv (lenT dots o n e on (dots.take q)))) ⟨Evl.Ex.new hD2, [], upd_same, rfl, .nil⟩ (fun q H' _ h => Evl.sq_of (h.1 _ _ (yK _ _ dbJ))) ?_ ?_⟩
          · rintro q y HL hq ⟨yL, ts, dL, tsl, pr2⟩
            obtain ⟨z, hz, rfl⟩ := str_at hq
            have zd := List.mem_of_getElem? hz
            have ql : q < dots.length := (List.getElem?_eq_some_iff.mp hz).1
            have etake : dots.take (q + 1) = dots.take q ++ [z] := by rw [List.take_add_one, hz]; rfl
            have yJL := yK.trans yL
            refine ⟨rfl, yes_if ?_⟩
            refine ⟨.str z, rfl, .ref m, rfl, .ref lt, rfl, .str e, rfl, .str z, rfl, m, lt, db, tb, sb, pb, e, z, on, [e], dots, _, [], _, o, n, rfl, (MI.to (yJ.trans yJL)).r, hlt yJL, List.mem_cons_self, zd, fun p HM yM hp0 hp => ⟨.ref p, _, rfl, .inl ⟨_, Evl.sq_of hp, rfl⟩, by show 2 ≤ sizeLine; decide, fun t ht => ?_⟩⟩
            have yT : Evl.Ex HM (upd HM t (.tup [.str z, .int ((walkOf (nowTab dots (o e) (n e) on) (dots.length + 1) z).length : Nat)])) := Evl.Ex.new ht
            have tT : (upd HM t (.tup [.str z, .int ((walkOf (nowTab dots (o e) (n e) on) (dots.length + 1) z).length : Nat)])) t = some (.tup [.str z, .int ((walkOf (nowTab dots (o e) (n e) on) (dots.length + 1) z).length : Nat)]) := upd_same
            generalize upd HM t (.tup [.str z, .int ((walkOf (nowTab dots (o e) (n e) on) (dots.length + 1) z).length : Nat)]) = HN at yT tT
            have yMN := yM.trans yT
            have dN := yMN _ _ dL
            refine ⟨_, dN, by rw [List.length_map]; exact small1000 (by omega), (yL.trans yMN).mut hD2, ts ++ [t], by rw [upd_same, List.map_append]; rfl, by rw [List.length_append, tsl]; rfl, ?_⟩
            have e1 : tkv (lenT dots o n e on (dots.take (q + 1))) = tkv (lenT dots o n e on (dots.take q)) ++ [((Sum.inr z : Key), V.int (hopR dots o n e on z : Nat))] := by
              rw [etake]
              unfold lenT tkv
              rw [List.map_append, List.map_append]
              rfl
            rw [e1]
            refine Paired.snoc (Paired.mapP pr2 fun t' kv h => ?_) ?_
            · have h' := yMN _ _ h
              rw [upd_ne (ne_of h' dN (by intro z; cases z))]
              exact h'
            · rw [upd_ne (ne_of tT dN (by intro z; cases z))]
              exact tT
          · rintro HL ⟨yL, ts, dL, tsl, pr2⟩
            rw [List.length_map, List.take_length] at pr2
            refine ⟨D2, ts, tkv (lenT dots o n e on dots), rfl, Evl.sq_of dL, Paired.mapP pr2 (fun _ _ h => Evl.st_of h), fun qa hqa => ?_⟩
            rw [merge_tkv (by rw [lenT_keys]; exact dn), hon]
            obtain ⟨qs, w1', w2', w3'⟩ := sd.more yL hqa hDl
            exact ⟨_, w1', by rw [List.length_map]; exact small1000 (by omega), (yK.trans (yL.trans (Evl.Ex.new hqa))).mut hDl, w3'⟩
        · rintro HK ⟨yK, sd⟩
          exact ⟨Dl, rfl, yJ.trans yK, sd.two⟩
      rintro σ HJ ⟨pl, rfl, yJ, td⟩
      -- past, with the goal
      refine ⟨fun σ' H' => ∃ pl : Addr, σ' = [some (.ref a), some (.ref d), some (.int (0 + (i : Int))), some (.ref wl), some (.str e), some (.ref db), some (.ref pr), some (.ref m), some (.ref nx), some (.ref ml), some (.ref pl), x11, x12, x13, x14, x15, x16] ∧ Evl.Ex HI H' ∧ TwoD H' pl (lenT dots o n e [] dots ++ [(e, .int 0)]) (lenT dots o n e dots dots ++ [(e, .int 0)]), ?_, ?_⟩
      · obtain ⟨q0, q1, h0, hq0, hq1⟩ := td
        refine ⟨.ref pl, rfl, pl, rfl, ⟨_, Evl.sq_of h0⟩, fun Dl hDl => lc_list (K := K) (a := pl) (xs := [.ref q0, .ref q1])
          (fun j H' => Evl.Ex HJ H' ∧ SomeD H' Dl j fun j => lenT dots o n e (if j = 0 then [] else dots) dots ++ [(e, .int 0)]) ⟨Evl.Ex.new hDl, [], upd_same, rfl, fun j q h => nomatch h⟩ (fun j H' _ h => Evl.sq_of (h.1 _ _ h0)) ?_ ?_⟩
        · rintro j x HK hj ⟨yK, sd⟩
          have j2 : j < 2 := (List.getElem?_eq_some_iff.mp hj).1
          obtain ⟨qj, rfl, hqj⟩ : ∃ qj : Addr, x = V.ref qj ∧ HJ qj = some (.dK (tkv (lenT dots o n e (if j = 0 then [] else dots) dots))) := by
            match j, hj, j2 with
            | 0, hj, _ => exact ⟨q0, (Option.some.inj hj).symm, hq0⟩
            | 1, hj, _ => exact ⟨q1, (Option.some.inj hj).symm, hq1⟩
          refine ⟨rfl, yes_if ?_⟩
          refine ⟨.ref qj, rfl, qj, _, rfl, yK _ _ hqj, fun HL p ts yL hp hts hpn hp' prr => ?_⟩
          refine ⟨.str e, rfl, by show 2 ≤ sizeLine; decide, fun tt htt => ⟨by show 1 ≤ sizeLine; decide, fun l2 hl2 => ?_⟩⟩
          have yM1 : Evl.Ex HL (upd HL tt (.tup [.str e, .int 0])) := Evl.Ex.new htt
          have yM2 : Evl.Ex (upd HL tt (.tup [.str e, .int 0])) (upd (upd HL tt (.tup [.str e, .int 0])) l2 (.lst [.ref tt])) := Evl.Ex.new hl2
          have ttM := yM2 _ _ (show (upd HL tt (.tup [.str e, .int 0])) tt = some (.tup [.str e, .int 0]) from upd_same)
          have l2M : (upd (upd HL tt (.tup [.str e, .int 0])) l2 (.lst [.ref tt])) l2 = some (.lst [.ref tt]) := upd_same
          have yM := yM1.trans yM2
          generalize upd (upd HL tt (.tup [.str e, .int 0])) l2 (.lst [.ref tt]) = HM at yM ttM l2M
          have tsl : ts.length ≤ 6 := by
            have := Paired.length prr
            rw [tkv_len] at this
            have h2 := congrArg List.length (lenT_keys (dots := dots) (o := o) (n := n) (e := e) (on := if j = 0 then [] else dots) (l := dots))
            rw [List.length_map] at h2
            omega
          refine ⟨p, l2, _, [.ref tt], rfl, rfl, yM _ _ hp', l2M, Nat.le_of_lt (small1000 (by rw [List.length_map]; show ts.length + 1 ≤ 1000; omega)), fun l3 hl3 => ?_⟩
          have yN : Evl.Ex HM (upd HM l3 (.lst (ts.map V.ref ++ [.ref tt]))) := Evl.Ex.new hl3
          have l3N : (upd HM l3 (.lst (ts.map V.ref ++ [.ref tt]))) l3 = some (.lst ((ts ++ [tt]).map V.ref)) := by rw [upd_same, List.map_append]; rfl
          generalize upd HM l3 (.lst (ts.map V.ref ++ [.ref tt])) = HN at yN l3N
          have yLN := yM.trans yN
          refine ⟨l3, ts ++ [tt], tkv (lenT dots o n e (if j = 0 then [] else dots) dots ++ [(e, .int 0)]), rfl, Evl.sq_of l3N, ?_, fun qa hqa => ?_⟩
          · have e1 : tkv (lenT dots o n e (if j = 0 then [] else dots) dots ++ [(e, V.int 0)]) = tkv (lenT dots o n e (if j = 0 then [] else dots) dots) ++ [((Sum.inr e : Key), V.int 0)] := by
              unfold tkv
              rw [List.map_append]
              rfl
            rw [e1]
            exact Paired.snoc (Paired.mapP prr fun t' kv h => Evl.st_of (yLN _ _ h)) (Evl.st_of (yN _ _ ttM))
          · rw [merge_tkv (by
              rw [List.map_append, lenT_keys, List.nodup_append]
              exact ⟨dn, List.nodup_cons.mpr ⟨by simp, List.nodup_nil⟩, fun a ha b hb q => ed (by rw [List.mem_singleton.mp hb] at q; have q' : a = e := q; exact q' ▸ ha)⟩)]
            obtain ⟨qs, w1', w2', w3'⟩ := sd.more (F := fun j => lenT dots o n e (if j = 0 then [] else dots) dots ++ [(e, V.int 0)]) (Evl.Ex.trans yL yLN) hqa hDl
            exact ⟨_, w1', by rw [List.length_map]; exact small1000 (by omega), (yK.trans ((Evl.Ex.trans yL yLN).trans (Evl.Ex.new hqa))).mut hDl, w3'⟩
        · rintro HK ⟨yK, sd⟩
          exact ⟨Dl, rfl, yJ.trans yK, sd.two⟩
      clear td
      clear yJ
      rintro σ HK ⟨pl, rfl, yK, q0, q1, h0, hq0, hq1⟩
      have prK : HK pr = some (.tup [.ref po, .ref pn]) := yK _ _ (yI _ _ (yG _ _ (ex_off d g HF _ _ prF)))
      have poK : HK po = some (.dK (tkv (o e))) := by rw [eo]; exact yK _ _ (yI _ _ (yG _ _ (ex_off d g HF _ _ poF)))
      have pnK : HK pn = some (.dK (tkv (n e))) := by rw [en]; exact yK _ _ (yI _ _ (yG _ _ (ex_off d g HF _ _ pnF)))
      have hmlK := yK _ _ hml
      have DK := DI.ext yK
      have TK_ := TI.ext yK
      have okO : TabOk dots e (o e) := by rw [eo]; exact ok1
      have okN : TabOk dots e (n e) := by rw [en]; exact ok2
      have plO : ∀ z ∈ dots, ∃ y, look (o e) z = .str y ∧ (y = e ∨ y ∈ dots) := fun z hz => by
        rcases p0.st z hz with ⟨h, _⟩ | ⟨y, hy, h, _⟩
        · exact ⟨e, h, .inl rfl⟩
        · exact ⟨y, h, .inr hy⟩
      have plN : ∀ z ∈ dots, ∃ y, look (n e) z = .str y ∧ (y = e ∨ y ∈ dots) := fun z hz => by
        rcases p1'.st z hz with ⟨h, _⟩ | ⟨y, hy, h, _⟩
        · exact ⟨e, h, .inl rfl⟩
        · exact ⟨y, h, .inr hy⟩
      -- twice_back
      refine ⟨fun σ' H' => ∃ tl : Addr, σ' = [some (.ref a), some (.ref d), some (.int (0 + (i : Int))), some (.ref wl), some (.str e), some (.ref db), some (.ref pr), some (.ref m), some (.ref nx), some (.ref ml), some (.ref pl), some (.ref tl), x12, x13, x14, x15, x16] ∧ Evl.Ex HK H' ∧ H' tl = some (.lst ((tw1 dots o n e).map V.str)), ?_, ?_⟩
      · refine ⟨.ref ml, rfl, ml, rfl, ⟨_, Evl.sq_of hmlK⟩, fun Dl hDl => lc_list (K := K) (a := ml) (xs := (moving [e] dots o n).map V.str)
          (fun j H' => Evl.Ex HK H' ∧ H' Dl = some (.lst ((((moving [e] dots o n).take j).filter fun z => decide (numP e (hopR dots o n e []) (.str z) < numP e (hopR dots o n e []) (look (n e) z))).map V.str))) ⟨Evl.Ex.new hDl, upd_same⟩ (fun j H' _ h => Evl.sq_of (h.1 _ _ hmlK)) ?_ ?_⟩
        · rintro j x HL hj ⟨yL, dL⟩
          obtain ⟨z, hz, rfl⟩ := str_at hj
          have zd := moving_sub (List.mem_of_getElem? hz)
          have ez : (moving [e] dots o n).take (j + 1) = (moving [e] dots o n).take j ++ [z] := by rw [List.take_add_one, hz]; rfl
          have fl6 : (((moving [e] dots o n).take j).filter fun z => decide (numP e (hopR dots o n e []) (.str z) < numP e (hopR dots o n e []) (look (n e) z))).length ≤ 6 := Nat.le_trans (List.length_filter_le _ _) (by rw [List.length_take]; omega)
          obtain ⟨y, ey, hy⟩ := plN z zd
          have gn : DGet HL pn (.str z) (some (.str y)) := dgK (k := Sum.inr z) (yL _ _ pnK) (by rw [← ey]; exact (look_ok okN zd).2)
          have gy : DGet HL q0 (.str y) (some (.int (numP e (hopR dots o n e []) (.str y) : Nat))) := dgK (k := Sum.inr y) (yL _ _ hq0) (past_get dn ed hy)
          have gz : DGet HL q0 (.str z) (some (.int (numP e (hopR dots o n e []) (.str z) : Nat))) := dgK (k := Sum.inr z) (yL _ _ hq0) (past_get dn ed (.inr zd))
          refine ⟨rfl, .ref pl, rfl, pl, _, 0, .ref q0, rfl, rfl, Evl.sq_of (yL _ _ h0), atI_nat (j := 0) rfl, .ref pr, rfl, pr, _, 1, .ref pn, rfl, rfl, Evl.st_of (yL _ _ prK), atI_nat (j := 1) rfl, .str z, rfl, pn, .str y, rfl, gn, q0, _, rfl, gy, .ref pl, rfl, pl, _, 0, .ref q0, rfl, rfl, Evl.sq_of (yL _ _ h0), atI_nat (j := 0) rfl, .str z, rfl, q0, _, rfl, gz, _, _, rfl, rfl, _, rfl, ?_⟩
          by_cases lt : numP e (hopR dots o n e []) (.str z) < numP e (hopR dots o n e []) (look (n e) z)
          · rw [decide_eq_true (show ((numP e (hopR dots o n e []) (.str z) : Nat) : Int) < ((numP e (hopR dots o n e []) (.str y) : Nat) : Int) by rw [ey] at lt; omega)]
            refine iteT ⟨.str z, rfl, _, dL, by rw [List.length_map]; exact small1000 (by omega), yL.mut hDl, ?_⟩
            rw [upd_same, ez, List.filter_append, List.filter_cons_of_pos (by rw [decide_eq_true lt]), List.filter_nil, List.map_append]
            rfl
          · rw [decide_eq_false (show ¬ ((numP e (hopR dots o n e []) (.str z) : Nat) : Int) < ((numP e (hopR dots o n e []) (.str y) : Nat) : Int) by rw [ey] at lt; omega)]
            refine iteF ⟨yL, ?_⟩
            rw [dL, ez, List.filter_append, List.filter_cons_of_neg (by rw [decide_eq_false lt]; decide), List.filter_nil, List.append_nil]
        · rintro HL ⟨yL, dL⟩
          rw [List.length_map, List.take_length] at dL
          exact ⟨Dl, rfl, yL, dL⟩
      rintro σ HL ⟨tl1, rfl, yL, htl1⟩
      refine ⟨fun σ' H' => ∃ tl : Addr, σ' = [some (.ref a), some (.ref d), some (.int (0 + (i : Int))), some (.ref wl), some (.str e), some (.ref db), some (.ref pr), some (.ref m), some (.ref nx), some (.ref ml), some (.ref pl), some (.ref tl), x12, x13, x14, x15, x16] ∧ Evl.Ex HK H' ∧ H' tl = some (.lst ((tw2 dots o n e).map V.str)) ∧ HL tl = none, ?_, ?_⟩
      · refine ⟨.ref tl1, rfl, tl1, rfl, ⟨_, Evl.sq_of htl1⟩, fun Dl hDl => lc_list (K := K) (a := tl1) (xs := (tw1 dots o n e).map V.str)
          (fun j H' => Evl.Ex HL H' ∧ H' Dl = some (.lst ((((tw1 dots o n e).take j).filter fun z => decide (numP e (hopR dots o n e dots) (.str z) < numP e (hopR dots o n e dots) (look (o e) z))).map V.str))) ⟨Evl.Ex.new hDl, upd_same⟩ (fun j H' _ h => Evl.sq_of (h.1 _ _ htl1)) ?_ ?_⟩
        · rintro j x HM hj ⟨yM, dM⟩
          obtain ⟨z, hz, rfl⟩ := str_at hj
          have zd : z ∈ dots := moving_sub (List.mem_filter.mp (List.mem_of_getElem? hz)).1
          have t6 : (tw1 dots o n e).length ≤ 6 := Nat.le_trans (List.length_filter_le _ _) mvl
          have ez : (tw1 dots o n e).take (j + 1) = (tw1 dots o n e).take j ++ [z] := by rw [List.take_add_one, hz]; rfl
          have fl6 : (((tw1 dots o n e).take j).filter fun z => decide (numP e (hopR dots o n e dots) (.str z) < numP e (hopR dots o n e dots) (look (o e) z))).length ≤ 6 := Nat.le_trans (List.length_filter_le _ _) (by rw [List.length_take]; omega)
          obtain ⟨y, ey, hy⟩ := plO z zd
          have yKM := yL.trans yM
          have go : DGet HM po (.str z) (some (.str y)) := dgK (k := Sum.inr z) (yKM _ _ poK) (by rw [← ey]; exact (look_ok okO zd).2)
          have gy : DGet HM q1 (.str y) (some (.int (numP e (hopR dots o n e dots) (.str y) : Nat))) := dgK (k := Sum.inr y) (yKM _ _ hq1) (past_get dn ed hy)
          have gz : DGet HM q1 (.str z) (some (.int (numP e (hopR dots o n e dots) (.str z) : Nat))) := dgK (k := Sum.inr z) (yKM _ _ hq1) (past_get dn ed (.inr zd))
          refine ⟨rfl, .ref pl, rfl, pl, _, 1, .ref q1, rfl, rfl, Evl.sq_of (yKM _ _ h0), atI_nat (j := 1) rfl, .ref pr, rfl, pr, _, 0, .ref po, rfl, rfl, Evl.st_of (yKM _ _ prK), atI_nat (j := 0) rfl, .str z, rfl, po, .str y, rfl, go, q1, _, rfl, gy, .ref pl, rfl, pl, _, 1, .ref q1, rfl, rfl, Evl.sq_of (yKM _ _ h0), atI_nat (j := 1) rfl, .str z, rfl, q1, _, rfl, gz, _, _, rfl, rfl, _, rfl, ?_⟩
          by_cases lt : numP e (hopR dots o n e dots) (.str z) < numP e (hopR dots o n e dots) (look (o e) z)
          · rw [decide_eq_true (show ((numP e (hopR dots o n e dots) (.str z) : Nat) : Int) < ((numP e (hopR dots o n e dots) (.str y) : Nat) : Int) by rw [ey] at lt; omega)]
            refine iteT ⟨.str z, rfl, _, dM, by rw [List.length_map]; exact small1000 (by omega), yM.mut hDl, ?_⟩
            rw [upd_same, ez, List.filter_append, List.filter_cons_of_pos (by rw [decide_eq_true lt]), List.filter_nil, List.map_append]
            rfl
          · rw [decide_eq_false (show ¬ ((numP e (hopR dots o n e dots) (.str z) : Nat) : Int) < ((numP e (hopR dots o n e dots) (.str y) : Nat) : Int) by rw [ey] at lt; omega)]
            refine iteF ⟨yM, ?_⟩
            rw [dM, ez, List.filter_append, List.filter_cons_of_neg (by rw [decide_eq_false lt]; decide), List.filter_nil, List.append_nil]
        · rintro HM ⟨yM, dM⟩
          rw [List.length_map, List.take_length] at dM
          exact ⟨Dl, rfl, yL.trans yM, dM, hDl⟩
      rintro σ HM ⟨tl, rfl, yM, htl, htl0⟩
      have ntl := (DK.ext yL).ned htl0
      have nml := (DF.ext yG).ned hml0
      have DM := DK.ext yM
      have TM := TK_.ext yM
      have tw6 : (tw2 dots o n e).length ≤ 6 := Nat.le_trans (List.length_filter_le _ _) (Nat.le_trans (List.length_filter_le _ _) mvl)
      have back := fun v => tw_back (v := v) dn ed p0 p1'
      -- the facts of plans
      have twE : (tw2 dots o n e).isEmpty = true ↔ ∀ v, ¬ Back dots e o n r0 r1 v := by
        rw [List.isEmpty_iff, List.eq_nil_iff_forall_not_mem]
        exact ⟨fun h v b => h v ((back v).mpr b), fun h v m => h v ((back v).mp m)⟩
      -- found
      have nmM : ∀ {z}, z ∈ tw2 dots o n e → Nm z := fun {z} hz => dm z (moving_sub (List.mem_filter.mp (List.mem_filter.mp hz).1).1)
      refine ⟨.ref nx, rfl, by show 1 ≤ sizeLine; decide, fun w1l hw1l => ?_⟩
      have yN : Evl.Ex HM (upd HM w1l (.lst [.str "rings"])) := Evl.Ex.new hw1l
      have wN : (upd HM w1l (.lst [.str "rings"])) w1l = some (.lst ((["rings"] : List Str).map V.str)) := upd_same
      generalize upd HM w1l (.lst [.str "rings"]) = HN at yN wN
      have NN := NI.to ((yK.trans yM).trans yN)
      have ringsOk : ∀ x ∈ (["rings"] : List Str), x ∈ wishesL := by decide
      refine ⟨nx, w1l, ["rings"], [e], dots, _, [], o, n, rfl, NN, ok, tok, .inl (Evl.sq_of wN), by decide, ringsOk, TM.ext yN, fun pf HO_ yO TO FR _ => ?_⟩
      have hmlO : fr d g HO_ ml = some (.lst ((moving [e] dots o n).map V.str)) := (fr_nt yO) _ _ (fr_of (off_of ((yM.trans yN) _ _ hmlK) nml.1 nml.2.1) fun _ z => by cases z)
      have htlO : fr d g HO_ tl = some (.lst ((tw2 dots o n e).map V.str)) := (fr_nt yO) _ _ (fr_of (off_of (yN _ _ htl) ntl.1 ntl.2.1) fun _ z => by cases z)
      have MO : ModelS (fr d g HO_) m db tb sb pb [e] dots (dots.take tk) [] [(e, .ref pr)] o n := MF.fr.to (((fr_ex yG).trans ((fr_ex yI).trans ((fr_ex yK).trans ((fr_ex yM).trans (fr_ex yN))))).trans (fr_nt yO))
      have NO_ : NetAt C (fr d g HO_) nx [e] dots (dots.take tk) [] o n := (net_off NN.nt ((DM.ext yN).nt) (by show 1 ≤ 2; decide)).to (fr_nt yO)
      have DO_ := (DM.ext yN).ntTo yO
      obtain ⟨l0, hpl0⟩ := plan_is ok p0 p1' mnd (moving [e] dots o n).length [] (List.nil_sublist _) (by rw [List.length_nil]; omega) fun y hy => nomatch hy
      have exP : ∃ j, Few (brkOf [e] dots (dots.take tk) [] o n ["rings"]) (moving [e] dots o n) j (moving [e] dots o n) := by
        obtain ⟨j, _, f⟩ := few_of (plan_rch hpl0 Rch.zero)
        exact ⟨j, f⟩
      rcases FR with ⟨_, _, _, _, _, _, _, _, no⟩ | ⟨l, Dd, L, N, N0, kk, h1, h2, h3, few, ne, pos, eL, _, _, _, _⟩
      · exact (no.elim (fun z => plan_has hpl0 z) fun z => z _ exP.choose_spec).elim
      obtain ⟨plK, lenK⟩ := plan_of pos
      rw [← eL] at plK lenK
      rw [List.length_map] at lenK
      have f1 : decide ((2 : Int) < (L.length : Nat)) = !(tw2 dots o n e).isEmpty := by
        by_cases c : ∀ v, ¬ Back dots e o n r0 r1 v
        · rw [twE.mpr c]
          obtain ⟨l2, a1, a2⟩ := no_back_two ok p0 p1' mnd c
          have := few_le_plan few a1
          exact decide_eq_false (by omega)
        · have ce : (tw2 dots o n e).isEmpty = false := by
            cases q : (tw2 dots o n e).isEmpty with
            | false => rfl
            | true => exact absurd (twE.mp q) c
          rw [ce]
          refine decide_eq_true ?_
          obtain ⟨v, hv⟩ : ∃ v, Back dots e o n r0 r1 v := Classical.byContradiction fun q => c fun v b => q ⟨v, b⟩
          have q := back_three ok p0 p1' mnd hv plK
          rw [List.length_map] at q
          omega
      have f2 : (L.map (·.2)).isEmpty = (moving [e] dots o n).isEmpty := by
        rw [Bool.eq_iff_iff, List.isEmpty_iff, List.isEmpty_iff]
        constructor
        · intro q
          have q0 := congrArg List.length q
          rw [List.length_map, List.length_nil] at q0
          have e0 : kk = 0 := by omega
          rw [e0] at few
          exact few_zero.mp few
        · intro q
          have z : Few (brkOf [e] dots (dots.take tk) [] o n ["rings"]) (moving [e] dots o n) 0 (moving [e] dots o n) := few_zero.mpr q
          have e0 := few_uniq few z
          exact List.length_eq_zero_iff.mp (by rw [List.length_map]; omega)
      have Lsh : SeqAt.shaped (rowsD (L.map (·.2))) = true := rowsD_shaped fun r hr' => by
        have sub : ∀ {d' : List Str} {l' : List (List Str)}, PlanFrom (brkOf [e] dots (dots.take tk) [] o n ["rings"]) (moving [e] dots o n) d' l' → d'.Sublist (moving [e] dots o n) → ∀ r ∈ l', r.Sublist (moving [e] dots o n) := fun {d' l'} h => by
          induction h with
          | done _ => exact fun _ r hr => nomatch hr
          | step h1 h2 h3 ih =>
            intro hd r hr
            rcases List.mem_cons.mp hr with rfl | hr
            · exact (rest_lot (safeS_mem.mp h1).1).1
            · exact ih (mixS_sub _ _ _) r hr
        have rs := sub plK (List.nil_sublist _) r hr'
        exact ⟨Nat.le_trans rs.length_le mvl, fun z hz => dm z (moving_sub (rs.subset hz))⟩
      -- if found[0] != "plan" or ..
      refine ⟨fun σ' H' => σ' = [some (.ref a), some (.ref d), some (.int (0 + (i : Int))), some (.ref wl), some (.str e), some (.ref db), some (.ref pr), some (.ref m), some (.ref nx), some (.ref ml), some (.ref pl), some (.ref tl), some (.ref pf), x13, x14, x15, x16] ∧ Evl.Ex HO_ H', ?_, ?_⟩
      · refine ⟨.ref pf, rfl, pf, _, 0, .str "plan", rfl, rfl, Evl.st_of h1, atI_nat (j := 0) rfl, rfl, false, by rfl, ?_⟩
        refine ⟨.ref pf, rfl, pf, _, 1, .ref l, rfl, rfl, Evl.st_of h1, atI_nat (j := 1) rfl, .ref l, L.length, rfl, .inl ⟨_, Evl.sq_of h2, by rw [List.length_map]⟩, _, _, rfl, rfl, .ref tl, rfl, by show 0 ≤ sizeLine; decide, fun e0 he0 => ?_⟩
        have yP : Evl.Ex HO_ (upd HO_ e0 (.lst [])) := Evl.Ex.new he0
        obtain ⟨dd, g1', g2', g3'⟩ := data_list (K := K) (Evl.sq_of (yP _ _ (ex_fr d g HO_ _ _ htlO))) fun v hv => by
          obtain ⟨z, hz, rfl⟩ := List.mem_map.mp hv
          exact nm_data (nmM hz)
        refine ⟨dd, .list [], g1', .lst (Evl.sq_of upd_same) .nil, g2', by rfl, ?_⟩
        rw [g3', show ((tw2 dots o n e).map V.str).isEmpty = (tw2 dots o n e).isEmpty by cases (tw2 dots o n e) <;> rfl]
        generalize upd HO_ e0 (.lst []) = HP at yP
        refine ⟨rfl, false, by show V.bl (!decide (V.bl (decide ((2 : Int) < (L.length : Nat))) = V.bl (!(tw2 dots o n e).isEmpty))) = V.bl false; rw [f1]; simp, ?_⟩
        refine ⟨.ref pf, rfl, pf, _, 1, .ref l, rfl, rfl, Evl.st_of (yP _ _ h1), atI_nat (j := 1) rfl, by show 0 ≤ sizeLine; decide, fun e1 he1 => ?_⟩
        have yQ1 : Evl.Ex HP (upd HP e1 (.lst [])) := Evl.Ex.new he1
        have yQ := yP.trans yQ1
        refine ⟨rowsD (L.map (·.2)), .list [], dp_rows (yQ _ _ h2) (h3.to yQ), .lst (Evl.sq_of upd_same) .nil, Lsh, by rfl, ?_⟩
        rw [rowsD_empty]
        generalize upd HP e1 (.lst []) = HQ at yQ1 yQ
        refine ⟨.ref ml, rfl, by show 0 ≤ sizeLine; decide, fun e2 he2 => ?_⟩
        have yR1 : Evl.Ex HQ (upd HQ e2 (.lst [])) := Evl.Ex.new he2
        have yR := yQ.trans yR1
        obtain ⟨d2, g4', g5', g6'⟩ := data_list (K := K) (Evl.sq_of (yR _ _ (ex_fr d g HO_ _ _ hmlO))) fun v hv => by
          obtain ⟨z, hz, rfl⟩ := List.mem_map.mp hv
          exact nm_data (dm z (moving_sub hz))
        refine ⟨d2, .list [], g4', .lst (Evl.sq_of upd_same) .nil, g5', by rfl, ?_⟩
        rw [g6', show ((moving [e] dots o n).map V.str).isEmpty = (moving [e] dots o n).isEmpty by cases (moving [e] dots o n) <;> rfl]
        refine ⟨rfl, false, by rw [f2]; simp, iteF ⟨rfl, yR⟩⟩
      rintro σ HP ⟨rfl, yP⟩
      -- is_plain
      have MP := MO.to ((ex_fr d g HO_).trans yP)
      have hmlP := yP _ _ (ex_fr d g HO_ _ _ hmlO)
      refine ⟨fun σ' H' => σ' = [some (.ref a), some (.ref d), some (.int (0 + (i : Int))), some (.ref wl), some (.str e), some (.ref db), some (.ref pr), some (.ref m), some (.ref nx), some (.ref ml), some (.ref pl), some (.ref tl), some (.ref pf), some (.bl (decide ((L.length : Nat) < (2 : Int)))), x14, x15, x16] ∧ Evl.Ex HP H', ?_, ?_⟩
      · refine ⟨.ref m, rfl, by show 0 ≤ sizeLine; decide, fun t0 ht0 => ⟨.ref ml, rfl, ml, _, rfl, .inl ⟨Evl.sq_of ((Evl.Ex.new ht0) _ _ hmlP), fun t1 ht1 => ?_⟩⟩⟩
        have yQ1 : Evl.Ex HP (upd HP t0 (.tup [])) := Evl.Ex.new ht0
        have yQ2 : Evl.Ex (upd HP t0 (.tup [])) (upd (upd HP t0 (.tup [])) t1 (.tup ((moving [e] dots o n).map V.str))) := Evl.Ex.new ht1
        have t0Q := yQ2 _ _ (show (upd HP t0 (.tup [])) t0 = some (.tup (([] : List Str).map V.str)) from upd_same)
        have t1Q : (upd (upd HP t0 (.tup [])) t1 (.tup ((moving [e] dots o n).map V.str))) t1 = some (.tup ((moving [e] dots o n).map V.str)) := upd_same
        have yQ := yQ1.trans yQ2
        generalize upd (upd HP t0 (.tup [])) t1 (.tup ((moving [e] dots o n).map V.str)) = HQ at yQ t0Q t1Q
        obtain ⟨oS, hoS⟩ : ∃ oS : Str → Str, ∀ z ∈ dots, look (o e) z = .str (oS z) := ⟨fun z => match look (o e) z with | .str y => y | _ => z, fun z hz => by
          obtain ⟨y, ey, _⟩ := plO z hz
          show look (o e) z = .str (match look (o e) z with | .str y => y | _ => z)
          rw [ey]⟩
        obtain ⟨nS, hnS⟩ : ∃ nS : Str → Str, ∀ z ∈ dots, look (n e) z = .str (nS z) := ⟨fun z => match look (n e) z with | .str y => y | _ => z, fun z hz => by
          obtain ⟨y, ey, _⟩ := plN z hz
          show look (n e) z = .str (match look (n e) z with | .str y => y | _ => z)
          rw [ey]⟩
        have wf : ∀ {z y : Str}, y ∈ webF oS nS [] (moving [e] dots o n) z → y = oS z ∨ y = nS z := fun {z y} h => by
          unfold webF at h
          split at h
          · rcases List.mem_cons.mp h with h | h
            · exact .inl h
            · exact .inr (List.mem_singleton.mp h)
          · split at h
            · exact .inr (List.mem_singleton.mp h)
            · exact .inl (List.mem_singleton.mp h)
        have wo : ∀ {z : Str}, oS z ∈ webF oS nS [] (moving [e] dots o n) z := fun {z} => by
          unfold webF
          split
          · exact List.mem_cons_self
          · rw [if_neg (fun q => nomatch q)]
            exact List.mem_cons_self
        have wn : ∀ {z : Str}, z ∈ dots → nS z ∈ webF oS nS [] (moving [e] dots o n) z := fun {z} hz => by
          by_cases c : z ∈ moving [e] dots o n
          · have nq : nS z ≠ oS z := fun q => moves_at c (by rw [hoS z hz, hnS z hz, q])
            unfold webF
            rw [if_pos ⟨c, nq⟩]
            exact List.mem_cons_of_mem _ List.mem_cons_self
          · have st := still hz c
            rw [hoS z hz, hnS z hz] at st
            rw [← V.str.inj st]
            exact wo
        have sp : ∀ {y : Str}, y = e ∨ y ∈ dots → Nm y := fun {y} h => h.elim (fun q => by rw [q]; exact em) (dm y)
        refine ⟨.str e, rfl, m, t0, t1, db, tb, sb, pb, e, [], moving [e] dots o n, [e], dots, _, [], _, o, n, oS, nS, rfl, (MP.to yQ).r, Evl.st_of t0Q, Evl.st_of t1Q, List.mem_cons_self, (fun z hz => ⟨hoS z hz, hnS z hz⟩), fun Dw HW yW hDw WA => ?_⟩
        refine ⟨Dw, dots, webF oS nS [] (moving [e] dots o n), rfl, WA, dn, d6, (fun z hz => ?_), (fun z hz y hy => ?_), fun v HX yX RI => ⟨rfl, ?_⟩⟩
        · unfold webF
          split
          · exact Nat.le_refl _
          · split <;> exact Nat.le_succ _
        · rcases wf hy with rfl | rfl
          · obtain ⟨y', ey, hy'⟩ := plO z hz
            rw [hoS z hz] at ey
            rw [V.str.inj ey]
            exact sp hy'
          · obtain ⟨y', ey, hy'⟩ := plN z hz
            rw [hnS z hz] at ey
            rw [V.str.inj ey]
            exact sp hy'
        · have fin : (!decide (v = .non)) = decide ((L.length : Nat) < (2 : Int)) := by
            rcases RI with ⟨rfl, S, ⟨z, hz, sz⟩, hS⟩ | ⟨⟨aa, rfl⟩, r, hr'⟩
            · rw [decide_eq_true rfl]
              refine (decide_eq_false fun lt => ?_).symm
              refine one_fall ok plK (by rw [List.length_map]; omega) (S := S) (fun z hz sz => ?_) hz sz
              obtain ⟨y, hy, yd, sy⟩ := hS z hz sz
              refine ⟨y, yd, sy, ?_⟩
              rcases wf hy with rfl | rfl
              · exact .inl (hoS z hz)
              · exact .inr (hnS z hz)
            · rw [decide_eq_false (show ¬ V.ref aa = .non from fun q => nomatch q)]
              obtain ⟨l2, a1, a2⟩ := fall_one (ss := dots.take tk) (ps := []) ok mnd (r := r) fun z hz v hv => by
                have pl' : ∀ {y}, y ∈ webF oS nS [] (moving [e] dots o n) z → y = e ∨ y ∈ dots → V.str y = .str e ∨ ∃ y' ∈ dots, V.str y = .str y' ∧ r y' < r z := fun {y} h1 h2 => h2.elim (fun q => .inl (by rw [q])) fun q => .inr ⟨y, q, rfl, hr' z hz y h1 q⟩
                rcases hv with rfl | rfl
                · obtain ⟨y', ey, hy'⟩ := plO z hz
                  rw [ey]
                  rw [hoS z hz] at ey
                  rw [← V.str.inj ey] at hy' ⊢
                  exact pl' wo hy'
                · obtain ⟨y', ey, hy'⟩ := plN z hz
                  rw [ey]
                  rw [hnS z hz] at ey
                  rw [← V.str.inj ey] at hy' ⊢
                  exact pl' (wn hz) hy'
              have := few_le_plan few a1
              exact (decide_eq_true (by omega)).symm
          exact ⟨by rw [fin]; rfl, yQ.trans (yW.trans yX)⟩
      rintro σ HQ ⟨rfl, yQ⟩
      have yOQ := yP.trans yQ
      -- the last look
      refine ⟨.ref pf, rfl, pf, _, 1, .ref l, rfl, rfl, Evl.st_of (yOQ _ _ h1), atI_nat (j := 1) rfl, .ref l, L.length, rfl, .inl ⟨_, Evl.sq_of (yOQ _ _ h2), by rw [List.length_map]⟩, _, _, rfl, rfl, .bl _, rfl, rfl, false, by simp, ?_⟩
      refine ⟨.ref nx, rfl, by show 1 ≤ sizeLine; decide, fun w2 hw2 => ?_⟩
      have yR : Evl.Ex HQ (upd HQ w2 (.lst [.str "rings"])) := Evl.Ex.new hw2
      have wR : (upd HQ w2 (.lst [.str "rings"])) w2 = some (.lst ((["rings"] : List Str).map V.str)) := upd_same
      generalize upd HQ w2 (.lst [.str "rings"]) = HR at yR wR
      have yOR := yOQ.trans yR
      refine ⟨nx, w2, 2, ["rings"], [e], dots, _, [], o, n, rfl, by omega, (NO_.to (ex_fr d g HO_)).to yOR, ok, tok, .inl (Evl.sq_of wR), by decide, ringsOk, TO.ext yOR, fun HS yS TS => ⟨_, _, rfl, rfl, _, rfl, ?_⟩⟩
      have htlS : HS tl = some (.lst ((tw2 dots o n e).map V.str)) := ex_fr d g HS _ _ ((fr_nt yS) _ _ ((fr_ex yOR) _ _ htlO))
      have DS := (DO_.ext yOR).ntTo yS
      by_cases c : (0 : Int) < (cnt (brkOf [e] dots (dots.take tk) [] o n ["rings"]) (moving [e] dots o n) 2 [] : Nat)
      · have q : decide ((0 : Int) < (cnt (fun on => decide (on ∈ avoidL [e] dots (dots.take tk) [] o n ["rings"])) (moving [e] dots o n) 2 [] : Nat)) = true := decide_eq_true c
        rw [q]
        obtain ⟨b1, b2⟩ := plan_of (n := 0) (Int.ofNat_lt.mp c)
        have emp : (tw2 dots o n e).isEmpty = true := twE.mpr fun v b => by
          have := back_three ok p0 p1' mnd b b1
          omega
        refine iteT ⟨.ref tl, rfl, by show 0 ≤ sizeLine; decide, fun e0 he0 => ?_⟩
        have yT : Evl.Ex HS (upd HS e0 (.lst [])) := Evl.Ex.new he0
        obtain ⟨dd, g1', g2', g3'⟩ := data_list (K := K) (Evl.sq_of (yT _ _ htlS)) fun v hv => by
          obtain ⟨z, hz, rfl⟩ := List.mem_map.mp hv
          exact nm_data (nmM hz)
        refine ⟨dd, .list [], g1', .lst (Evl.sq_of upd_same) .nil, g2', by rfl, ?_⟩
        rw [g3', show ((tw2 dots o n e).map V.str).isEmpty = (tw2 dots o n e).isEmpty by cases (tw2 dots o n e) <;> rfl, emp]
        exact ⟨_, rfl, iteF ⟨_, _, _, _, _, _, _, _, _, _, _, _, _, _, _, rfl, DS.ext yT, TS.ext yT⟩⟩
      · have q : decide ((0 : Int) < (cnt (fun on => decide (on ∈ avoidL [e] dots (dots.take tk) [] o n ["rings"])) (moving [e] dots o n) 2 [] : Nat)) = false := decide_eq_false c
        rw [q]
        exact iteF ⟨_, _, _, _, _, _, _, _, _, _, _, _, _, _, _, rfl, DS, TS⟩
    · rintro σ H2 ⟨x2, x3, x4, x5, x6, x7, x8, x9, x10, x11, x12, x13, x14, x15, x16, rfl, D2, T2⟩
      exact k H2
end
end Rw
end T_LW

section T_Z0
set_option Elab.async false
set_option linter.all false
set_option maxRecDepth 100000
set_option maxHeartbeats 8000000
namespace Rw
open PySem L2 PyProof.Rows
theorem all_mk {P : Program} {w : World} {K : PySem.W.Frag} {h : Heap} {mg : Str → Option Value} {fa : Addr} (X : K.In h) (G : h.Ns mainGlobals mg) (hfa : mg "law" = some (.ref fa))
    {cc Pt Wa : Addr} {odW : Option Addr} {slW : Array (Option Value)} {nW : Nat} {tw1 tw2 tw3 tw4 : Tok}
    {C fI TI q1 q2 : Addr} {odI anI odT : Option Addr} {slI slT : Array (Option Value)} {ocI kVI dcI pmI cdI ctI ocT : Value} {nT : Nat}
    {f_s_begin : Addr} {od_s_begin an_s_begin : Option Addr} {sl_s_begin : Array (Option Value)} {oc_s_begin kV_s_begin dc_s_begin pm_s_begin cd_s_begin ct_s_begin : Value}
    {f_s_blend : Addr} {od_s_blend an_s_blend : Option Addr} {sl_s_blend : Array (Option Value)} {oc_s_blend kV_s_blend dc_s_blend pm_s_blend cd_s_blend ct_s_blend : Value}
    {f_s_take : Addr} {od_s_take an_s_take : Option Addr} {sl_s_take : Array (Option Value)} {oc_s_take kV_s_take dc_s_take pm_s_take cd_s_take ct_s_take : Value}
    {f_s_pick : Addr} {od_s_pick an_s_pick : Option Addr} {sl_s_pick : Array (Option Value)} {oc_s_pick kV_s_pick dc_s_pick pm_s_pick cd_s_pick ct_s_pick : Value}
    {f_s_mixed : Addr} {od_s_mixed an_s_mixed : Option Addr} {sl_s_mixed : Array (Option Value)} {oc_s_mixed kV_s_mixed dc_s_mixed pm_s_mixed cd_s_mixed ct_s_mixed : Value}
    {f_s_names : Addr} {od_s_names an_s_names : Option Addr} {sl_s_names : Array (Option Value)} {oc_s_names kV_s_names dc_s_names pm_s_names cd_s_names ct_s_names : Value}
    {f_s_made : Addr} {od_s_made an_s_made : Option Addr} {sl_s_made : Array (Option Value)} {oc_s_made kV_s_made dc_s_made pm_s_made cd_s_made ct_s_made : Value}
    {f_t_table : Addr} {od_t_table an_t_table : Option Addr} {sl_t_table : Array (Option Value)} {oc_t_table kV_t_table dc_t_table pm_t_table cd_t_table ct_t_table : Value}
    {f_t_moved : Addr} {od_t_moved an_t_moved : Option Addr} {sl_t_moved : Array (Option Value)} {oc_t_moved kV_t_moved dc_t_moved pm_t_moved cd_t_moved ct_t_moved : Value}
    {f_t_row : Addr} {od_t_row an_t_row : Option Addr} {sl_t_row : Array (Option Value)} {oc_t_row kV_t_row dc_t_row pm_t_row cd_t_row ct_t_row : Value}
    {f_t_web : Addr} {od_t_web an_t_web : Option Addr} {sl_t_web : Array (Option Value)} {oc_t_web kV_t_web dc_t_web pm_t_web cd_t_web ct_t_web : Value}
    {f_t_ranks : Addr} {od_t_ranks an_t_ranks : Option Addr} {sl_t_ranks : Array (Option Value)} {oc_t_ranks kV_t_ranks dc_t_ranks pm_t_ranks cd_t_ranks ct_t_ranks : Value}
    {f_p_is_list : Addr} {od_p_is_list an_p_is_list : Option Addr} {sl_p_is_list : Array (Option Value)} {oc_p_is_list kV_p_is_list dc_p_is_list pm_p_is_list cd_p_is_list ct_p_is_list : Value}
    {f_p_is_name : Addr} {od_p_is_name an_p_is_name : Option Addr} {sl_p_is_name : Array (Option Value)} {oc_p_is_name kV_p_is_name dc_p_is_name pm_p_is_name cd_p_is_name ct_p_is_name : Value}
    {f_p_is_place : Addr} {od_p_is_place an_p_is_place : Option Addr} {sl_p_is_place : Array (Option Value)} {oc_p_is_place kV_p_is_place dc_p_is_place pm_p_is_place cd_p_is_place ct_p_is_place : Value}
    {f_p_is_table : Addr} {od_p_is_table an_p_is_table : Option Addr} {sl_p_is_table : Array (Option Value)} {oc_p_is_table kV_p_is_table dc_p_is_table pm_p_is_table cd_p_is_table ct_p_is_table : Value}
    {f_p_are_different : Addr} {od_p_are_different an_p_are_different : Option Addr} {sl_p_are_different : Array (Option Value)} {oc_p_are_different kV_p_are_different dc_p_are_different pm_p_are_different cd_p_are_different ct_p_are_different : Value}
    {f_p_are_nodes : Addr} {od_p_are_nodes an_p_are_nodes : Option Addr} {sl_p_are_nodes : Array (Option Value)} {oc_p_are_nodes kV_p_are_nodes dc_p_are_nodes pm_p_are_nodes cd_p_are_nodes ct_p_are_nodes : Value}
    {f_p_is_pair_of_dicts : Addr} {od_p_is_pair_of_dicts an_p_is_pair_of_dicts : Option Addr} {sl_p_is_pair_of_dicts : Array (Option Value)} {oc_p_is_pair_of_dicts kV_p_is_pair_of_dicts dc_p_is_pair_of_dicts pm_p_is_pair_of_dicts cd_p_is_pair_of_dicts ct_p_is_pair_of_dicts : Value}
    {f_p_are_tables : Addr} {od_p_are_tables an_p_are_tables : Option Addr} {sl_p_are_tables : Array (Option Value)} {oc_p_are_tables kV_p_are_tables dc_p_are_tables pm_p_are_tables cd_p_are_tables ct_p_are_tables : Value}
    {f_p_check_net : Addr} {od_p_check_net an_p_check_net : Option Addr} {sl_p_check_net : Array (Option Value)} {oc_p_check_net kV_p_check_net dc_p_check_net pm_p_check_net cd_p_check_net ct_p_check_net : Value}
    {f_g_goals : Addr} {od_g_goals an_g_goals : Option Addr} {sl_g_goals : Array (Option Value)} {oc_g_goals kV_g_goals dc_g_goals pm_g_goals cd_g_goals ct_g_goals : Value}
    {p_g_goals : Addr} {r_g_goals : List Value}
    {f_g_nodes : Addr} {od_g_nodes an_g_nodes : Option Addr} {sl_g_nodes : Array (Option Value)} {oc_g_nodes kV_g_nodes dc_g_nodes pm_g_nodes cd_g_nodes ct_g_nodes : Value}
    {p_g_nodes : Addr} {r_g_nodes : List Value}
    {f_g_changing : Addr} {od_g_changing an_g_changing : Option Addr} {sl_g_changing : Array (Option Value)} {oc_g_changing kV_g_changing dc_g_changing pm_g_changing cd_g_changing ct_g_changing : Value}
    {p_g_changing : Addr} {r_g_changing : List Value}
    {f_p_is_number : Addr} {od_p_is_number an_p_is_number : Option Addr} {sl_p_is_number : Array (Option Value)} {oc_p_is_number kV_p_is_number dc_p_is_number pm_p_is_number cd_p_is_number ct_p_is_number : Value}
    {f_p_followed : Addr} {od_p_followed an_p_followed : Option Addr} {sl_p_followed : Array (Option Value)} {oc_p_followed kV_p_followed dc_p_followed pm_p_followed cd_p_followed ct_p_followed : Value}
    {f_p_ways_at : Addr} {od_p_ways_at an_p_ways_at : Option Addr} {sl_p_ways_at : Array (Option Value)} {oc_p_ways_at kV_p_ways_at dc_p_ways_at pm_p_ways_at cd_p_ways_at ct_p_ways_at : Value}
    {f_p_joined : Addr} {od_p_joined an_p_joined : Option Addr} {sl_p_joined : Array (Option Value)} {oc_p_joined kV_p_joined dc_p_joined pm_p_joined cd_p_joined ct_p_joined : Value}
    {f_p_parts_of : Addr} {od_p_parts_of an_p_parts_of : Option Addr} {sl_p_parts_of : Array (Option Value)} {oc_p_parts_of kV_p_parts_of dc_p_parts_of pm_p_parts_of ct_p_parts_of : Value}
    {f_p_starts : Addr} {od_p_starts an_p_starts : Option Addr} {sl_p_starts : Array (Option Value)} {oc_p_starts kV_p_starts dc_p_starts pm_p_starts cd_p_starts ct_p_starts : Value}
    {f_p_breaks : Addr} {od_p_breaks an_p_breaks : Option Addr} {sl_p_breaks : Array (Option Value)} {oc_p_breaks kV_p_breaks dc_p_breaks pm_p_breaks cd_p_breaks ct_p_breaks : Value}
    {f_p_posts_passed : Addr} {od_p_posts_passed an_p_posts_passed : Option Addr} {sl_p_posts_passed : Array (Option Value)} {oc_p_posts_passed kV_p_posts_passed dc_p_posts_passed pm_p_posts_passed cd_p_posts_passed ct_p_posts_passed : Value}
    {f_p_passed_with : Addr} {od_p_passed_with an_p_passed_with : Option Addr} {sl_p_passed_with : Array (Option Value)} {oc_p_passed_with kV_p_passed_with dc_p_passed_with pm_p_passed_with cd_p_passed_with ct_p_passed_with : Value}
    {f_p_fault_at : Addr} {od_p_fault_at an_p_fault_at : Option Addr} {sl_p_fault_at : Array (Option Value)} {oc_p_fault_at kV_p_fault_at dc_p_fault_at pm_p_fault_at cd_p_fault_at ct_p_fault_at : Value}
    {f_p_check_wishes : Addr} {od_p_check_wishes an_p_check_wishes : Option Addr} {sl_p_check_wishes : Array (Option Value)} {oc_p_check_wishes kV_p_check_wishes dc_p_check_wishes pm_p_check_wishes cd_p_check_wishes ct_p_check_wishes : Value}
    {f_p_broken_moments : Addr} {od_p_broken_moments an_p_broken_moments : Option Addr} {sl_p_broken_moments : Array (Option Value)} {oc_p_broken_moments kV_p_broken_moments dc_p_broken_moments pm_p_broken_moments cd_p_broken_moments ct_p_broken_moments : Value}
    {f_p_moments_to_avoid : Addr} {od_p_moments_to_avoid an_p_moments_to_avoid : Option Addr} {sl_p_moments_to_avoid : Array (Option Value)} {oc_p_moments_to_avoid kV_p_moments_to_avoid dc_p_moments_to_avoid pm_p_moments_to_avoid cd_p_moments_to_avoid ct_p_moments_to_avoid : Value}
    {f_p_safe_rounds : Addr} {od_p_safe_rounds an_p_safe_rounds : Option Addr} {sl_p_safe_rounds : Array (Option Value)} {oc_p_safe_rounds kV_p_safe_rounds dc_p_safe_rounds pm_p_safe_rounds cd_p_safe_rounds ct_p_safe_rounds : Value}
    {f_p_round_numbers : Addr} {od_p_round_numbers an_p_round_numbers : Option Addr} {sl_p_round_numbers : Array (Option Value)} {oc_p_round_numbers kV_p_round_numbers dc_p_round_numbers pm_p_round_numbers cd_p_round_numbers ct_p_round_numbers : Value}
    {f_p_rounds_needed : Addr} {od_p_rounds_needed an_p_rounds_needed : Option Addr} {sl_p_rounds_needed : Array (Option Value)} {oc_p_rounds_needed kV_p_rounds_needed dc_p_rounds_needed pm_p_rounds_needed cd_p_rounds_needed ct_p_rounds_needed : Value}
    {f_p_plan_counts : Addr} {od_p_plan_counts an_p_plan_counts : Option Addr} {sl_p_plan_counts : Array (Option Value)} {oc_p_plan_counts kV_p_plan_counts dc_p_plan_counts pm_p_plan_counts cd_p_plan_counts ct_p_plan_counts : Value}
    {f_p_plan_with_place : Addr} {od_p_plan_with_place an_p_plan_with_place : Option Addr} {sl_p_plan_with_place : Array (Option Value)} {oc_p_plan_with_place kV_p_plan_with_place dc_p_plan_with_place pm_p_plan_with_place cd_p_plan_with_place ct_p_plan_with_place : Value}
    {f_p_fewest : Addr} {od_p_fewest an_p_fewest : Option Addr} {sl_p_fewest : Array (Option Value)} {oc_p_fewest kV_p_fewest dc_p_fewest pm_p_fewest cd_p_fewest ct_p_fewest : Value}
    {f_p_check_many : Addr} {od_p_check_many an_p_check_many : Option Addr} {sl_p_check_many : Array (Option Value)} {oc_p_check_many kV_p_check_many dc_p_check_many pm_p_check_many cd_p_check_many ct_p_check_many : Value}
    {f_p_how_many : Addr} {od_p_how_many an_p_how_many : Option Addr} {sl_p_how_many : Array (Option Value)} {oc_p_how_many kV_p_how_many dc_p_how_many pm_p_how_many cd_p_how_many ct_p_how_many : Value}
    {f_g_tables : Addr} {od_g_tables an_g_tables : Option Addr} {sl_g_tables : Array (Option Value)} {oc_g_tables kV_g_tables dc_g_tables pm_g_tables cd_g_tables ct_g_tables : Value}
    {p_g_tables : Addr} {r_g_tables : List Value}
    {f_g_sources : Addr} {od_g_sources an_g_sources : Option Addr} {sl_g_sources : Array (Option Value)} {oc_g_sources kV_g_sources dc_g_sources pm_g_sources cd_g_sources ct_g_sources : Value}
    {p_g_sources : Addr} {r_g_sources : List Value}
    {f_g_posts : Addr} {od_g_posts an_g_posts : Option Addr} {sl_g_posts : Array (Option Value)} {oc_g_posts kV_g_posts dc_g_posts pm_g_posts cd_g_posts ct_g_posts : Value}
    {p_g_posts : Addr} {r_g_posts : List Value}
    {f_law : Addr} {od_law an_law : Option Addr} {sl_law : Array (Option Value)} {oc_law kV_law dc_law pm_law cd_law ct_law : Value}
    {t_MOST_POSTS : Tok}
    {t_MOST_NODES : Tok}
    {t_MOST_GOALS : Tok}
    {t_MOST_LETTERS : Tok}
    {t_MOST_ROUNDS : Tok}
    (aC : PySem.W.nsIn K mainGlobals "Net" = some (some (.ref C)))
    (a_s_begin : PySem.W.nsIn K mainGlobals "_law_begin" = some (some (.ref f_s_begin)))
    (l_s_begin : K.lookup f_s_begin = some ⟨oc_s_begin, od_s_begin, .func (PySem.W.fnOf "_law_begin" "_law_begin" (defArgs s_begin) (defBody s_begin) (defScope s_begin) .none kV_s_begin dc_s_begin pm_s_begin an_s_begin cd_s_begin ct_s_begin), sl_s_begin⟩)
    (c_s_begin : PySem.W.codeIn K cd_s_begin "_law_begin" = true)
    (k_s_begin : PySem.W.keepIn K (.ref f_s_begin) = true)
    (a_s_blend : PySem.W.nsIn K mainGlobals "_law_blend" = some (some (.ref f_s_blend)))
    (l_s_blend : K.lookup f_s_blend = some ⟨oc_s_blend, od_s_blend, .func (PySem.W.fnOf "_law_blend" "_law_blend" (defArgs s_blend) (defBody s_blend) (defScope s_blend) .none kV_s_blend dc_s_blend pm_s_blend an_s_blend cd_s_blend ct_s_blend), sl_s_blend⟩)
    (c_s_blend : PySem.W.codeIn K cd_s_blend "_law_blend" = true)
    (k_s_blend : PySem.W.keepIn K (.ref f_s_blend) = true)
    (a_s_take : PySem.W.nsIn K mainGlobals "_law_take" = some (some (.ref f_s_take)))
    (l_s_take : K.lookup f_s_take = some ⟨oc_s_take, od_s_take, .func (PySem.W.fnOf "_law_take" "_law_take" (defArgs s_take) (defBody s_take) (defScope s_take) .none kV_s_take dc_s_take pm_s_take an_s_take cd_s_take ct_s_take), sl_s_take⟩)
    (c_s_take : PySem.W.codeIn K cd_s_take "_law_take" = true)
    (k_s_take : PySem.W.keepIn K (.ref f_s_take) = true)
    (a_s_pick : PySem.W.nsIn K mainGlobals "_law_pick" = some (some (.ref f_s_pick)))
    (l_s_pick : K.lookup f_s_pick = some ⟨oc_s_pick, od_s_pick, .func (PySem.W.fnOf "_law_pick" "_law_pick" (defArgs s_pick) (defBody s_pick) (defScope s_pick) .none kV_s_pick dc_s_pick pm_s_pick an_s_pick cd_s_pick ct_s_pick), sl_s_pick⟩)
    (c_s_pick : PySem.W.codeIn K cd_s_pick "_law_pick" = true)
    (k_s_pick : PySem.W.keepIn K (.ref f_s_pick) = true)
    (a_s_mixed : PySem.W.nsIn K mainGlobals "_law_mixed" = some (some (.ref f_s_mixed)))
    (l_s_mixed : K.lookup f_s_mixed = some ⟨oc_s_mixed, od_s_mixed, .func (PySem.W.fnOf "_law_mixed" "_law_mixed" (defArgs s_mixed) (defBody s_mixed) (defScope s_mixed) .none kV_s_mixed dc_s_mixed pm_s_mixed an_s_mixed cd_s_mixed ct_s_mixed), sl_s_mixed⟩)
    (c_s_mixed : PySem.W.codeIn K cd_s_mixed "_law_mixed" = true)
    (k_s_mixed : PySem.W.keepIn K (.ref f_s_mixed) = true)
    (a_s_names : PySem.W.nsIn K mainGlobals "_law_names" = some (some (.ref f_s_names)))
    (l_s_names : K.lookup f_s_names = some ⟨oc_s_names, od_s_names, .func (PySem.W.fnOf "_law_names" "_law_names" (defArgs s_names) (defBody s_names) (defScope s_names) .none kV_s_names dc_s_names pm_s_names an_s_names cd_s_names ct_s_names), sl_s_names⟩)
    (c_s_names : PySem.W.codeIn K cd_s_names "_law_names" = true)
    (k_s_names : PySem.W.keepIn K (.ref f_s_names) = true)
    (a_s_made : PySem.W.nsIn K mainGlobals "_law_made" = some (some (.ref f_s_made)))
    (l_s_made : K.lookup f_s_made = some ⟨oc_s_made, od_s_made, .func (PySem.W.fnOf "_law_made" "_law_made" (defArgs s_made) (defBody s_made) (defScope s_made) .none kV_s_made dc_s_made pm_s_made an_s_made cd_s_made ct_s_made), sl_s_made⟩)
    (c_s_made : PySem.W.codeIn K cd_s_made "_law_made" = true)
    (k_s_made : PySem.W.keepIn K (.ref f_s_made) = true)
    (a_t_table : PySem.W.nsIn K mainGlobals "_law_table" = some (some (.ref f_t_table)))
    (l_t_table : K.lookup f_t_table = some ⟨oc_t_table, od_t_table, .func (PySem.W.fnOf "_law_table" "_law_table" (defArgs s_table) (defBody s_table) (defScope s_table) .none kV_t_table dc_t_table pm_t_table an_t_table cd_t_table ct_t_table), sl_t_table⟩)
    (c_t_table : PySem.W.codeIn K cd_t_table "_law_table" = true)
    (k_t_table : PySem.W.keepIn K (.ref f_t_table) = true)
    (a_t_moved : PySem.W.nsIn K mainGlobals "_law_moved" = some (some (.ref f_t_moved)))
    (l_t_moved : K.lookup f_t_moved = some ⟨oc_t_moved, od_t_moved, .func (PySem.W.fnOf "_law_moved" "_law_moved" (defArgs s_moved) (defBody s_moved) (defScope s_moved) .none kV_t_moved dc_t_moved pm_t_moved an_t_moved cd_t_moved ct_t_moved), sl_t_moved⟩)
    (c_t_moved : PySem.W.codeIn K cd_t_moved "_law_moved" = true)
    (k_t_moved : PySem.W.keepIn K (.ref f_t_moved) = true)
    (a_t_row : PySem.W.nsIn K mainGlobals "_law_row" = some (some (.ref f_t_row)))
    (l_t_row : K.lookup f_t_row = some ⟨oc_t_row, od_t_row, .func (PySem.W.fnOf "_law_row" "_law_row" (defArgs s_row) (defBody s_row) (defScope s_row) .none kV_t_row dc_t_row pm_t_row an_t_row cd_t_row ct_t_row), sl_t_row⟩)
    (c_t_row : PySem.W.codeIn K cd_t_row "_law_row" = true)
    (k_t_row : PySem.W.keepIn K (.ref f_t_row) = true)
    (a_t_web : PySem.W.nsIn K mainGlobals "_law_web" = some (some (.ref f_t_web)))
    (l_t_web : K.lookup f_t_web = some ⟨oc_t_web, od_t_web, .func (PySem.W.fnOf "_law_web" "_law_web" (defArgs s_web) (defBody s_web) (defScope s_web) .none kV_t_web dc_t_web pm_t_web an_t_web cd_t_web ct_t_web), sl_t_web⟩)
    (c_t_web : PySem.W.codeIn K cd_t_web "_law_web" = true)
    (k_t_web : PySem.W.keepIn K (.ref f_t_web) = true)
    (a_t_ranks : PySem.W.nsIn K mainGlobals "_law_ranks" = some (some (.ref f_t_ranks)))
    (l_t_ranks : K.lookup f_t_ranks = some ⟨oc_t_ranks, od_t_ranks, .func (PySem.W.fnOf "_law_ranks" "_law_ranks" (defArgs s_ranks) (defBody s_ranks) (defScope s_ranks) .none kV_t_ranks dc_t_ranks pm_t_ranks an_t_ranks cd_t_ranks ct_t_ranks), sl_t_ranks⟩)
    (c_t_ranks : PySem.W.codeIn K cd_t_ranks "_law_ranks" = true)
    (k_t_ranks : PySem.W.keepIn K (.ref f_t_ranks) = true)
    (a_p_is_list : PySem.W.nsIn K mainGlobals "is_list" = some (some (.ref f_p_is_list)))
    (l_p_is_list : K.lookup f_p_is_list = some ⟨oc_p_is_list, od_p_is_list, .func (PySem.W.fnOf "is_list" "is_list" (defArgs p_is_list) (defBody p_is_list) (defScope p_is_list) .none kV_p_is_list dc_p_is_list pm_p_is_list an_p_is_list cd_p_is_list ct_p_is_list), sl_p_is_list⟩)
    (c_p_is_list : PySem.W.codeIn K cd_p_is_list "is_list" = true)
    (k_p_is_list : PySem.W.keepIn K (.ref f_p_is_list) = true)
    (a_p_is_name : PySem.W.nsIn K mainGlobals "is_name" = some (some (.ref f_p_is_name)))
    (l_p_is_name : K.lookup f_p_is_name = some ⟨oc_p_is_name, od_p_is_name, .func (PySem.W.fnOf "is_name" "is_name" (defArgs p_is_name) (defBody p_is_name) (defScope p_is_name) .none kV_p_is_name dc_p_is_name pm_p_is_name an_p_is_name cd_p_is_name ct_p_is_name), sl_p_is_name⟩)
    (c_p_is_name : PySem.W.codeIn K cd_p_is_name "is_name" = true)
    (k_p_is_name : PySem.W.keepIn K (.ref f_p_is_name) = true)
    (a_p_is_place : PySem.W.nsIn K mainGlobals "is_place" = some (some (.ref f_p_is_place)))
    (l_p_is_place : K.lookup f_p_is_place = some ⟨oc_p_is_place, od_p_is_place, .func (PySem.W.fnOf "is_place" "is_place" (defArgs p_is_place) (defBody p_is_place) (defScope p_is_place) .none kV_p_is_place dc_p_is_place pm_p_is_place an_p_is_place cd_p_is_place ct_p_is_place), sl_p_is_place⟩)
    (c_p_is_place : PySem.W.codeIn K cd_p_is_place "is_place" = true)
    (k_p_is_place : PySem.W.keepIn K (.ref f_p_is_place) = true)
    (a_p_is_table : PySem.W.nsIn K mainGlobals "is_table" = some (some (.ref f_p_is_table)))
    (l_p_is_table : K.lookup f_p_is_table = some ⟨oc_p_is_table, od_p_is_table, .func (PySem.W.fnOf "is_table" "is_table" (defArgs p_is_table) (defBody p_is_table) (defScope p_is_table) .none kV_p_is_table dc_p_is_table pm_p_is_table an_p_is_table cd_p_is_table ct_p_is_table), sl_p_is_table⟩)
    (c_p_is_table : PySem.W.codeIn K cd_p_is_table "is_table" = true)
    (k_p_is_table : PySem.W.keepIn K (.ref f_p_is_table) = true)
    (a_p_are_different : PySem.W.nsIn K mainGlobals "are_different" = some (some (.ref f_p_are_different)))
    (l_p_are_different : K.lookup f_p_are_different = some ⟨oc_p_are_different, od_p_are_different, .func (PySem.W.fnOf "are_different" "are_different" (defArgs p_are_different) (defBody p_are_different) (defScope p_are_different) .none kV_p_are_different dc_p_are_different pm_p_are_different an_p_are_different cd_p_are_different ct_p_are_different), sl_p_are_different⟩)
    (c_p_are_different : PySem.W.codeIn K cd_p_are_different "are_different" = true)
    (k_p_are_different : PySem.W.keepIn K (.ref f_p_are_different) = true)
    (a_p_are_nodes : PySem.W.nsIn K mainGlobals "are_nodes" = some (some (.ref f_p_are_nodes)))
    (l_p_are_nodes : K.lookup f_p_are_nodes = some ⟨oc_p_are_nodes, od_p_are_nodes, .func (PySem.W.fnOf "are_nodes" "are_nodes" (defArgs p_are_nodes) (defBody p_are_nodes) (defScope p_are_nodes) .none kV_p_are_nodes dc_p_are_nodes pm_p_are_nodes an_p_are_nodes cd_p_are_nodes ct_p_are_nodes), sl_p_are_nodes⟩)
    (c_p_are_nodes : PySem.W.codeIn K cd_p_are_nodes "are_nodes" = true)
    (k_p_are_nodes : PySem.W.keepIn K (.ref f_p_are_nodes) = true)
    (a_p_is_pair_of_dicts : PySem.W.nsIn K mainGlobals "is_pair_of_dicts" = some (some (.ref f_p_is_pair_of_dicts)))
    (l_p_is_pair_of_dicts : K.lookup f_p_is_pair_of_dicts = some ⟨oc_p_is_pair_of_dicts, od_p_is_pair_of_dicts, .func (PySem.W.fnOf "is_pair_of_dicts" "is_pair_of_dicts" (defArgs p_is_pair_of_dicts) (defBody p_is_pair_of_dicts) (defScope p_is_pair_of_dicts) .none kV_p_is_pair_of_dicts dc_p_is_pair_of_dicts pm_p_is_pair_of_dicts an_p_is_pair_of_dicts cd_p_is_pair_of_dicts ct_p_is_pair_of_dicts), sl_p_is_pair_of_dicts⟩)
    (c_p_is_pair_of_dicts : PySem.W.codeIn K cd_p_is_pair_of_dicts "is_pair_of_dicts" = true)
    (k_p_is_pair_of_dicts : PySem.W.keepIn K (.ref f_p_is_pair_of_dicts) = true)
    (a_p_are_tables : PySem.W.nsIn K mainGlobals "are_tables" = some (some (.ref f_p_are_tables)))
    (l_p_are_tables : K.lookup f_p_are_tables = some ⟨oc_p_are_tables, od_p_are_tables, .func (PySem.W.fnOf "are_tables" "are_tables" (defArgs p_are_tables) (defBody p_are_tables) (defScope p_are_tables) .none kV_p_are_tables dc_p_are_tables pm_p_are_tables an_p_are_tables cd_p_are_tables ct_p_are_tables), sl_p_are_tables⟩)
    (c_p_are_tables : PySem.W.codeIn K cd_p_are_tables "are_tables" = true)
    (k_p_are_tables : PySem.W.keepIn K (.ref f_p_are_tables) = true)
    (a_p_check_net : PySem.W.nsIn K mainGlobals "check_net" = some (some (.ref f_p_check_net)))
    (l_p_check_net : K.lookup f_p_check_net = some ⟨oc_p_check_net, od_p_check_net, .func (PySem.W.fnOf "check_net" "check_net" (defArgs p_check_net) (defBody p_check_net) (defScope p_check_net) .none kV_p_check_net dc_p_check_net pm_p_check_net an_p_check_net cd_p_check_net ct_p_check_net), sl_p_check_net⟩)
    (c_p_check_net : PySem.W.codeIn K cd_p_check_net "check_net" = true)
    (k_p_check_net : PySem.W.keepIn K (.ref f_p_check_net) = true)
    (a_g_goals : PySem.W.findIn K (.ref C) "goals" = some (some (.ref p_g_goals)))
    (ge_g_goals : PySem.W.specialIn K (.ref p_g_goals) "__get__" = some (some (.builtin "property.__get__")))
    (ta_g_goals : PySem.W.takesIn K (.ref p_g_goals) = some true)
    (re_g_goals : PySem.W.recIn K p_g_goals "property" = some (.ref f_g_goals :: r_g_goals))
    (l_g_goals : K.lookup f_g_goals = some ⟨oc_g_goals, od_g_goals, .func (PySem.W.fnOf "goals" "Net.goals" (defArgs c_Net_goals) (defBody c_Net_goals) (defScope c_Net_goals) .none kV_g_goals dc_g_goals pm_g_goals an_g_goals cd_g_goals ct_g_goals), sl_g_goals⟩)
    (c_g_goals : PySem.W.codeIn K cd_g_goals "Net.goals" = true)
    (k_g_goals : PySem.W.keepIn K (.ref f_g_goals) = true)
    (a_g_nodes : PySem.W.findIn K (.ref C) "nodes" = some (some (.ref p_g_nodes)))
    (ge_g_nodes : PySem.W.specialIn K (.ref p_g_nodes) "__get__" = some (some (.builtin "property.__get__")))
    (ta_g_nodes : PySem.W.takesIn K (.ref p_g_nodes) = some true)
    (re_g_nodes : PySem.W.recIn K p_g_nodes "property" = some (.ref f_g_nodes :: r_g_nodes))
    (l_g_nodes : K.lookup f_g_nodes = some ⟨oc_g_nodes, od_g_nodes, .func (PySem.W.fnOf "nodes" "Net.nodes" (defArgs c_Net_nodes) (defBody c_Net_nodes) (defScope c_Net_nodes) .none kV_g_nodes dc_g_nodes pm_g_nodes an_g_nodes cd_g_nodes ct_g_nodes), sl_g_nodes⟩)
    (c_g_nodes : PySem.W.codeIn K cd_g_nodes "Net.nodes" = true)
    (k_g_nodes : PySem.W.keepIn K (.ref f_g_nodes) = true)
    (a_g_changing : PySem.W.findIn K (.ref C) "changing" = some (some (.ref p_g_changing)))
    (ge_g_changing : PySem.W.specialIn K (.ref p_g_changing) "__get__" = some (some (.builtin "property.__get__")))
    (ta_g_changing : PySem.W.takesIn K (.ref p_g_changing) = some true)
    (re_g_changing : PySem.W.recIn K p_g_changing "property" = some (.ref f_g_changing :: r_g_changing))
    (l_g_changing : K.lookup f_g_changing = some ⟨oc_g_changing, od_g_changing, .func (PySem.W.fnOf "changing" "Net.changing" (defArgs c_Net_changing) (defBody c_Net_changing) (defScope c_Net_changing) .none kV_g_changing dc_g_changing pm_g_changing an_g_changing cd_g_changing ct_g_changing), sl_g_changing⟩)
    (c_g_changing : PySem.W.codeIn K cd_g_changing "Net.changing" = true)
    (k_g_changing : PySem.W.keepIn K (.ref f_g_changing) = true)
    (a_p_is_number : PySem.W.nsIn K mainGlobals "is_number" = some (some (.ref f_p_is_number)))
    (l_p_is_number : K.lookup f_p_is_number = some ⟨oc_p_is_number, od_p_is_number, .func (PySem.W.fnOf "is_number" "is_number" (defArgs p_is_number) (defBody p_is_number) (defScope p_is_number) .none kV_p_is_number dc_p_is_number pm_p_is_number an_p_is_number cd_p_is_number ct_p_is_number), sl_p_is_number⟩)
    (c_p_is_number : PySem.W.codeIn K cd_p_is_number "is_number" = true)
    (k_p_is_number : PySem.W.keepIn K (.ref f_p_is_number) = true)
    (a_p_followed : PySem.W.nsIn K mainGlobals "followed" = some (some (.ref f_p_followed)))
    (l_p_followed : K.lookup f_p_followed = some ⟨oc_p_followed, od_p_followed, .func (PySem.W.fnOf "followed" "followed" (defArgs p_followed) (defBody p_followed) (defScope p_followed) .none kV_p_followed dc_p_followed pm_p_followed an_p_followed cd_p_followed ct_p_followed), sl_p_followed⟩)
    (c_p_followed : PySem.W.codeIn K cd_p_followed "followed" = true)
    (k_p_followed : PySem.W.keepIn K (.ref f_p_followed) = true)
    (a_p_ways_at : PySem.W.nsIn K mainGlobals "ways_at" = some (some (.ref f_p_ways_at)))
    (l_p_ways_at : K.lookup f_p_ways_at = some ⟨oc_p_ways_at, od_p_ways_at, .func (PySem.W.fnOf "ways_at" "ways_at" (defArgs p_ways_at) (defBody p_ways_at) (defScope p_ways_at) .none kV_p_ways_at dc_p_ways_at pm_p_ways_at an_p_ways_at cd_p_ways_at ct_p_ways_at), sl_p_ways_at⟩)
    (c_p_ways_at : PySem.W.codeIn K cd_p_ways_at "ways_at" = true)
    (k_p_ways_at : PySem.W.keepIn K (.ref f_p_ways_at) = true)
    (a_p_joined : PySem.W.nsIn K mainGlobals "joined" = some (some (.ref f_p_joined)))
    (l_p_joined : K.lookup f_p_joined = some ⟨oc_p_joined, od_p_joined, .func (PySem.W.fnOf "joined" "joined" (defArgs p_joined) (defBody p_joined) (defScope p_joined) .none kV_p_joined dc_p_joined pm_p_joined an_p_joined cd_p_joined ct_p_joined), sl_p_joined⟩)
    (c_p_joined : PySem.W.codeIn K cd_p_joined "joined" = true)
    (k_p_joined : PySem.W.keepIn K (.ref f_p_joined) = true)
    (a_p_parts_of : PySem.W.nsIn K mainGlobals "parts_of" = some (some (.ref f_p_parts_of)))
    (l_p_parts_of : K.lookup f_p_parts_of = some ⟨oc_p_parts_of, od_p_parts_of, .func (PySem.W.fnOf "parts_of" "parts_of" (defArgs p_parts_of) (defBody p_parts_of) (defScope p_parts_of) .none kV_p_parts_of dc_p_parts_of pm_p_parts_of an_p_parts_of (.ref cc) ct_p_parts_of), sl_p_parts_of⟩)
    (c_p_parts_of : PySem.W.codeIn K (.ref cc) "parts_of" = true)
    (k_p_parts_of : PySem.W.keepIn K (.ref f_p_parts_of) = true)
    (a_p_starts : PySem.W.nsIn K mainGlobals "starts" = some (some (.ref f_p_starts)))
    (l_p_starts : K.lookup f_p_starts = some ⟨oc_p_starts, od_p_starts, .func (PySem.W.fnOf "starts" "starts" (defArgs p_starts) (defBody p_starts) (defScope p_starts) .none kV_p_starts dc_p_starts pm_p_starts an_p_starts cd_p_starts ct_p_starts), sl_p_starts⟩)
    (c_p_starts : PySem.W.codeIn K cd_p_starts "starts" = true)
    (k_p_starts : PySem.W.keepIn K (.ref f_p_starts) = true)
    (a_p_breaks : PySem.W.nsIn K mainGlobals "breaks" = some (some (.ref f_p_breaks)))
    (l_p_breaks : K.lookup f_p_breaks = some ⟨oc_p_breaks, od_p_breaks, .func (PySem.W.fnOf "breaks" "breaks" (defArgs p_breaks) (defBody p_breaks) (defScope p_breaks) .none kV_p_breaks dc_p_breaks pm_p_breaks an_p_breaks cd_p_breaks ct_p_breaks), sl_p_breaks⟩)
    (c_p_breaks : PySem.W.codeIn K cd_p_breaks "breaks" = true)
    (k_p_breaks : PySem.W.keepIn K (.ref f_p_breaks) = true)
    (a_p_posts_passed : PySem.W.nsIn K mainGlobals "posts_passed" = some (some (.ref f_p_posts_passed)))
    (l_p_posts_passed : K.lookup f_p_posts_passed = some ⟨oc_p_posts_passed, od_p_posts_passed, .func (PySem.W.fnOf "posts_passed" "posts_passed" (defArgs p_posts_passed) (defBody p_posts_passed) (defScope p_posts_passed) .none kV_p_posts_passed dc_p_posts_passed pm_p_posts_passed an_p_posts_passed cd_p_posts_passed ct_p_posts_passed), sl_p_posts_passed⟩)
    (c_p_posts_passed : PySem.W.codeIn K cd_p_posts_passed "posts_passed" = true)
    (k_p_posts_passed : PySem.W.keepIn K (.ref f_p_posts_passed) = true)
    (a_p_passed_with : PySem.W.nsIn K mainGlobals "passed_with" = some (some (.ref f_p_passed_with)))
    (l_p_passed_with : K.lookup f_p_passed_with = some ⟨oc_p_passed_with, od_p_passed_with, .func (PySem.W.fnOf "passed_with" "passed_with" (defArgs p_passed_with) (defBody p_passed_with) (defScope p_passed_with) .none kV_p_passed_with dc_p_passed_with pm_p_passed_with an_p_passed_with cd_p_passed_with ct_p_passed_with), sl_p_passed_with⟩)
    (c_p_passed_with : PySem.W.codeIn K cd_p_passed_with "passed_with" = true)
    (k_p_passed_with : PySem.W.keepIn K (.ref f_p_passed_with) = true)
    (a_p_fault_at : PySem.W.nsIn K mainGlobals "fault_at" = some (some (.ref f_p_fault_at)))
    (l_p_fault_at : K.lookup f_p_fault_at = some ⟨oc_p_fault_at, od_p_fault_at, .func (PySem.W.fnOf "fault_at" "fault_at" (defArgs p_fault_at) (defBody p_fault_at) (defScope p_fault_at) .none kV_p_fault_at dc_p_fault_at pm_p_fault_at an_p_fault_at cd_p_fault_at ct_p_fault_at), sl_p_fault_at⟩)
    (c_p_fault_at : PySem.W.codeIn K cd_p_fault_at "fault_at" = true)
    (k_p_fault_at : PySem.W.keepIn K (.ref f_p_fault_at) = true)
    (a_p_check_wishes : PySem.W.nsIn K mainGlobals "check_wishes" = some (some (.ref f_p_check_wishes)))
    (l_p_check_wishes : K.lookup f_p_check_wishes = some ⟨oc_p_check_wishes, od_p_check_wishes, .func (PySem.W.fnOf "check_wishes" "check_wishes" (defArgs p_check_wishes) (defBody p_check_wishes) (defScope p_check_wishes) .none kV_p_check_wishes dc_p_check_wishes pm_p_check_wishes an_p_check_wishes cd_p_check_wishes ct_p_check_wishes), sl_p_check_wishes⟩)
    (c_p_check_wishes : PySem.W.codeIn K cd_p_check_wishes "check_wishes" = true)
    (k_p_check_wishes : PySem.W.keepIn K (.ref f_p_check_wishes) = true)
    (a_p_broken_moments : PySem.W.nsIn K mainGlobals "broken_moments" = some (some (.ref f_p_broken_moments)))
    (l_p_broken_moments : K.lookup f_p_broken_moments = some ⟨oc_p_broken_moments, od_p_broken_moments, .func (PySem.W.fnOf "broken_moments" "broken_moments" (defArgs p_broken_moments) (defBody p_broken_moments) (defScope p_broken_moments) .none kV_p_broken_moments dc_p_broken_moments pm_p_broken_moments an_p_broken_moments cd_p_broken_moments ct_p_broken_moments), sl_p_broken_moments⟩)
    (c_p_broken_moments : PySem.W.codeIn K cd_p_broken_moments "broken_moments" = true)
    (k_p_broken_moments : PySem.W.keepIn K (.ref f_p_broken_moments) = true)
    (a_p_moments_to_avoid : PySem.W.nsIn K mainGlobals "moments_to_avoid" = some (some (.ref f_p_moments_to_avoid)))
    (l_p_moments_to_avoid : K.lookup f_p_moments_to_avoid = some ⟨oc_p_moments_to_avoid, od_p_moments_to_avoid, .func (PySem.W.fnOf "moments_to_avoid" "moments_to_avoid" (defArgs p_moments_to_avoid) (defBody p_moments_to_avoid) (defScope p_moments_to_avoid) .none kV_p_moments_to_avoid dc_p_moments_to_avoid pm_p_moments_to_avoid an_p_moments_to_avoid cd_p_moments_to_avoid ct_p_moments_to_avoid), sl_p_moments_to_avoid⟩)
    (c_p_moments_to_avoid : PySem.W.codeIn K cd_p_moments_to_avoid "moments_to_avoid" = true)
    (k_p_moments_to_avoid : PySem.W.keepIn K (.ref f_p_moments_to_avoid) = true)
    (a_p_safe_rounds : PySem.W.nsIn K mainGlobals "safe_rounds" = some (some (.ref f_p_safe_rounds)))
    (l_p_safe_rounds : K.lookup f_p_safe_rounds = some ⟨oc_p_safe_rounds, od_p_safe_rounds, .func (PySem.W.fnOf "safe_rounds" "safe_rounds" (defArgs p_safe_rounds) (defBody p_safe_rounds) (defScope p_safe_rounds) .none kV_p_safe_rounds dc_p_safe_rounds pm_p_safe_rounds an_p_safe_rounds cd_p_safe_rounds ct_p_safe_rounds), sl_p_safe_rounds⟩)
    (c_p_safe_rounds : PySem.W.codeIn K cd_p_safe_rounds "safe_rounds" = true)
    (k_p_safe_rounds : PySem.W.keepIn K (.ref f_p_safe_rounds) = true)
    (a_p_round_numbers : PySem.W.nsIn K mainGlobals "round_numbers" = some (some (.ref f_p_round_numbers)))
    (l_p_round_numbers : K.lookup f_p_round_numbers = some ⟨oc_p_round_numbers, od_p_round_numbers, .func (PySem.W.fnOf "round_numbers" "round_numbers" (defArgs p_round_numbers) (defBody p_round_numbers) (defScope p_round_numbers) .none kV_p_round_numbers dc_p_round_numbers pm_p_round_numbers an_p_round_numbers cd_p_round_numbers ct_p_round_numbers), sl_p_round_numbers⟩)
    (c_p_round_numbers : PySem.W.codeIn K cd_p_round_numbers "round_numbers" = true)
    (k_p_round_numbers : PySem.W.keepIn K (.ref f_p_round_numbers) = true)
    (a_p_rounds_needed : PySem.W.nsIn K mainGlobals "rounds_needed" = some (some (.ref f_p_rounds_needed)))
    (l_p_rounds_needed : K.lookup f_p_rounds_needed = some ⟨oc_p_rounds_needed, od_p_rounds_needed, .func (PySem.W.fnOf "rounds_needed" "rounds_needed" (defArgs p_rounds_needed) (defBody p_rounds_needed) (defScope p_rounds_needed) .none kV_p_rounds_needed dc_p_rounds_needed pm_p_rounds_needed an_p_rounds_needed cd_p_rounds_needed ct_p_rounds_needed), sl_p_rounds_needed⟩)
    (c_p_rounds_needed : PySem.W.codeIn K cd_p_rounds_needed "rounds_needed" = true)
    (k_p_rounds_needed : PySem.W.keepIn K (.ref f_p_rounds_needed) = true)
    (a_p_plan_counts : PySem.W.nsIn K mainGlobals "plan_counts" = some (some (.ref f_p_plan_counts)))
    (l_p_plan_counts : K.lookup f_p_plan_counts = some ⟨oc_p_plan_counts, od_p_plan_counts, .func (PySem.W.fnOf "plan_counts" "plan_counts" (defArgs p_plan_counts) (defBody p_plan_counts) (defScope p_plan_counts) .none kV_p_plan_counts dc_p_plan_counts pm_p_plan_counts an_p_plan_counts cd_p_plan_counts ct_p_plan_counts), sl_p_plan_counts⟩)
    (c_p_plan_counts : PySem.W.codeIn K cd_p_plan_counts "plan_counts" = true)
    (k_p_plan_counts : PySem.W.keepIn K (.ref f_p_plan_counts) = true)
    (a_p_plan_with_place : PySem.W.nsIn K mainGlobals "plan_with_place" = some (some (.ref f_p_plan_with_place)))
    (l_p_plan_with_place : K.lookup f_p_plan_with_place = some ⟨oc_p_plan_with_place, od_p_plan_with_place, .func (PySem.W.fnOf "plan_with_place" "plan_with_place" (defArgs p_plan_with_place) (defBody p_plan_with_place) (defScope p_plan_with_place) .none kV_p_plan_with_place dc_p_plan_with_place pm_p_plan_with_place an_p_plan_with_place cd_p_plan_with_place ct_p_plan_with_place), sl_p_plan_with_place⟩)
    (c_p_plan_with_place : PySem.W.codeIn K cd_p_plan_with_place "plan_with_place" = true)
    (k_p_plan_with_place : PySem.W.keepIn K (.ref f_p_plan_with_place) = true)
    (a_p_fewest : PySem.W.nsIn K mainGlobals "fewest" = some (some (.ref f_p_fewest)))
    (l_p_fewest : K.lookup f_p_fewest = some ⟨oc_p_fewest, od_p_fewest, .func (PySem.W.fnOf "fewest" "fewest" (defArgs p_fewest) (defBody p_fewest) (defScope p_fewest) .none kV_p_fewest dc_p_fewest pm_p_fewest an_p_fewest cd_p_fewest ct_p_fewest), sl_p_fewest⟩)
    (c_p_fewest : PySem.W.codeIn K cd_p_fewest "fewest" = true)
    (k_p_fewest : PySem.W.keepIn K (.ref f_p_fewest) = true)
    (a_p_check_many : PySem.W.nsIn K mainGlobals "check_many" = some (some (.ref f_p_check_many)))
    (l_p_check_many : K.lookup f_p_check_many = some ⟨oc_p_check_many, od_p_check_many, .func (PySem.W.fnOf "check_many" "check_many" (defArgs p_check_many) (defBody p_check_many) (defScope p_check_many) .none kV_p_check_many dc_p_check_many pm_p_check_many an_p_check_many cd_p_check_many ct_p_check_many), sl_p_check_many⟩)
    (c_p_check_many : PySem.W.codeIn K cd_p_check_many "check_many" = true)
    (k_p_check_many : PySem.W.keepIn K (.ref f_p_check_many) = true)
    (a_p_how_many : PySem.W.nsIn K mainGlobals "how_many" = some (some (.ref f_p_how_many)))
    (l_p_how_many : K.lookup f_p_how_many = some ⟨oc_p_how_many, od_p_how_many, .func (PySem.W.fnOf "how_many" "how_many" (defArgs p_how_many) (defBody p_how_many) (defScope p_how_many) .none kV_p_how_many dc_p_how_many pm_p_how_many an_p_how_many cd_p_how_many ct_p_how_many), sl_p_how_many⟩)
    (c_p_how_many : PySem.W.codeIn K cd_p_how_many "how_many" = true)
    (k_p_how_many : PySem.W.keepIn K (.ref f_p_how_many) = true)
    (a_g_tables : PySem.W.findIn K (.ref C) "tables" = some (some (.ref p_g_tables)))
    (ge_g_tables : PySem.W.specialIn K (.ref p_g_tables) "__get__" = some (some (.builtin "property.__get__")))
    (ta_g_tables : PySem.W.takesIn K (.ref p_g_tables) = some true)
    (re_g_tables : PySem.W.recIn K p_g_tables "property" = some (.ref f_g_tables :: r_g_tables))
    (l_g_tables : K.lookup f_g_tables = some ⟨oc_g_tables, od_g_tables, .func (PySem.W.fnOf "tables" "Net.tables" (defArgs c_Net_tables) (defBody c_Net_tables) (defScope c_Net_tables) .none kV_g_tables dc_g_tables pm_g_tables an_g_tables cd_g_tables ct_g_tables), sl_g_tables⟩)
    (c_g_tables : PySem.W.codeIn K cd_g_tables "Net.tables" = true)
    (k_g_tables : PySem.W.keepIn K (.ref f_g_tables) = true)
    (a_g_sources : PySem.W.findIn K (.ref C) "sources" = some (some (.ref p_g_sources)))
    (ge_g_sources : PySem.W.specialIn K (.ref p_g_sources) "__get__" = some (some (.builtin "property.__get__")))
    (ta_g_sources : PySem.W.takesIn K (.ref p_g_sources) = some true)
    (re_g_sources : PySem.W.recIn K p_g_sources "property" = some (.ref f_g_sources :: r_g_sources))
    (l_g_sources : K.lookup f_g_sources = some ⟨oc_g_sources, od_g_sources, .func (PySem.W.fnOf "sources" "Net.sources" (defArgs c_Net_sources) (defBody c_Net_sources) (defScope c_Net_sources) .none kV_g_sources dc_g_sources pm_g_sources an_g_sources cd_g_sources ct_g_sources), sl_g_sources⟩)
    (c_g_sources : PySem.W.codeIn K cd_g_sources "Net.sources" = true)
    (k_g_sources : PySem.W.keepIn K (.ref f_g_sources) = true)
    (a_g_posts : PySem.W.findIn K (.ref C) "posts" = some (some (.ref p_g_posts)))
    (ge_g_posts : PySem.W.specialIn K (.ref p_g_posts) "__get__" = some (some (.builtin "property.__get__")))
    (ta_g_posts : PySem.W.takesIn K (.ref p_g_posts) = some true)
    (re_g_posts : PySem.W.recIn K p_g_posts "property" = some (.ref f_g_posts :: r_g_posts))
    (l_g_posts : K.lookup f_g_posts = some ⟨oc_g_posts, od_g_posts, .func (PySem.W.fnOf "posts" "Net.posts" (defArgs c_Net_posts) (defBody c_Net_posts) (defScope c_Net_posts) .none kV_g_posts dc_g_posts pm_g_posts an_g_posts cd_g_posts ct_g_posts), sl_g_posts⟩)
    (c_g_posts : PySem.W.codeIn K cd_g_posts "Net.posts" = true)
    (k_g_posts : PySem.W.keepIn K (.ref f_g_posts) = true)
    (a_law : PySem.W.nsIn K mainGlobals "law" = some (some (.ref f_law)))
    (l_law : K.lookup f_law = some ⟨oc_law, od_law, .func (PySem.W.fnOf "law" "law" (defArgs s_law) (defBody s_law) (defScope s_law) .none kV_law dc_law pm_law an_law cd_law ct_law), sl_law⟩)
    (c_law : PySem.W.codeIn K cd_law "law" = true)
    (k_law : PySem.W.keepIn K (.ref f_law) = true)
    (aI : PySem.W.findIn K (.ref C) "__init__" = some (some (.ref fI)))
    (iI : PySem.W.isFn K (.ref fI) = true)
    (lI : K.lookup fI = some ⟨ocI, odI, .func (PySem.W.fnOf "__init__" "Net.__init__" (defArgs c_Net_init) (defBody c_Net_init) (defScope c_Net_init) (.ref TI) kVI dcI pmI anI cdI ctI), slI⟩)
    (cI : PySem.W.codeIn K cdI "Net.__init__" = true)
    (kI : PySem.W.keepIn K (.ref fI) = true)
    (lT : K.lookup TI = some ⟨ocT, odT, .seq [Value.ref q1, Value.ref q2].toArray nT, slT⟩)
    (pg : PySem.W.plainGet K C Str.empty = true)
    (hd : PySem.W.hasDictIn K C = true)
    (po : PySem.W.plainOver K C = true)
    (sa : PySem.W.findIn K (.ref C) "__setattr__" = some (some (.builtin "object.__setattr__")))
    (mk : PySem.W.makesIn K C = true)
    (kc : PySem.W.keepIn K (.ref C) = true)
    (nT_ : PySem.W.findIn K (.ref C) "_tables" = some none)
    (nN_ : PySem.W.findIn K (.ref C) "_nodes" = some none)
    (nS_ : PySem.W.findIn K (.ref C) "_sources" = some none)
    (nP_ : PySem.W.findIn K (.ref C) "_posts" = some none)
    (ha : PySem.W.findIn K (.ref C) "__class__" = some (some (.builtin "object.__class__")))
    (hn : PySem.W.specialIn K (.builtin "object.__class__") "__get__" = some (some (.builtin "getset_descriptor.__get__")))
    (hk : PySem.W.takesIn K (.builtin "object.__class__") = some true)
    (hm : PySem.W.mroIn K C (.type "object") = some true)
    (v_MOST_POSTS : PySem.W.nsIn K mainGlobals "MOST_POSTS" = some (some (.int 2 t_MOST_POSTS)))
    (v_MOST_NODES : PySem.W.nsIn K mainGlobals "MOST_NODES" = some (some (.int 6 t_MOST_NODES)))
    (v_MOST_GOALS : PySem.W.nsIn K mainGlobals "MOST_GOALS" = some (some (.int 2 t_MOST_GOALS)))
    (v_MOST_LETTERS : PySem.W.nsIn K mainGlobals "MOST_LETTERS" = some (some (.int 6 t_MOST_LETTERS)))
    (v_MOST_ROUNDS : PySem.W.nsIn K mainGlobals "MOST_ROUNDS" = some (some (.int 6 t_MOST_ROUNDS)))
    (v_WISHES : PySem.W.nsIn K mainGlobals "WISHES" = some (some (.ref Wa)))
    (lW : K.lookup Wa = some ⟨.type "tuple", odW, .seq [Value.str "home" tw1, .str "lost" tw2, .str "posts" tw3, .str "rings" tw4].toArray nW, slW⟩)
    (z_int : PySem.W.nsIn K mainGlobals "int" = some none)
    (z_len : PySem.W.nsIn K mainGlobals "len" = some none)
    (z_abs : PySem.W.nsIn K mainGlobals "abs" = some none)
    (z_list : PySem.W.nsIn K mainGlobals "list" = some none)
    (z_dict : PySem.W.nsIn K mainGlobals "dict" = some none)
    (z_sorted : PySem.W.nsIn K mainGlobals "sorted" = some none)
    (z_range : PySem.W.nsIn K mainGlobals "range" = some none)
    (z_isinstance : PySem.W.nsIn K mainGlobals "isinstance" = some none)
    (z_str : PySem.W.nsIn K mainGlobals "str" = some none)
    (z_tuple : PySem.W.nsIn K mainGlobals "tuple" = some none)
    (z_all : PySem.W.nsIn K mainGlobals "all" = some none)
    (z_any : PySem.W.nsIn K mainGlobals "any" = some none)
    (z_set : PySem.W.nsIn K mainGlobals "set" = some none)
    (z_enumerate : PySem.W.nsIn K mainGlobals "enumerate" = some none)
    (z_min : PySem.W.nsIn K mainGlobals "min" = some none)
    (z_repr : PySem.W.nsIn K mainGlobals "repr" = some none)
    (z_max : PySem.W.nsIn K mainGlobals "max" = some none)
    (z_reversed : PySem.W.nsIn K mainGlobals "reversed" = some none)
    (z_sum : PySem.W.nsIn K mainGlobals "sum" = some none)
    (z_bool : PySem.W.nsIn K mainGlobals "bool" = some none)
    : ∃ fd : FuncData, (∀ (s : Shared) (v : Value), BindsTo s fd ⟨[v], []⟩ [("script", v)]) ∧ ∀ base : Heap, K.In base → base.Ns mainGlobals mg → LamX.TabB base mg cc Pt → FnOk P w K mg base CX0 10 fa fd ["script"] (spLaw K [(Pt, ("parts_of.<locals>.<lambda>" : Str))]) := by
  have e := hfa.symm.trans (PySem.W.mg_of X G a_law)
  cases e
  have T : NetTxt K C := ⟨⟨pg, hd, po, sa⟩, nT_, nN_, nS_, nP_⟩
  have Is : NetIsi K C := ⟨ha, hn, hk, hm, if_pos (beq_self_eq_true _)⟩
  have mNet := PySem.W.mg_of X G aC
  have F_s_begin := fun_mk (st := s_begin) l_s_begin c_s_begin k_s_begin
  have b_s_begin := F_s_begin.binds (ps := ["script"]) fun _ _ _ _ _ _ us hl => match us, hl with | [_], _ => rfl
  have g_s_begin := PySem.W.mg_of X G a_s_begin
  have F_s_blend := fun_mk (st := s_blend) l_s_blend c_s_blend k_s_blend
  have b_s_blend := F_s_blend.binds (ps := ["draw"]) fun _ _ _ _ _ _ us hl => match us, hl with | [_], _ => rfl
  have g_s_blend := PySem.W.mg_of X G a_s_blend
  have F_s_take := fun_mk (st := s_take) l_s_take c_s_take k_s_take
  have b_s_take := F_s_take.binds (ps := ["draw", "size"]) fun _ _ _ _ _ _ us hl => match us, hl with | [_, _], _ => rfl
  have g_s_take := PySem.W.mg_of X G a_s_take
  have F_s_pick := fun_mk (st := s_pick) l_s_pick c_s_pick k_s_pick
  have b_s_pick := F_s_pick.binds (ps := ["draw", "some"]) fun _ _ _ _ _ _ us hl => match us, hl with | [_, _], _ => rfl
  have g_s_pick := PySem.W.mg_of X G a_s_pick
  have F_s_mixed := fun_mk (st := s_mixed) l_s_mixed c_s_mixed k_s_mixed
  have b_s_mixed := F_s_mixed.binds (ps := ["draw", "some"]) fun _ _ _ _ _ _ us hl => match us, hl with | [_, _], _ => rfl
  have g_s_mixed := PySem.W.mg_of X G a_s_mixed
  have F_s_names := fun_mk (st := s_names) l_s_names c_s_names k_s_names
  have b_s_names := F_s_names.binds (ps := ["draw", "size"]) fun _ _ _ _ _ _ us hl => match us, hl with | [_, _], _ => rfl
  have g_s_names := PySem.W.mg_of X G a_s_names
  have F_s_made := fun_mk (st := s_made) l_s_made c_s_made k_s_made
  have b_s_made := F_s_made.binds (ps := ["model"]) fun _ _ _ _ _ _ us hl => match us, hl with | [_], _ => rfl
  have g_s_made := PySem.W.mg_of X G a_s_made
  have F_t_table := fun_mk (st := s_table) l_t_table c_t_table k_t_table
  have b_t_table := F_t_table.binds (ps := ["draw", "nodes", "target", "way"]) fun _ _ _ _ _ _ us hl => match us, hl with | [_, _, _, _], _ => rfl
  have g_t_table := PySem.W.mg_of X G a_t_table
  have F_t_moved := fun_mk (st := s_moved) l_t_moved c_t_moved k_t_moved
  have b_t_moved := F_t_moved.binds (ps := ["model"]) fun _ _ _ _ _ _ us hl => match us, hl with | [_], _ => rfl
  have g_t_moved := PySem.W.mg_of X G a_t_moved
  have F_t_row := fun_mk (st := s_row) l_t_row c_t_row k_t_row
  have b_t_row := F_t_row.binds (ps := ["model", "turned", "target", "node"]) fun _ _ _ _ _ _ us hl => match us, hl with | [_, _, _, _], _ => rfl
  have g_t_row := PySem.W.mg_of X G a_t_row
  have F_t_web := fun_mk (st := s_web) l_t_web c_t_web k_t_web
  have b_t_web := F_t_web.binds (ps := ["model", "done", "fresh", "target"]) fun _ _ _ _ _ _ us hl => match us, hl with | [_, _, _, _], _ => rfl
  have g_t_web := PySem.W.mg_of X G a_t_web
  have F_t_ranks := fun_mk (st := s_ranks) l_t_ranks c_t_ranks k_t_ranks
  have b_t_ranks := F_t_ranks.binds (ps := ["web"]) fun _ _ _ _ _ _ us hl => match us, hl with | [_], _ => rfl
  have g_t_ranks := PySem.W.mg_of X G a_t_ranks
  have F_p_is_list := fun_mk (st := p_is_list) l_p_is_list c_p_is_list k_p_is_list
  have b_p_is_list := F_p_is_list.binds (ps := ["value"]) fun _ _ _ _ _ _ us hl => match us, hl with | [_], _ => rfl
  have g_p_is_list := PySem.W.mg_of X G a_p_is_list
  have F_p_is_name := fun_mk (st := p_is_name) l_p_is_name c_p_is_name k_p_is_name
  have b_p_is_name := F_p_is_name.binds (ps := ["value"]) fun _ _ _ _ _ _ us hl => match us, hl with | [_], _ => rfl
  have g_p_is_name := PySem.W.mg_of X G a_p_is_name
  have F_p_is_place := fun_mk (st := p_is_place) l_p_is_place c_p_is_place k_p_is_place
  have b_p_is_place := F_p_is_place.binds (ps := ["value", "node", "nodes", "goal"]) fun _ _ _ _ _ _ us hl => match us, hl with | [_, _, _, _], _ => rfl
  have g_p_is_place := PySem.W.mg_of X G a_p_is_place
  have F_p_is_table := fun_mk (st := p_is_table) l_p_is_table c_p_is_table k_p_is_table
  have b_p_is_table := F_p_is_table.binds (ps := ["table", "nodes", "goal"]) fun _ _ _ _ _ _ us hl => match us, hl with | [_, _, _], _ => rfl
  have g_p_is_table := PySem.W.mg_of X G a_p_is_table
  have F_p_are_different := fun_mk (st := p_are_different) l_p_are_different c_p_are_different k_p_are_different
  have b_p_are_different := F_p_are_different.binds (ps := ["value", "nodes"]) fun _ _ _ _ _ _ us hl => match us, hl with | [_, _], _ => rfl
  have g_p_are_different := PySem.W.mg_of X G a_p_are_different
  have F_p_are_nodes := fun_mk (st := p_are_nodes) l_p_are_nodes c_p_are_nodes k_p_are_nodes
  have b_p_are_nodes := F_p_are_nodes.binds (ps := ["names", "goals"]) fun _ _ _ _ _ _ us hl => match us, hl with | [_, _], _ => rfl
  have g_p_are_nodes := PySem.W.mg_of X G a_p_are_nodes
  have F_p_is_pair_of_dicts := fun_mk (st := p_is_pair_of_dicts) l_p_is_pair_of_dicts c_p_is_pair_of_dicts k_p_is_pair_of_dicts
  have b_p_is_pair_of_dicts := F_p_is_pair_of_dicts.binds (ps := ["value"]) fun _ _ _ _ _ _ us hl => match us, hl with | [_], _ => rfl
  have g_p_is_pair_of_dicts := PySem.W.mg_of X G a_p_is_pair_of_dicts
  have F_p_are_tables := fun_mk (st := p_are_tables) l_p_are_tables c_p_are_tables k_p_are_tables
  have b_p_are_tables := F_p_are_tables.binds (ps := ["value"]) fun _ _ _ _ _ _ us hl => match us, hl with | [_], _ => rfl
  have g_p_are_tables := PySem.W.mg_of X G a_p_are_tables
  have F_p_check_net := fun_mk (st := p_check_net) l_p_check_net c_p_check_net k_p_check_net
  have b_p_check_net := F_p_check_net.binds (ps := ["net"]) fun _ _ _ _ _ _ us hl => match us, hl with | [_], _ => rfl
  have g_p_check_net := PySem.W.mg_of X G a_p_check_net
  have F_g_goals := fun_mk (st := c_Net_goals) l_g_goals c_g_goals k_g_goals
  have b_g_goals := F_g_goals.binds (ps := ["self"]) fun _ _ _ _ _ _ us hl => match us, hl with | [_], _ => rfl
  have F_g_nodes := fun_mk (st := c_Net_nodes) l_g_nodes c_g_nodes k_g_nodes
  have b_g_nodes := F_g_nodes.binds (ps := ["self"]) fun _ _ _ _ _ _ us hl => match us, hl with | [_], _ => rfl
  have F_g_changing := fun_mk (st := c_Net_changing) l_g_changing c_g_changing k_g_changing
  have b_g_changing := F_g_changing.binds (ps := ["self"]) fun _ _ _ _ _ _ us hl => match us, hl with | [_], _ => rfl
  have F_p_is_number := fun_mk (st := p_is_number) l_p_is_number c_p_is_number k_p_is_number
  have b_p_is_number := F_p_is_number.binds (ps := ["value"]) fun _ _ _ _ _ _ us hl => match us, hl with | [_], _ => rfl
  have g_p_is_number := PySem.W.mg_of X G a_p_is_number
  have F_p_followed := fun_mk (st := p_followed) l_p_followed c_p_followed k_p_followed
  have b_p_followed := F_p_followed.binds (ps := ["table", "node"]) fun _ _ _ _ _ _ us hl => match us, hl with | [_, _], _ => rfl
  have g_p_followed := PySem.W.mg_of X G a_p_followed
  have F_p_ways_at := fun_mk (st := p_ways_at) l_p_ways_at c_p_ways_at k_p_ways_at
  have b_p_ways_at := F_p_ways_at.binds (ps := ["net", "done", "changed", "goal"]) fun _ _ _ _ _ _ us hl => match us, hl with | [_, _, _, _], _ => rfl
  have g_p_ways_at := PySem.W.mg_of X G a_p_ways_at
  have F_p_joined := fun_mk (st := p_joined) l_p_joined c_p_joined k_p_joined
  have b_p_joined := F_p_joined.binds (ps := ["lot", "other"]) fun _ _ _ _ _ _ us hl => match us, hl with | [_, _], _ => rfl
  have g_p_joined := PySem.W.mg_of X G a_p_joined
  have F_p_parts_of : FunC K "parts_of" "parts_of" p_parts_of f_p_parts_of (PySem.W.fnOf "parts_of" "parts_of" (defArgs p_parts_of) (defBody p_parts_of) (defScope p_parts_of) .none kV_p_parts_of dc_p_parts_of pm_p_parts_of an_p_parts_of (.ref cc) ct_p_parts_of) cc := ⟨⟨_, _, _, _, _, _, _, _, rfl, l_p_parts_of, c_p_parts_of⟩, k_p_parts_of⟩
  have b_p_parts_of := F_p_parts_of.fn.binds (ps := ["lot"]) fun _ _ _ _ _ _ us hl => match us, hl with | [_], _ => rfl
  have g_p_parts_of := PySem.W.mg_of X G a_p_parts_of
  have F_p_starts := fun_mk (st := p_starts) l_p_starts c_p_starts k_p_starts
  have b_p_starts := F_p_starts.binds (ps := ["net", "wish"]) fun _ _ _ _ _ _ us hl => match us, hl with | [_, _], _ => rfl
  have g_p_starts := PySem.W.mg_of X G a_p_starts
  have F_p_breaks := fun_mk (st := p_breaks) l_p_breaks c_p_breaks k_p_breaks
  have b_p_breaks := F_p_breaks.binds (ps := ["net", "wish", "goal", "places"]) fun _ _ _ _ _ _ us hl => match us, hl with | [_, _, _, _], _ => rfl
  have g_p_breaks := PySem.W.mg_of X G a_p_breaks
  have F_p_posts_passed := fun_mk (st := p_posts_passed) l_p_posts_passed c_p_posts_passed k_p_posts_passed
  have b_p_posts_passed := F_p_posts_passed.binds (ps := ["posts", "places"]) fun _ _ _ _ _ _ us hl => match us, hl with | [_, _], _ => rfl
  have g_p_posts_passed := PySem.W.mg_of X G a_p_posts_passed
  have F_p_passed_with := fun_mk (st := p_passed_with) l_p_passed_with c_p_passed_with k_p_passed_with
  have b_p_passed_with := F_p_passed_with.binds (ps := ["posts", "passed", "place"]) fun _ _ _ _ _ _ us hl => match us, hl with | [_, _, _], _ => rfl
  have g_p_passed_with := PySem.W.mg_of X G a_p_passed_with
  have F_p_fault_at := fun_mk (st := p_fault_at) l_p_fault_at c_p_fault_at k_p_fault_at
  have b_p_fault_at := F_p_fault_at.binds (ps := ["net", "changed", "wish"]) fun _ _ _ _ _ _ us hl => match us, hl with | [_, _, _], _ => rfl
  have g_p_fault_at := PySem.W.mg_of X G a_p_fault_at
  have F_p_check_wishes := fun_mk (st := p_check_wishes) l_p_check_wishes c_p_check_wishes k_p_check_wishes
  have b_p_check_wishes := F_p_check_wishes.binds (ps := ["wishes"]) fun _ _ _ _ _ _ us hl => match us, hl with | [_], _ => rfl
  have g_p_check_wishes := PySem.W.mg_of X G a_p_check_wishes
  have F_p_broken_moments := fun_mk (st := p_broken_moments) l_p_broken_moments c_p_broken_moments k_p_broken_moments
  have b_p_broken_moments := F_p_broken_moments.binds (ps := ["net", "wish"]) fun _ _ _ _ _ _ us hl => match us, hl with | [_, _], _ => rfl
  have g_p_broken_moments := PySem.W.mg_of X G a_p_broken_moments
  have F_p_moments_to_avoid := fun_mk (st := p_moments_to_avoid) l_p_moments_to_avoid c_p_moments_to_avoid k_p_moments_to_avoid
  have b_p_moments_to_avoid := F_p_moments_to_avoid.binds (ps := ["net", "wishes"]) fun _ _ _ _ _ _ us hl => match us, hl with | [_, _], _ => rfl
  have g_p_moments_to_avoid := PySem.W.mg_of X G a_p_moments_to_avoid
  have F_p_safe_rounds := fun_mk (st := p_safe_rounds) l_p_safe_rounds c_p_safe_rounds k_p_safe_rounds
  have b_p_safe_rounds := F_p_safe_rounds.binds (ps := ["changing", "broken"]) fun _ _ _ _ _ _ us hl => match us, hl with | [_, _], _ => rfl
  have g_p_safe_rounds := PySem.W.mg_of X G a_p_safe_rounds
  have F_p_round_numbers := fun_mk (st := p_round_numbers) l_p_round_numbers c_p_round_numbers k_p_round_numbers
  have b_p_round_numbers := F_p_round_numbers.binds (ps := ["safe"]) fun _ _ _ _ _ _ us hl => match us, hl with | [_], _ => rfl
  have g_p_round_numbers := PySem.W.mg_of X G a_p_round_numbers
  have F_p_rounds_needed := fun_mk (st := p_rounds_needed) l_p_rounds_needed c_p_rounds_needed k_p_rounds_needed
  have b_p_rounds_needed := F_p_rounds_needed.binds (ps := ["changing", "safe"]) fun _ _ _ _ _ _ us hl => match us, hl with | [_, _], _ => rfl
  have g_p_rounds_needed := PySem.W.mg_of X G a_p_rounds_needed
  have F_p_plan_counts := fun_mk (st := p_plan_counts) l_p_plan_counts c_p_plan_counts k_p_plan_counts
  have b_p_plan_counts := F_p_plan_counts.binds (ps := ["changing", "safe", "many"]) fun _ _ _ _ _ _ us hl => match us, hl with | [_, _, _], _ => rfl
  have g_p_plan_counts := PySem.W.mg_of X G a_p_plan_counts
  have F_p_plan_with_place := fun_mk (st := p_plan_with_place) l_p_plan_with_place c_p_plan_with_place k_p_plan_with_place
  have b_p_plan_with_place := F_p_plan_with_place.binds (ps := ["counts", "safe", "place"]) fun _ _ _ _ _ _ us hl => match us, hl with | [_, _, _], _ => rfl
  have g_p_plan_with_place := PySem.W.mg_of X G a_p_plan_with_place
  have F_p_fewest := fun_mk (st := p_fewest) l_p_fewest c_p_fewest k_p_fewest
  have b_p_fewest := F_p_fewest.binds (ps := ["net", "wishes"]) fun _ _ _ _ _ _ us hl => match us, hl with | [_, _], _ => rfl
  have g_p_fewest := PySem.W.mg_of X G a_p_fewest
  have F_p_check_many := fun_mk (st := p_check_many) l_p_check_many c_p_check_many k_p_check_many
  have b_p_check_many := F_p_check_many.binds (ps := ["many"]) fun _ _ _ _ _ _ us hl => match us, hl with | [_], _ => rfl
  have g_p_check_many := PySem.W.mg_of X G a_p_check_many
  have F_p_how_many := fun_mk (st := p_how_many) l_p_how_many c_p_how_many k_p_how_many
  have b_p_how_many := F_p_how_many.binds (ps := ["net", "wishes", "many"]) fun _ _ _ _ _ _ us hl => match us, hl with | [_, _, _], _ => rfl
  have g_p_how_many := PySem.W.mg_of X G a_p_how_many
  have F_g_tables := fun_mk (st := c_Net_tables) l_g_tables c_g_tables k_g_tables
  have b_g_tables := F_g_tables.binds (ps := ["self"]) fun _ _ _ _ _ _ us hl => match us, hl with | [_], _ => rfl
  have F_g_sources := fun_mk (st := c_Net_sources) l_g_sources c_g_sources k_g_sources
  have b_g_sources := F_g_sources.binds (ps := ["self"]) fun _ _ _ _ _ _ us hl => match us, hl with | [_], _ => rfl
  have F_g_posts := fun_mk (st := c_Net_posts) l_g_posts c_g_posts k_g_posts
  have b_g_posts := F_g_posts.binds (ps := ["self"]) fun _ _ _ _ _ _ us hl => match us, hl with | [_], _ => rfl
  have F_law := fun_mk (st := s_law) l_law c_law k_law
  have w_MOST_POSTS := PySem.W.mg_of X G v_MOST_POSTS
  have w_MOST_NODES := PySem.W.mg_of X G v_MOST_NODES
  have w_MOST_GOALS := PySem.W.mg_of X G v_MOST_GOALS
  have w_MOST_LETTERS := PySem.W.mg_of X G v_MOST_LETTERS
  have w_MOST_ROUNDS := PySem.W.mg_of X G v_MOST_ROUNDS
  have w_WISHES := PySem.W.mg_of X G v_WISHES
  have hW : ∀ H, SqT K H Wa (wishesL.map V.str) := fun H => .inr ⟨_, _, nW, lW, rfl, rfl, by show 4 ≤ sizeLine; decide, .cons ⟨_, rfl⟩ (.cons ⟨_, rfl⟩ (.cons ⟨_, rfl⟩ (.cons ⟨_, rfl⟩ .nil)))⟩
  have hmT : (Pt, ("parts_of.<locals>.<lambda>" : Str)) ∈ ([(Pt, ("parts_of.<locals>.<lambda>" : Str))] : List (Addr × Str)) := List.mem_singleton.mpr rfl
  have huT : ∀ p ∈ ([(Pt, ("parts_of.<locals>.<lambda>" : Str))] : List (Addr × Str)), p.1 = Pt → p.2 = ("parts_of.<locals>.<lambda>" : Str) := fun p hp _ => by rw [List.mem_singleton.mp hp]
  have m_int := PySem.W.mg_none_of X G z_int
  have m_len := PySem.W.mg_none_of X G z_len
  have m_abs := PySem.W.mg_none_of X G z_abs
  have m_list := PySem.W.mg_none_of X G z_list
  have m_dict := PySem.W.mg_none_of X G z_dict
  have m_sorted := PySem.W.mg_none_of X G z_sorted
  have m_range := PySem.W.mg_none_of X G z_range
  have m_isinstance := PySem.W.mg_none_of X G z_isinstance
  have m_str := PySem.W.mg_none_of X G z_str
  have m_tuple := PySem.W.mg_none_of X G z_tuple
  have m_all := PySem.W.mg_none_of X G z_all
  have m_any := PySem.W.mg_none_of X G z_any
  have m_set := PySem.W.mg_none_of X G z_set
  have m_enumerate := PySem.W.mg_none_of X G z_enumerate
  have m_min := PySem.W.mg_none_of X G z_min
  have m_repr := PySem.W.mg_none_of X G z_repr
  have m_max := PySem.W.mg_none_of X G z_max
  have m_reversed := PySem.W.mg_none_of X G z_reversed
  have m_sum := PySem.W.mg_none_of X G z_sum
  have m_bool := PySem.W.mg_none_of X G z_bool
  have FI : FunD K "__init__" "Net.__init__" (defArgs c_Net_init) (defBody c_Net_init) (defScope c_Net_init) [.ref q1, .ref q2] [] fI (PySem.W.fnOf "__init__" "Net.__init__" (defArgs c_Net_init) (defBody c_Net_init) (defScope c_Net_init) (.ref TI) kVI dcI pmI anI cdI ctI) := ⟨⟨ocI, odI, .ref TI, kVI, dcI, pmI, anI, cdI, ctI, slI, rfl, lI, cI, .inr ⟨by simp, TI, _, [.ref q1, .ref q2], nT, rfl, lT, rfl, .cons rfl (.cons rfl .nil)⟩, .inl rfl⟩, kI⟩
  have bI : Binds K (PySem.W.fnOf "__init__" "Net.__init__" (defArgs c_Net_init) (defBody c_Net_init) (defScope c_Net_init) (.ref TI) kVI dcI pmI anI cdI ctI) ["self", "tables", "sources", "posts"] [] := by
    obtain ⟨ds, r, b⟩ := FI.binds1 (ps := ["self", "tables", "sources", "posts"]) 4 2 (by simp) rfl (fun TT kV doc pm an cdv ct us its l1 l2 => match us, l1, its, l2 with | [a, b, c, d], _, [i1, i2], _ => ⟨_, rfl, rfl⟩)
    cases r
    exact b
  refine ⟨_, fun s v => .of_eq (show bindArgs (PySem.W.fnOf "law" "law" (defArgs s_law) (defBody s_law) (defScope s_law) .none kV_law dc_law pm_law an_law cd_law ct_law) ⟨[v], []⟩ = _ from rfl), fun base _ _ TB => ?_⟩
  have O_s_take := ok_take (P := P) (w := w) (mg := mg) (base := base) F_s_take F_s_blend b_s_blend g_s_blend m_int
  have O_s_pick := ok_pickL (P := P) (w := w) (mg := mg) (base := base) F_s_pick O_s_take k_s_take b_s_take g_s_take m_len
  have O_S_pick := ok_pickS (P := P) (w := w) (mg := mg) (base := base) F_s_pick O_s_take k_s_take b_s_take g_s_take m_len
  have O_s_mixed := ok_mixed (P := P) (w := w) (mg := mg) (base := base) F_s_mixed O_s_take k_s_take b_s_take g_s_take m_len m_list
  have O_s_begin := ok_begin (P := P) (w := w) (mg := mg) (base := base) F_s_begin m_abs
  have O_p_is_list := ok_is_list (P := P) (w := w) (mg := mg) (base := base) F_p_is_list m_isinstance m_list m_tuple
  have O_p_is_name := ok_is_name (P := P) (w := w) (mg := mg) (base := base) F_p_is_name m_isinstance m_str m_len m_all w_MOST_LETTERS
  have O_p_is_place := ok_is_place (P := P) (w := w) (mg := mg) (base := base) F_p_is_place
  have O_p_is_table := ok_is_table (P := P) (w := w) (mg := mg) (base := base) F_p_is_table O_p_is_place k_p_is_place b_p_is_place g_p_is_place m_len m_all
  have O_p_are_different := ok_diff (P := P) (w := w) (mg := mg) (base := base) F_p_are_different O_p_is_list k_p_is_list b_p_is_list g_p_is_list m_len m_all m_set
  have O_p_are_nodes := ok_nodes (P := P) (w := w) (mg := mg) (base := base) F_p_are_nodes O_p_is_name k_p_is_name b_p_is_name g_p_is_name m_len m_all w_MOST_NODES
  have O_p_is_pair_of_dicts := ok_pairD (P := P) (w := w) (mg := mg) (base := base) F_p_is_pair_of_dicts m_isinstance m_tuple m_dict m_len m_all
  have O_p_are_tables := ok_tables (P := P) (w := w) (mg := mg) (base := base) F_p_are_tables O_p_is_name k_p_is_name b_p_is_name g_p_is_name O_p_is_pair_of_dicts k_p_is_pair_of_dicts b_p_is_pair_of_dicts g_p_is_pair_of_dicts O_p_are_nodes k_p_are_nodes b_p_are_nodes g_p_are_nodes O_p_is_table k_p_is_table b_p_is_table g_p_is_table m_isinstance m_dict m_list m_len m_all w_MOST_GOALS
  have O_I := ok_init (P := P) (w := w) (mg := mg) (base := base) FI T O_p_are_tables k_p_are_tables b_p_are_tables g_p_are_tables O_p_are_different k_p_are_different b_p_are_different g_p_are_different m_list m_tuple m_sorted m_len w_MOST_POSTS
  have O_g_goals := ok_goals (P := P) (w := w) (mg := mg) (base := base) F_g_goals T m_tuple
  have O_g_nodes := ok_dots (P := P) (w := w) (mg := mg) (base := base) F_g_nodes T
  have O_g_changing := ok_changing (P := P) (w := w) (mg := mg) (base := base) F_g_changing T m_tuple m_list m_any
  have O_g_tables := ok_tabs (P := P) (w := w) (mg := mg) (base := base) F_g_tables T m_dict
  have O_g_sources := ok_sources (P := P) (w := w) (mg := mg) (base := base) F_g_sources T
  have O_g_posts := ok_posts (P := P) (w := w) (mg := mg) (base := base) F_g_posts T
  have R_goals : Prp P w K mg base C 1 "goals" (spGoals C) := ⟨_, _, _, ⟨a_g_goals, ge_g_goals, ta_g_goals, _, re_g_goals⟩, O_g_goals, b_g_goals⟩
  have R_nodes : Prp P w K mg base C 1 "nodes" (spDots C) := ⟨_, _, _, ⟨a_g_nodes, ge_g_nodes, ta_g_nodes, _, re_g_nodes⟩, O_g_nodes, b_g_nodes⟩
  have R_changing : Prp P w K mg base C 2 "changing" (spChanging C) := ⟨_, _, _, ⟨a_g_changing, ge_g_changing, ta_g_changing, _, re_g_changing⟩, O_g_changing, b_g_changing⟩
  have R_tables : Prp P w K mg base C 1 "tables" (spTabs C) := ⟨_, _, _, ⟨a_g_tables, ge_g_tables, ta_g_tables, _, re_g_tables⟩, O_g_tables, b_g_tables⟩
  have R_sources : Prp P w K mg base C 1 "sources" (spSources C) := ⟨_, _, _, ⟨a_g_sources, ge_g_sources, ta_g_sources, _, re_g_sources⟩, O_g_sources, b_g_sources⟩
  have R_posts : Prp P w K mg base C 1 "posts" (spPosts C) := ⟨_, _, _, ⟨a_g_posts, ge_g_posts, ta_g_posts, _, re_g_posts⟩, O_g_posts, b_g_posts⟩
  have O_p_check_net := ok_check_net (P := P) (w := w) (mg := mg) (base := base) F_p_check_net T Is m_isinstance mNet
  have O_p_followed := ok_followed (P := P) (w := w) (mg := mg) (base := base) F_p_followed
  have O_s_names := ok_names (P := P) (w := w) (mg := mg) (base := base) F_s_names O_s_take k_s_take b_s_take g_s_take O_s_pick O_S_pick k_s_pick b_s_pick g_s_pick m_range
  have O_s_made := ok_made (P := P) (w := w) (mg := mg) (base := base) F_s_made ⟨mk, aI, iI, kc⟩ O_I bI mNet m_dict m_list
  have O_t_table := ok_tableP (P := P) (w := w) (mg := mg) (base := base) F_t_table O_s_mixed k_s_mixed b_s_mixed g_s_mixed O_s_pick k_s_pick b_s_pick g_s_pick m_enumerate m_max
  have O_t_moved := ok_movedS (P := P) (w := w) (mg := mg) (base := base) F_t_moved m_sorted
  have O_t_row := ok_rowS (P := P) (w := w) (mg := mg) (base := base) F_t_row m_range m_len
  have O_t_web := ok_webL (P := P) (w := w) (mg := mg) (base := base) F_t_web
  have O_t_ranks := ok_ranksW (P := P) (w := w) (mg := mg) (base := base) F_t_ranks m_max m_len
  have O_p_joined := ok_joined (P := P) (w := w) (mg := mg) (base := base) F_p_joined m_tuple m_sorted
  have O_p_parts_of := ok_parts_of (P := P) (w := w) (mg := mg) (base := base) F_p_parts_of TB hmT huT m_sorted m_len
  have O_W_ways_at := ok_ways_at (P := P) (w := w) (mg := mg) (base := base) F_p_ways_at T R_tables R_nodes
  have O_p_starts := ok_starts (P := P) (w := w) (mg := mg) (base := base) F_p_starts T R_nodes R_sources
  have O_p_passed_with := ok_passed_with (P := P) (w := w) (mg := mg) (base := base) F_p_passed_with m_len
  have O_p_posts_passed := ok_posts_passed (P := P) (w := w) (mg := mg) (base := base) F_p_posts_passed ⟨_, _, O_p_passed_with, k_p_passed_with, b_p_passed_with, g_p_passed_with⟩
  have O_p_breaks := ok_breaks (P := P) (w := w) (mg := mg) (base := base) F_p_breaks T R_posts ⟨_, _, O_p_posts_passed, k_p_posts_passed, b_p_posts_passed, g_p_posts_passed⟩ m_len
  have O_p_fault_at := ok_fault_at (P := P) (w := w) (mg := mg) (base := base) F_p_fault_at T R_goals ⟨_, _, O_W_ways_at, k_p_ways_at, b_p_ways_at, g_p_ways_at⟩ ⟨_, _, O_p_starts, k_p_starts, b_p_starts, g_p_starts⟩ ⟨_, _, O_p_breaks, k_p_breaks, b_p_breaks, g_p_breaks⟩ ⟨_, _, O_p_followed, k_p_followed, b_p_followed, g_p_followed⟩
  have O_p_check_wishes := ok_check_wishes (P := P) (w := w) (mg := mg) (base := base) F_p_check_wishes ⟨_, _, O_p_are_different, k_p_are_different, b_p_are_different, g_p_are_different⟩ w_WISHES hW
  have O_p_broken_moments := ok_brk (P := P) (w := w) (mg := mg) (base := base) F_p_broken_moments T R_changing ⟨_, _, O_p_parts_of, k_p_parts_of, b_p_parts_of, g_p_parts_of⟩ ⟨_, _, O_p_fault_at, k_p_fault_at, b_p_fault_at, g_p_fault_at⟩
  have O_p_moments_to_avoid := ok_avoid (P := P) (w := w) (mg := mg) (base := base) F_p_moments_to_avoid ⟨_, _, O_p_broken_moments, k_p_broken_moments, b_p_broken_moments, g_p_broken_moments⟩
  have O_p_safe_rounds := ok_safeR (P := P) (w := w) (mg := mg) (base := base) F_p_safe_rounds ⟨_, _, O_p_parts_of, k_p_parts_of, b_p_parts_of, g_p_parts_of⟩ ⟨_, _, O_p_joined, k_p_joined, b_p_joined, g_p_joined⟩ m_reversed m_list m_sorted
  have O_p_round_numbers := ok_nums (P := P) (w := w) (mg := mg) (base := base) F_p_round_numbers ⟨_, _, O_p_joined, k_p_joined, b_p_joined, g_p_joined⟩
  have O_p_rounds_needed := ok_needed (P := P) (w := w) (mg := mg) (base := base) F_p_rounds_needed ⟨_, _, O_p_round_numbers, k_p_round_numbers, b_p_round_numbers, g_p_round_numbers⟩
  have O_p_plan_counts := ok_counts (P := P) (w := w) (mg := mg) (base := base) F_p_plan_counts ⟨_, _, O_p_joined, k_p_joined, b_p_joined, g_p_joined⟩ m_len m_sum m_range
  have O_p_plan_with_place := ok_planAt (P := P) (w := w) (mg := mg) (base := base) F_p_plan_with_place ⟨_, _, O_p_joined, k_p_joined, b_p_joined, g_p_joined⟩ m_reversed
  have O_p_fewest := ok_fewest (P := P) (w := w) (mg := mg) (base := base) F_p_fewest T R_changing ⟨_, _, O_p_check_net, k_p_check_net, b_p_check_net, g_p_check_net⟩ ⟨_, _, O_p_check_wishes, k_p_check_wishes, b_p_check_wishes, g_p_check_wishes⟩ ⟨_, _, O_p_moments_to_avoid, k_p_moments_to_avoid, b_p_moments_to_avoid, g_p_moments_to_avoid⟩ ⟨_, _, O_p_safe_rounds, k_p_safe_rounds, b_p_safe_rounds, g_p_safe_rounds⟩ ⟨_, _, O_p_round_numbers, k_p_round_numbers, b_p_round_numbers, g_p_round_numbers⟩ ⟨_, _, O_p_rounds_needed, k_p_rounds_needed, b_p_rounds_needed, g_p_rounds_needed⟩ ⟨_, _, O_p_plan_counts, k_p_plan_counts, b_p_plan_counts, g_p_plan_counts⟩ ⟨_, _, O_p_plan_with_place, k_p_plan_with_place, b_p_plan_with_place, g_p_plan_with_place⟩ m_sorted
  have O_p_is_number := ok_is_number (P := P) (w := w) (mg := mg) (base := base) F_p_is_number m_isinstance m_int m_bool
  have O_p_check_many := ok_chk_many (P := P) (w := w) (mg := mg) (base := base) F_p_check_many ⟨_, _, O_p_is_number, k_p_is_number, b_p_is_number, g_p_is_number⟩ w_MOST_ROUNDS
  have O_p_how_many := ok_how (P := P) (w := w) (mg := mg) (base := base) F_p_how_many T R_changing ⟨_, _, O_p_check_net, k_p_check_net, b_p_check_net, g_p_check_net⟩ ⟨_, _, O_p_check_wishes, k_p_check_wishes, b_p_check_wishes, g_p_check_wishes⟩ ⟨_, _, O_p_check_many, k_p_check_many, b_p_check_many, g_p_check_many⟩ ⟨_, _, O_p_moments_to_avoid, k_p_moments_to_avoid, b_p_moments_to_avoid, g_p_moments_to_avoid⟩ ⟨_, _, O_p_safe_rounds, k_p_safe_rounds, b_p_safe_rounds, g_p_safe_rounds⟩ ⟨_, _, O_p_plan_counts, k_p_plan_counts, b_p_plan_counts, g_p_plan_counts⟩
  exact ok_law F_law  ⟨_, _, O_s_begin, k_s_begin, b_s_begin, g_s_begin⟩ ⟨_, _, O_s_take, k_s_take, b_s_take, g_s_take⟩ ⟨_, _, O_s_names, k_s_names, b_s_names, g_s_names⟩ ⟨_, _, O_t_table, k_t_table, b_t_table, g_t_table⟩ ⟨_, _, O_s_made, k_s_made, b_s_made, g_s_made⟩ ⟨_, _, O_t_moved, k_t_moved, b_t_moved, g_t_moved⟩ ⟨_, _, O_t_row, k_t_row, b_t_row, g_t_row⟩ ⟨_, _, O_t_web, k_t_web, b_t_web, g_t_web⟩ ⟨_, _, O_t_ranks, k_t_ranks, b_t_ranks, g_t_ranks⟩ ⟨_, _, O_p_fewest, k_p_fewest, b_p_fewest, g_p_fewest⟩ ⟨_, _, O_p_how_many, k_p_how_many, b_p_how_many, g_p_how_many⟩ m_range m_min m_max m_len m_tuple m_sorted m_dict m_list
end Rw
end T_Z0

section T_YT
set_option Elab.async false
set_option linter.all false
set_option maxRecDepth 100000
set_option maxHeartbeats 2000000
namespace Rw
open PySem PySem.Spec PySem.Calls L2 PyProof.Rows LamX
theorem tabs_one {H : Hp} {P : Addr} {q : Str} (h : H P = some (.tbl #[])) : Tabs [(P, q)] H := fun p hp => by
  rw [List.mem_singleton.mp hp]
  exact TabS.nil h
/-- the end of a row whose program makes lambdas in one def, x0 -/
theorem walk_ofTT {l : PySem.W.OpenLaw} {n k : Nat} {q : Program} {loose : List Str} {XP : (Str → Option Value) → Heap → Prop} {YP : World → Heap → Prop} {d d0 : DefRec} {K : Params → PySem.W.Frag} {sp : PySem.W.Frag → Sp} {x x0 : Str} {c0 P0 : Addr}
    (most : l.most = some n) (small : n ≤ sizeLine) (nodef : d.params.defaults = []) (room : Room k callerA) (knows : ∀ (w : World) (h : Heap), YP w h → (K w.params).In h)
    (hr : (recsOf q).find? (fun e => e.name == x0) = some d0) (ht : ∀ w : World, PySem.W.tabIn (K w.params) x0 = some (c0, P0)) (nP : ∀ w : World, (K w.params).lookup P0 = none)
    (F : ∀ (w : World) (mg : Str → Option Value) (fa : Addr) (h : Heap), (K w.params).In h → h.Ns mainGlobals mg → mg d.name = some (.ref fa) →
      ∃ fd : FuncData, (∀ (s : Shared) (u : Value), BindsTo s fd ⟨[u], []⟩ [(x, u)]) ∧ ∀ base : Heap, (K w.params).In base → base.Ns mainGlobals mg → TabB base mg c0 P0 → FnOk l.prog w (K w.params) mg base CX0 k fa fd [x] (sp (K w.params)))
    (prom : ∀ (w : World) (H : Hp) (a : Addr) (ns : List Int), ns.length ≤ n → H P0 = some (.tbl #[]) → SqL (K w.params) H a (ns.map V.int) → sp (K w.params) [.ref a] H (fun v _ => v = .bl true) fun _ _ _ => False) :
    PySem.W.WalkO q loose XP YP l.row.toRowW d [] (fun f vs => PySem.call f vs) := by
  refine Att.attach_callB most nodef fun w s₀ s₁ mg mb fa o pm cd doc a vs ns G Y ho hd hcd hmg hobj hints hlen hbits hg => ?_
  have KX := knows w _ Y
  obtain ⟨C, hP⟩ := PySem.W.tab_of G.T KX hr (ht w)
  obtain ⟨fd, bind, all⟩ := F w mg fa _ KX G.T.g hmg
  exact law_callTs (CX := CX0) (sp := sp (K w.params)) (cs := [(c0, P0)]) KX G.T.g G.T.b G.T.builtins G.T.nolimit hg (fun p hp => by rw [List.mem_singleton.mp hp]; exact hP) (fun p hp => by rw [List.mem_singleton.mp hp]; exact nP w) (fun p hp => by rw [List.mem_singleton.mp hp]; exact C) G.T.bmain hobj hints (Nat.le_trans hlen small) room
    (fun base i j t => all base i j (t _ (List.mem_singleton.mpr rfl))) bind (fun H hH hS => prom w H a ns hlen (hH _ (List.mem_singleton.mpr rfl)) hS) fun H e s' h => h
end Rw
end T_YT

section T_Z1
set_option Elab.async false
set_option maxRecDepth 100000
open PySem PySem.W PyProof.Rows
set_option maxRecDepth 100000 in
set_option maxHeartbeats 0 in
theorem PySem.Challenge.cw_roundways_k36_whole_paths_in_closed_form_holds : PySem.Challenge.rw_roundways_k36_whole_paths_in_closed_form.Holds := by
  w_on; o_law; k_head; (case hw => w_witness2)
  k_fill
  refine' Rw.walk_ofTT (l := PySem.Challenge.rw_roundways_k36_whole_paths_in_closed_form) (n := 63) (k := 10) (x := "script") (x0 := "parts_of") (c0 := ?c0) (P0 := ?P0) (d0 := ?d0) (sp := fun K => Rw.spLaw K [(?P0, ("parts_of.<locals>.<lambda>" : Str))]) rfl (by decide) rfl ⟨rfl, by decide, by decide⟩ (fun w h Y => PySem.W.km_in_of Y) ?hr ?ht ?nP ?F (fun w H a ns few hH hS => ⟨a, ns, rfl, hS, few, Rw.tabs_one hH, fun _ => rfl⟩)
  case hr => rfl
  case ht => intro w; rfl
  case nP => intro w; rfl
  case F =>
    intro w mg fa h KX G hmg
    refine' Rw.all_mk KX G hmg ?aC ?a_s_begin ?l_s_begin ?c_s_begin ?k_s_begin ?a_s_blend ?l_s_blend ?c_s_blend ?k_s_blend ?a_s_take ?l_s_take ?c_s_take ?k_s_take ?a_s_pick ?l_s_pick ?c_s_pick ?k_s_pick ?a_s_mixed ?l_s_mixed ?c_s_mixed ?k_s_mixed ?a_s_names ?l_s_names ?c_s_names ?k_s_names ?a_s_made ?l_s_made ?c_s_made ?k_s_made ?a_t_table ?l_t_table ?c_t_table ?k_t_table ?a_t_moved ?l_t_moved ?c_t_moved ?k_t_moved ?a_t_row ?l_t_row ?c_t_row ?k_t_row ?a_t_web ?l_t_web ?c_t_web ?k_t_web ?a_t_ranks ?l_t_ranks ?c_t_ranks ?k_t_ranks ?a_p_is_list ?l_p_is_list ?c_p_is_list ?k_p_is_list ?a_p_is_name ?l_p_is_name ?c_p_is_name ?k_p_is_name ?a_p_is_place ?l_p_is_place ?c_p_is_place ?k_p_is_place ?a_p_is_table ?l_p_is_table ?c_p_is_table ?k_p_is_table ?a_p_are_different ?l_p_are_different ?c_p_are_different ?k_p_are_different ?a_p_are_nodes ?l_p_are_nodes ?c_p_are_nodes ?k_p_are_nodes ?a_p_is_pair_of_dicts ?l_p_is_pair_of_dicts ?c_p_is_pair_of_dicts ?k_p_is_pair_of_dicts ?a_p_are_tables ?l_p_are_tables ?c_p_are_tables ?k_p_are_tables ?a_p_check_net ?l_p_check_net ?c_p_check_net ?k_p_check_net ?a_g_goals ?ge_g_goals ?ta_g_goals ?re_g_goals ?l_g_goals ?c_g_goals ?k_g_goals ?a_g_nodes ?ge_g_nodes ?ta_g_nodes ?re_g_nodes ?l_g_nodes ?c_g_nodes ?k_g_nodes ?a_g_changing ?ge_g_changing ?ta_g_changing ?re_g_changing ?l_g_changing ?c_g_changing ?k_g_changing ?a_p_is_number ?l_p_is_number ?c_p_is_number ?k_p_is_number ?a_p_followed ?l_p_followed ?c_p_followed ?k_p_followed ?a_p_ways_at ?l_p_ways_at ?c_p_ways_at ?k_p_ways_at ?a_p_joined ?l_p_joined ?c_p_joined ?k_p_joined ?a_p_parts_of ?l_p_parts_of ?c_p_parts_of ?k_p_parts_of ?a_p_starts ?l_p_starts ?c_p_starts ?k_p_starts ?a_p_breaks ?l_p_breaks ?c_p_breaks ?k_p_breaks ?a_p_posts_passed ?l_p_posts_passed ?c_p_posts_passed ?k_p_posts_passed ?a_p_passed_with ?l_p_passed_with ?c_p_passed_with ?k_p_passed_with ?a_p_fault_at ?l_p_fault_at ?c_p_fault_at ?k_p_fault_at ?a_p_check_wishes ?l_p_check_wishes ?c_p_check_wishes ?k_p_check_wishes ?a_p_broken_moments ?l_p_broken_moments ?c_p_broken_moments ?k_p_broken_moments ?a_p_moments_to_avoid ?l_p_moments_to_avoid ?c_p_moments_to_avoid ?k_p_moments_to_avoid ?a_p_safe_rounds ?l_p_safe_rounds ?c_p_safe_rounds ?k_p_safe_rounds ?a_p_round_numbers ?l_p_round_numbers ?c_p_round_numbers ?k_p_round_numbers ?a_p_rounds_needed ?l_p_rounds_needed ?c_p_rounds_needed ?k_p_rounds_needed ?a_p_plan_counts ?l_p_plan_counts ?c_p_plan_counts ?k_p_plan_counts ?a_p_plan_with_place ?l_p_plan_with_place ?c_p_plan_with_place ?k_p_plan_with_place ?a_p_fewest ?l_p_fewest ?c_p_fewest ?k_p_fewest ?a_p_check_many ?l_p_check_many ?c_p_check_many ?k_p_check_many ?a_p_how_many ?l_p_how_many ?c_p_how_many ?k_p_how_many ?a_g_tables ?ge_g_tables ?ta_g_tables ?re_g_tables ?l_g_tables ?c_g_tables ?k_g_tables ?a_g_sources ?ge_g_sources ?ta_g_sources ?re_g_sources ?l_g_sources ?c_g_sources ?k_g_sources ?a_g_posts ?ge_g_posts ?ta_g_posts ?re_g_posts ?l_g_posts ?c_g_posts ?k_g_posts ?a_law ?l_law ?c_law ?k_law ?aI ?iI ?lI ?cI ?kI ?lT ?pg ?hd ?po ?sa ?mk ?kc ?nT_ ?nN_ ?nS_ ?nP_ ?ha ?hn ?hk ?hm ?v_MOST_POSTS ?v_MOST_NODES ?v_MOST_GOALS ?v_MOST_LETTERS ?v_MOST_ROUNDS ?v_WISHES ?lW ?z_int ?z_len ?z_abs ?z_list ?z_dict ?z_sorted ?z_range ?z_isinstance ?z_str ?z_tuple ?z_all ?z_any ?z_set ?z_enumerate ?z_min ?z_repr ?z_max ?z_reversed ?z_sum ?z_bool
    (case aC => k_is); (case a_s_begin => k_is); (case l_s_begin => k_is); (case c_s_begin => k_is); (case k_s_begin => k_is); (case a_s_blend => k_is)
    (case l_s_blend => k_is); (case c_s_blend => k_is); (case k_s_blend => k_is); (case a_s_take => k_is); (case l_s_take => k_is); (case c_s_take => k_is)
    (case k_s_take => k_is); (case a_s_pick => k_is); (case l_s_pick => k_is); (case c_s_pick => k_is); (case k_s_pick => k_is); (case a_s_mixed => k_is)
    (case l_s_mixed => k_is); (case c_s_mixed => k_is); (case k_s_mixed => k_is); (case a_s_names => k_is); (case l_s_names => k_is); (case c_s_names => k_is)
    (case k_s_names => k_is); (case a_s_made => k_is); (case l_s_made => k_is); (case c_s_made => k_is); (case k_s_made => k_is); (case a_t_table => k_is)
    (case l_t_table => k_is); (case c_t_table => k_is); (case k_t_table => k_is); (case a_t_moved => k_is); (case l_t_moved => k_is); (case c_t_moved => k_is)
    (case k_t_moved => k_is); (case a_t_row => k_is); (case l_t_row => k_is); (case c_t_row => k_is); (case k_t_row => k_is); (case a_t_web => k_is)
    (case l_t_web => k_is); (case c_t_web => k_is); (case k_t_web => k_is); (case a_t_ranks => k_is); (case l_t_ranks => k_is); (case c_t_ranks => k_is)
    (case k_t_ranks => k_is); (case a_p_is_list => k_is); (case l_p_is_list => k_is); (case c_p_is_list => k_is); (case k_p_is_list => k_is); (case a_p_is_name => k_is)
    (case l_p_is_name => k_is); (case c_p_is_name => k_is); (case k_p_is_name => k_is); (case a_p_is_place => k_is); (case l_p_is_place => k_is); (case c_p_is_place => k_is)
    (case k_p_is_place => k_is); (case a_p_is_table => k_is); (case l_p_is_table => k_is); (case c_p_is_table => k_is); (case k_p_is_table => k_is); (case a_p_are_different => k_is)
    (case l_p_are_different => k_is); (case c_p_are_different => k_is); (case k_p_are_different => k_is); (case a_p_are_nodes => k_is); (case l_p_are_nodes => k_is); (case c_p_are_nodes => k_is)
    (case k_p_are_nodes => k_is); (case a_p_is_pair_of_dicts => k_is); (case l_p_is_pair_of_dicts => k_is); (case c_p_is_pair_of_dicts => k_is); (case k_p_is_pair_of_dicts => k_is); (case a_p_are_tables => k_is)
    (case l_p_are_tables => k_is); (case c_p_are_tables => k_is); (case k_p_are_tables => k_is); (case a_p_check_net => k_is); (case l_p_check_net => k_is); (case c_p_check_net => k_is)
    (case k_p_check_net => k_is); (case a_g_goals => k_is); (case ge_g_goals => k_is); (case ta_g_goals => k_is); (case re_g_goals => k_is); (case l_g_goals => k_is)
    (case c_g_goals => k_is); (case k_g_goals => k_is); (case a_g_nodes => k_is); (case ge_g_nodes => k_is); (case ta_g_nodes => k_is); (case re_g_nodes => k_is)
    (case l_g_nodes => k_is); (case c_g_nodes => k_is); (case k_g_nodes => k_is); (case a_g_changing => k_is); (case ge_g_changing => k_is); (case ta_g_changing => k_is)
    (case re_g_changing => k_is); (case l_g_changing => k_is); (case c_g_changing => k_is); (case k_g_changing => k_is); (case a_p_is_number => k_is); (case l_p_is_number => k_is)
    (case c_p_is_number => k_is); (case k_p_is_number => k_is); (case a_p_followed => k_is); (case l_p_followed => k_is); (case c_p_followed => k_is); (case k_p_followed => k_is)
    (case a_p_ways_at => k_is); (case l_p_ways_at => k_is); (case c_p_ways_at => k_is); (case k_p_ways_at => k_is); (case a_p_joined => k_is); (case l_p_joined => k_is)
    (case c_p_joined => k_is); (case k_p_joined => k_is); (case a_p_parts_of => k_is); (case l_p_parts_of => k_is); (case c_p_parts_of => k_is); (case k_p_parts_of => k_is)
    (case a_p_starts => k_is); (case l_p_starts => k_is); (case c_p_starts => k_is); (case k_p_starts => k_is); (case a_p_breaks => k_is); (case l_p_breaks => k_is)
    (case c_p_breaks => k_is); (case k_p_breaks => k_is); (case a_p_posts_passed => k_is); (case l_p_posts_passed => k_is); (case c_p_posts_passed => k_is); (case k_p_posts_passed => k_is)
    (case a_p_passed_with => k_is); (case l_p_passed_with => k_is); (case c_p_passed_with => k_is); (case k_p_passed_with => k_is); (case a_p_fault_at => k_is); (case l_p_fault_at => k_is)
    (case c_p_fault_at => k_is); (case k_p_fault_at => k_is); (case a_p_check_wishes => k_is); (case l_p_check_wishes => k_is); (case c_p_check_wishes => k_is); (case k_p_check_wishes => k_is)
    (case a_p_broken_moments => k_is); (case l_p_broken_moments => k_is); (case c_p_broken_moments => k_is); (case k_p_broken_moments => k_is); (case a_p_moments_to_avoid => k_is); (case l_p_moments_to_avoid => k_is)
    (case c_p_moments_to_avoid => k_is); (case k_p_moments_to_avoid => k_is); (case a_p_safe_rounds => k_is); (case l_p_safe_rounds => k_is); (case c_p_safe_rounds => k_is); (case k_p_safe_rounds => k_is)
    (case a_p_round_numbers => k_is); (case l_p_round_numbers => k_is); (case c_p_round_numbers => k_is); (case k_p_round_numbers => k_is); (case a_p_rounds_needed => k_is); (case l_p_rounds_needed => k_is)
    (case c_p_rounds_needed => k_is); (case k_p_rounds_needed => k_is); (case a_p_plan_counts => k_is); (case l_p_plan_counts => k_is); (case c_p_plan_counts => k_is); (case k_p_plan_counts => k_is)
    (case a_p_plan_with_place => k_is); (case l_p_plan_with_place => k_is); (case c_p_plan_with_place => k_is); (case k_p_plan_with_place => k_is); (case a_p_fewest => k_is); (case l_p_fewest => k_is)
    (case c_p_fewest => k_is); (case k_p_fewest => k_is); (case a_p_check_many => k_is); (case l_p_check_many => k_is); (case c_p_check_many => k_is); (case k_p_check_many => k_is)
    (case a_p_how_many => k_is); (case l_p_how_many => k_is); (case c_p_how_many => k_is); (case k_p_how_many => k_is); (case a_g_tables => k_is); (case ge_g_tables => k_is)
    (case ta_g_tables => k_is); (case re_g_tables => k_is); (case l_g_tables => k_is); (case c_g_tables => k_is); (case k_g_tables => k_is); (case a_g_sources => k_is)
    (case ge_g_sources => k_is); (case ta_g_sources => k_is); (case re_g_sources => k_is); (case l_g_sources => k_is); (case c_g_sources => k_is); (case k_g_sources => k_is)
    (case a_g_posts => k_is); (case ge_g_posts => k_is); (case ta_g_posts => k_is); (case re_g_posts => k_is); (case l_g_posts => k_is); (case c_g_posts => k_is)
    (case k_g_posts => k_is); (case a_law => k_is); (case l_law => k_is); (case c_law => k_is); (case k_law => k_is); (case aI => k_is)
    (case iI => k_is); (case lI => k_is); (case cI => k_is); (case kI => k_is); (case lT => k_is); (case pg => k_is)
    (case hd => k_is); (case po => k_is); (case sa => k_is); (case mk => k_is); (case kc => k_is); (case nT_ => k_is)
    (case nN_ => k_is); (case nS_ => k_is); (case nP_ => k_is); (case ha => k_is); (case hn => k_is); (case hk => k_is)
    (case hm => k_is); (case v_MOST_POSTS => k_is); (case v_MOST_NODES => k_is); (case v_MOST_GOALS => k_is); (case v_MOST_LETTERS => k_is); (case v_MOST_ROUNDS => k_is)
    (case v_WISHES => k_is); (case lW => k_is); (case z_int => k_is); (case z_len => k_is); (case z_abs => k_is); (case z_list => k_is)
    (case z_dict => k_is); (case z_sorted => k_is); (case z_range => k_is); (case z_isinstance => k_is); (case z_str => k_is); (case z_tuple => k_is)
    (case z_all => k_is); (case z_any => k_is); (case z_set => k_is); (case z_enumerate => k_is); (case z_min => k_is); (case z_repr => k_is)
    (case z_max => k_is); (case z_reversed => k_is); (case z_sum => k_is); (case z_bool => k_is)
end T_Z1
