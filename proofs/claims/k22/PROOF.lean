import PyProof.Rows.All
import Wide.All
import OpenK.AllK
import Wide.FinOn
import HandS.ForMost
import HandS.Codes
import HandS.Evl
import HandS.Walk
import HandS.More
import HandS.Property
import HandS.DictComp
import HandS.Strs
import HandS.Zip
import HandS.IsInst
import HandS.Conv
import PySem.Challenge.RW_roundways_k22_shown_by_any_hand
import HandS.Set
import HandS.SetFor
import KE.KDictCopyH
import HandS.Defaults
import HandS.NoneIn
import HandS.Star
import HandS.DictTup
import HandS.SortRule
import KE.KSortKey
import HandS.Lambda
import HandS.TupAny
import HandS.Deep
section T_D0
set_option Elab.async false
set_option linter.all false
set_option maxRecDepth 100000
set_option maxHeartbeats 4000000
namespace Rw
open PySem L2 PyProof.Rows
/-! ### ints as data -/
theorem dp_ints {K : PySem.W.Frag} {H : Hp} : ∀ ns : List Int, DpAll K H (ns.map V.int) (ns.map PyData.int)
  | [] => .nil
  | n :: r => .cons (.int n) (dp_ints r)
theorem canlay_ints : ∀ ns : List Int, PyData.canLayAll0 (ns.map PyData.int) = true
  | [] => rfl
  | n :: r => by
    show (PyData.canLay0 (.int n) && PyData.canLayAll0 (r.map PyData.int)) = true
    rw [canlay_ints r]
    rfl
theorem depth_ints : ∀ ns : List Int, PyData.depthAll (ns.map PyData.int) = 0
  | [] => rfl
  | n :: r => by
    show max (PyData.depth (.int n)) (PyData.depthAll (r.map PyData.int)) = 0
    rw [depth_ints r]
    rfl
theorem shaped_ints (ns : List Int) : SeqAt.shaped (.list (ns.map PyData.int)) = true := by
  unfold SeqAt.shaped
  rw [show PyData.canLay0 (.list (ns.map PyData.int)) = PyData.canLayAll0 (ns.map PyData.int) from rfl, canlay_ints,
    show PyData.depth (.list (ns.map PyData.int)) = PyData.depthAll (ns.map PyData.int) + 1 from rfl, depth_ints]
  rfl
theorem eqv_nil (ns : List Int) : PyData.eqv (.list (ns.map PyData.int)) (.list []) = ns.isEmpty := by
  cases ns <;> rfl
/-! ### the draws: at d the dict, at g what is great, at c the cells -/
def dkv (g c : Addr) (r t : Int) : List (Key × V) := [(.inr "great", .ref g), (.inr "rest", .int r), (.inr "cells", .ref c), (.inr "turn", .int t)]
theorem dkv_great (g c : Addr) (r t : Int) : valV (dkv g c r t) (.inr "great") = some (.ref g) := by kernel_rfl
theorem dkv_rest (g c : Addr) (r t : Int) : valV (dkv g c r t) (.inr "rest") = some (.int r) := by kernel_rfl
theorem dkv_cells (g c : Addr) (r t : Int) : valV (dkv g c r t) (.inr "cells") = some (.ref c) := by kernel_rfl
theorem dkv_turn (g c : Addr) (r t : Int) : valV (dkv g c r t) (.inr "turn") = some (.int t) := by kernel_rfl
theorem dkv_put_rest (g c : Addr) (r t x : Int) : putK (dkv g c r t) (.inr "rest") (.int x) = dkv g c x t := by kernel_rfl
theorem dkv_put_turn (g c : Addr) (r t x : Int) : putK (dkv g c r t) (.inr "turn") (.int x) = dkv g c r x := by kernel_rfl
structure DrawAt (H : Hp) (d g c : Addr) : Prop where
  ex : ∃ r t : Int, H d = some (.dK (dkv g c r t))
  gl : ∃ gs : List Int, H g = some (.lst (gs.map V.int))
  cl : ∃ cs : List Int, H c = some (.lst (cs.map V.int))
  ne : c ≠ g
/-- what stood stands, but at d and g -/
def SameD (d g : Addr) (H H' : Hp) : Prop := ∀ a o, H a = some o → a ≠ d → a ≠ g → H' a = some o
/-! ### the heap without the draws -/
def off (d g : Addr) (H : Hp) : Hp := fun a => if a = d ∨ a = g then none else H a
theorem off_some {d g : Addr} {H : Hp} {a : Addr} {o : HO} (h : off d g H a = some o) : a ≠ d ∧ a ≠ g ∧ H a = some o := by
  unfold off at h
  by_cases e : a = d ∨ a = g
  · rw [if_pos e] at h; cases h
  · rw [if_neg e] at h; exact ⟨fun z => e (.inl z), fun z => e (.inr z), h⟩
theorem off_of {d g : Addr} {H : Hp} {a : Addr} {o : HO} (h : H a = some o) (h1 : a ≠ d) (h2 : a ≠ g) : off d g H a = some o := by
  unfold off
  rw [if_neg (fun z => z.elim h1 h2)]
  exact h
theorem off_free {d g : Addr} {H : Hp} {a : Addr} (h : H a = none) : off d g H a = none := by
  unfold off
  by_cases e : a = d ∨ a = g
  · rw [if_pos e]
  · rw [if_neg e]; exact h
theorem ex_off (d g : Addr) (H : Hp) : Evl.Ex (off d g H) H := fun a o h => (off_some h).2.2
theorem off_ex {d g : Addr} {H H' : Hp} (e : Evl.Ex H H') : Evl.Ex (off d g H) (off d g H') := fun a o h => off_of (e a o (off_some h).2.2) (off_some h).1 (off_some h).2.1
theorem off_same {d g : Addr} {H H' : Hp} (e : SameD d g H H') : Evl.Ex (off d g H) (off d g H') := fun a o h => off_of (e a o (off_some h).2.2 (off_some h).1 (off_some h).2.1) (off_some h).1 (off_some h).2.1
theorem DrawAt.ext {H H' : Hp} {d g c : Addr} (D : DrawAt H d g c) (e : Evl.Ex H H') : DrawAt H' d g c := by
  obtain ⟨⟨r, t, hd⟩, ⟨gs, hg⟩, ⟨cs, hc⟩, ne⟩ := D
  exact ⟨⟨r, t, e _ _ hd⟩, ⟨gs, e _ _ hg⟩, ⟨cs, e _ _ hc⟩, ne⟩
theorem DrawAt.new {H : Hp} {d g c p : Addr} {o : HO} (D : DrawAt H d g c) (h : H p = none) : DrawAt (upd H p o) d g c := D.ext (Evl.Ex.new h)
theorem DrawAt.ned {H : Hp} {d g c p : Addr} (D : DrawAt H d g c) (h : H p = none) : p ≠ d ∧ p ≠ g ∧ p ≠ c := by
  obtain ⟨⟨r, t, hd⟩, ⟨gs, hg⟩, ⟨cs, hc⟩, ne⟩ := D
  exact ⟨(ne_of_none hd h).symm, (ne_of_none hg h).symm, (ne_of_none hc h).symm⟩
/-- a new object of one's own, behind changes of others -/
theorem off_mut {d g : Addr} {H H' : Hp} {p : Addr} {o : HO} (e : Evl.Ex H (off d g H')) (h : H p = none) : Evl.Ex H (off d g (upd H' p o)) := fun a u ha => by
  have z := off_some (e a u ha)
  exact off_of (by rw [upd_ne (ne_of_none ha h)]; exact z.2.2) z.1 z.2.1
theorem DrawAt.mut {H : Hp} {d g c p : Addr} {o : HO} (D : DrawAt H d g c) (h1 : p ≠ d) (h2 : p ≠ g) (h3 : p ≠ c) : DrawAt (upd H p o) d g c := by
  obtain ⟨⟨r, t, hd⟩, ⟨gs, hg⟩, ⟨cs, hc⟩, ne⟩ := D
  exact ⟨⟨r, t, by rw [upd_ne h1.symm]; exact hd⟩, ⟨gs, by rw [upd_ne h2.symm]; exact hg⟩, ⟨cs, by rw [upd_ne h3.symm]; exact hc⟩, ne⟩
theorem ps_never {X : Cx} {st : Stmt} : PS X st (fun _ _ _ => False) := ⟨fun _ _ _ _ _ _ h => h.elim⟩
theorem pe_never {X : Cx} {e : Expr} : PE X e (fun _ _ _ => False) := ⟨fun _ _ _ _ _ _ h => h.elim⟩
theorem yes_if {σ : L2.St} {H : Hp} {F G : Hp → Prop} (h : F H) : tYes σ H (fun b H3 => if b = true then F H3 else G H3) := by
  show if true = true then F H else G H
  rw [if_pos rfl]
  exact h
/-! ### data -/
mutual
theorem dp_ex {K : PySem.W.Frag} {H H' : Hp} (e : Evl.Ex H H') : ∀ (d : PyData) (v : V), Dp K H v d → Dp K H' v d
  | .none, _, h => by cases h; exact .non
  | .bool b, _, h => by cases h; exact .bl b
  | .int i, _, h => by cases h; exact .int i
  | .str x, _, h => by cases h; exact .str x
  | .list ds, _, h => by cases h with | lst hq hd => exact .lst (Evl.ex_l e hq) (dpa_ex e ds _ hd)
  | .tuple ds, _, h => by cases h with | tup hq hd => exact .tup (Evl.ex_t e hq) (dpa_ex e ds _ hd)
  | .dict _, _, h => by cases h
theorem dpa_ex {K : PySem.W.Frag} {H H' : Hp} (e : Evl.Ex H H') : ∀ (ds : List PyData) (vs : List V), DpAll K H vs ds → DpAll K H' vs ds
  | [], _, h => by cases h; exact .nil
  | d :: ds, _, h => by cases h with | cons h1 h2 => exact .cons (dp_ex e d _ h1) (dpa_ex e ds _ h2)
end
/-- a value that is data, not deep -/
def DataV (K : PySem.W.Frag) (H : Hp) (v : V) : Prop := ∃ d : PyData, Dp K H v d ∧ d.canLay0 = true ∧ d.depth ≤ 60
theorem DataV.ex {K : PySem.W.Frag} {H H' : Hp} {v : V} (h : DataV K H v) (e : Evl.Ex H H') : DataV K H' v := by
  obtain ⟨d, h1, h2⟩ := h
  exact ⟨d, dp_ex e d v h1, h2⟩
theorem data_all {K : PySem.W.Frag} {H : Hp} : ∀ vs : List V, (∀ v ∈ vs, DataV K H v) → ∃ ds : List PyData, DpAll K H vs ds ∧ PyData.canLayAll0 ds = true ∧ PyData.depthAll ds ≤ 60 ∧ ds.length = vs.length
  | [], _ => ⟨[], .nil, rfl, Nat.zero_le _, rfl⟩
  | v :: vs, h => by
    obtain ⟨d, h1, h2, h3⟩ := h v List.mem_cons_self
    obtain ⟨ds, g1, g2, g3, g4⟩ := data_all vs fun u hu => h u (List.mem_cons_of_mem _ hu)
    refine ⟨d :: ds, .cons h1 g1, ?_, ?_, by simp [g4]⟩
    · show (d.canLay0 && PyData.canLayAll0 ds) = true
      rw [h2, g2]
      rfl
    · show max d.depth (PyData.depthAll ds) ≤ 60
      omega
theorem data_list {K : PySem.W.Frag} {H : Hp} {a : Addr} {vs : List V} (hS : SqL K H a vs) (h : ∀ v ∈ vs, DataV K H v) : ∃ d : PyData, Dp K H (.ref a) d ∧ SeqAt.shaped d = true ∧ PyData.eqv d (.list []) = vs.isEmpty := by
  obtain ⟨ds, g1, g2, g3, g4⟩ := data_all vs h
  refine ⟨.list ds, .lst hS g1, ?_, ?_⟩
  · unfold SeqAt.shaped
    rw [show PyData.canLay0 (.list ds) = PyData.canLayAll0 ds from rfl, g2, show PyData.depth (.list ds) = PyData.depthAll ds + 1 from rfl]
    exact decide_eq_true (show PyData.depthAll ds + 1 ≤ 64 by omega)
  · cases vs with
    | nil =>
      cases ds with
      | nil => rfl
      | cons _ _ => simp at g4
    | cons _ _ =>
      cases ds with
      | nil => simp at g4
      | cons _ _ => rfl
theorem strV_data {K : PySem.W.Frag} {H : Hp} {z : Str} (h : PyData.strOk z = true) : DataV K H (.str z) := ⟨.str z, .str z, h, Nat.zero_le _⟩
/-! ### what the draws promise -/
def spBlend : Sp := fun vs H Q _ => ∃ (d g c : Addr), vs = [.ref d] ∧ DrawAt H d g c ∧ ∀ (n : Int) (H' : Hp), DrawAt H' d g c → SameD d g H H' → Q (.int n) H'
def spTake : Sp := fun vs H Q _ => ∃ (d g c : Addr) (n : Int), vs = [.ref d, .int n] ∧ 0 < n ∧ n < 2 ^ 30 ∧ DrawAt H d g c ∧ ∀ (k : Int) (H' : Hp), 0 ≤ k → k < n → DrawAt H' d g c → Evl.Ex (off d g H) (off d g H') → Q (.int k) H'
/-- one of a list's items -/
def spPickL (K : PySem.W.Frag) : Sp := fun vs H Q _ => ∃ (d g c a : Addr) (xs : List V), vs = [.ref d, .ref a] ∧ DrawAt H d g c ∧ SqL K (off d g H) a xs ∧ 0 < xs.length ∧ xs.length < 2 ^ 30 ∧
  ∀ (i : Nat) (v : V) (H' : Hp), xs[i]? = some v → DrawAt H' d g c → Evl.Ex (off d g H) (off d g H') → Q v H'
/-- one of a text's signs -/
def spPickS : Sp := fun vs H Q _ => ∃ (d g c : Addr) (z : Str), vs = [.ref d, .str z] ∧ DrawAt H d g c ∧ 0 < z.length ∧ z.length ≤ 1000 ∧
  ∀ (i ch : Nat) (H' : Hp), z.cps.toList[i]? = some ch → DrawAt H' d g c → Evl.Ex (off d g H) (off d g H') → Q (.str ⟨#[ch]⟩) H'
/-- a list's or tuple's items in some order, a new list -/
def spMixed (K : PySem.W.Frag) : Sp := fun vs H Q _ => ∃ (d g c a : Addr) (xs : List V), vs = [.ref d, .ref a] ∧ DrawAt H d g c ∧ (SqL K (off d g H) a xs ∨ SqT K (off d g H) a xs) ∧ xs.length ≤ 1000 ∧ (∀ v ∈ xs, DataV K (off d g H) v) ∧
  ∀ (p : Addr) (ys : List V) (H' : Hp), ys.Perm xs → DrawAt H' d g c → Evl.Ex (off d g H) (off d g H') → H p = none → off d g H' p = some (.lst ys) → Q (.ref p) H'
def spBegin (K : PySem.W.Frag) : Sp := fun vs H Q _ => ∃ (a : Addr) (ns : List Int), vs = [.ref a] ∧ SqL K H a (ns.map V.int) ∧ ns.length ≤ 63 ∧
  ∀ (d g c : Addr) (H' : Hp), DrawAt H' d g c → Evl.Ex H (off d g H') → Q (.ref d) H'
end Rw
end T_D0

section T_T0
set_option Elab.async false
set_option linter.all false
set_option maxRecDepth 100000
namespace Rw
open PySem L2 PyProof.Rows
def topS (i : Nat) : Stmt := PySem.Challenge.pw_roundways_k22_shown_by_any_hand.main.body.getD i (.Pass ⟨0, 0, 0, 0⟩)
abbrev p_wall : Stmt := topS 0
abbrev p_copied : Stmt := topS 2
abbrev c_BadNet_init : Stmt := inClass (topS 4) 0
abbrev c_NoGoal_init : Stmt := inClass (topS 5) 0
abbrev c_NoNode_init : Stmt := inClass (topS 6) 0
abbrev c_BadLot_init : Stmt := inClass (topS 7) 0
abbrev c_Net_init : Stmt := inClass (topS 14) 0
abbrev c_Net_eq : Stmt := inClass (topS 14) 1
abbrev c_Net_tables : Stmt := inClass (topS 14) 2
abbrev c_Net_goals : Stmt := inClass (topS 14) 3
abbrev c_Net_nodes : Stmt := inClass (topS 14) 4
abbrev c_Net_sources : Stmt := inClass (topS 14) 5
abbrev c_Net_posts : Stmt := inClass (topS 14) 6
abbrev c_Net_changing : Stmt := inClass (topS 14) 7
abbrev c_Net_way : Stmt := inClass (topS 14) 8
abbrev c_Net_turned : Stmt := inClass (topS 14) 9
abbrev c_Net_with_way : Stmt := inClass (topS 14) 10
abbrev p_followed : Stmt := topS 15
abbrev p_check_net : Stmt := topS 16
abbrev p_check_goal : Stmt := topS 17
abbrev p_check_node : Stmt := topS 18
abbrev p_is_list : Stmt := topS 19
abbrev p_is_number : Stmt := topS 20
abbrev p_is_name : Stmt := topS 21
abbrev p_is_place : Stmt := topS 22
abbrev p_are_different : Stmt := topS 23
abbrev p_are_nodes : Stmt := topS 24
abbrev p_are_tables : Stmt := topS 25
abbrev p_is_pair_of_dicts : Stmt := topS 26
abbrev p_is_table : Stmt := topS 27
abbrev p_ways : Stmt := topS 29
abbrev p_ways_at : Stmt := topS 30
abbrev p_nodes_behind : Stmt := topS 31
abbrev p_check_lot : Stmt := topS 32
abbrev p_check_round : Stmt := topS 33
abbrev p_is_lot_of : Stmt := topS 34
abbrev p_is_count : Stmt := topS 35
abbrev p_is_shown : Stmt := topS 38
abbrev p_is_fault : Stmt := topS 39
abbrev p_starts : Stmt := topS 40
abbrev p_breaks : Stmt := topS 41
abbrev p_posts_passed : Stmt := topS 42
abbrev p_passed_with : Stmt := topS 43
abbrev p_are_papers : Stmt := topS 44
abbrev p_is_paper : Stmt := topS 45
abbrev p_fits : Stmt := topS 46
abbrev p_check_wish : Stmt := topS 47
abbrev s_begin : Stmt := topS 49
abbrev s_blend : Stmt := topS 50
abbrev s_take : Stmt := topS 51
abbrev s_pick : Stmt := topS 52
abbrev s_mixed : Stmt := topS 53
abbrev s_names : Stmt := topS 54
abbrev s_table : Stmt := topS 55
abbrev s_model : Stmt := topS 56
abbrev s_made : Stmt := topS 57
abbrev s_moved : Stmt := topS 58
abbrev s_parts : Stmt := topS 59
abbrev s_row : Stmt := topS 60
abbrev s_is_passed : Stmt := topS 61
abbrev s_is_bad : Stmt := topS 62
abbrev s_some : Stmt := topS 63
abbrev s_rest : Stmt := topS 64
abbrev s_web : Stmt := topS 65
abbrev s_next : Stmt := topS 66
abbrev s_is_paper : Stmt := topS 67
abbrev s_is_moment : Stmt := topS 68
abbrev s_is_shown : Stmt := topS 69
abbrev s_ranks : Stmt := topS 70
abbrev s_near : Stmt := topS 71
abbrev s_least : Stmt := topS 72
abbrev s_own_paper : Stmt := topS 73
abbrev s_is_count : Stmt := topS 74
abbrev s_greater : Stmt := topS 75
abbrev s_moments : Stmt := topS 76
abbrev s_law : Stmt := topS 77
end Rw
end T_T0

section T_D1
set_option Elab.async false
set_option linter.all false
set_option maxRecDepth 100000
set_option maxHeartbeats 4000000
namespace Rw
open PySem L2 PyProof.Rows
section
variable {P : Program} {w : World} {K : PySem.W.Frag} {mg : Str → Option Value} {base : Heap}
theorem sc_blend : FnScope ["draw", "turn", "found", "prime", "blend", "cell"] ["draw"] (defScope s_blend) := ⟨rfl, rfl, rfl, by decide +kernel, rfl, by decide +kernel, by decide +kernel⟩
theorem ok_blend {f : Addr} {fd : FuncData} (F : Fun K "_law_blend" "_law_blend" s_blend f fd) (mInt : mg "int" = none) : FnOk P w K mg base CX0 1 f fd ["draw"] spBlend := by
  refine F.ok sc_blend (fun vs H Q E h => ?_) (fun cdv A outer s H vs Q E hr h => ?_)
  · obtain ⟨d, g, c, rfl, _⟩ := h
    rfl
  · obtain ⟨d, g, c, rfl, D, k⟩ := h
    have hu := hu_of hr
    have nd := sc_blend.nd
    refine ⟨_, pss_cons (ps_set (i := 1) nd rfl (.inl rfl) (pe_op op_add (pe_dget hu (pv 0) pe_str (fun _ _ => rfl)) pe_int))
      (pss_cons (ps_dput hu (pv 0) pe_str (pv 1) rfl)
      (pss_cons (ps_set (i := 2) nd rfl (.inl rfl) pe_int)
      (pss_cons (ps_for PassesOwn.never rfl (pi_list (pe_lst (pa_cons pe_int (pa_cons pe_int (pa_cons pe_int (pa_cons pe_int pa_nil)))))) (pg_name (i := 3) nd rfl (.inl rfl))
        (pss_cons (ps_set (i := 4) nd rfl (.inl rfl) (pe_op op_mod (pe_callTy call_int1 (by rfl) mInt boot_int (pa_cons (pe_op op_add (pe_op op_mul (pv 1) pe_int) (pe_op op_fdiv (pv 3) pe_int)) pa_nil)) (pv 3)))
        (pss_cons (ps_for PassesOwn.never rfl (pi_list (pe_dget hu (pv 0) pe_str (fun _ _ => rfl))) (pg_name (i := 5) nd rfl (.inl rfl))
          (pss_one (ps_set (i := 4) nd rfl (.inl rfl) (pe_op op_mod (pe_callTy call_int1 (by rfl) mInt boot_int (pa_cons (pe_op op_add (pe_op op_mul (pv 4) pe_int) (pv 5)) pa_nil)) (pv 3)))))
        (pss_one (ps_set (i := 2) nd rfl (.inl rfl) (pe_op op_add (pe_op op_mul (pv 2) pe_int) (pe_op op_mod (pe_callTy call_int1 (by rfl) mInt boot_int (pa_cons (pe_op op_pow (pv 4) pe_int) pa_nil)) (pv 3))))))))
      (pss_one (ps_ret (pv 2)))))), ?_⟩
    obtain ⟨⟨r, t, hd⟩, ⟨gs, hg⟩, ⟨cs, hc⟩, ncg⟩ := id D
    have ndg : d ≠ g := ne_of hd hg (by intro z; cases z)
    have ndc : d ≠ c := ne_of hd hc (by intro z; cases z)
    -- turn = draw['turn'] + 1
    refine ⟨.ref d, rfl, d, _, rfl, by have := DGet.k (k := Sum.inr "turn") hd; rw [dkv_turn] at this; exact this, t, 1, rfl, rfl, ?_⟩
    -- draw['turn'] = turn
    refine ⟨_, rfl, _, rfl, d, _, rfl, DPut.k (k := Sum.inr "turn") hd (by show 4 < sizeLine; decide), ?_⟩
    rw [dkv_put_turn]
    have hc1 : SqL K (upd H d (.dK (dkv g c r (t + 1)))) c (cs.map V.int) := .inl (.inl (by rw [upd_ne ndc.symm]; exact hc))
    have hd1 : (upd H d (.dK (dkv g c r (t + 1)))) d = some (.dK (dkv g c r (t + 1))) := upd_same
    generalize hH1 : upd H d (.dK (dkv g c r (t + 1))) = H1 at hc1 hd1 ⊢
    have kp : ∀ a o, H a = some o → a ≠ d → H1 a = some o := fun a o e ne => by rw [← hH1, upd_ne ne]; exact e
    -- found = 0; the primes
    refine ⟨by show 4 ≤ sizeLine; decide, fun p hp => ?_⟩
    have npd : d ≠ p := ne_of_none hd1 hp
    have hp2 : (upd H1 p (.lst ([2147483629, 2147483587, 2147483579, 2147483563].map V.int))) p = some (.lst ([2147483629, 2147483587, 2147483579, 2147483563].map V.int)) := upd_same
    have hd2 : (upd H1 p (.lst ([2147483629, 2147483587, 2147483579, 2147483563].map V.int))) d = some (.dK (dkv g c r (t + 1))) := by rw [upd_ne npd]; exact hd1
    have s12 : Same H1 (upd H1 p (.lst ([2147483629, 2147483587, 2147483579, 2147483563].map V.int))) := fun b o e => by rw [upd_ne (ne_of_none e hp)]; exact e
    refine ⟨p, rfl, ⟨_, .inl (.inl hp2)⟩, for_list (K := K) (a := p) (xs := [2147483629, 2147483587, 2147483579, 2147483563].map V.int)
      (fun i σ H2 => H2 = upd H1 p (.lst ([2147483629, 2147483587, 2147483579, 2147483563].map V.int)) ∧ ∃ (fo : Int) (x3 x4 x5 : Option V), σ = [some (.ref d), some (.int (t + 1)), some (.int fo), x3, x4, x5])
      ⟨rfl, 0, none, none, none, rfl⟩ (fun i σ H2 _ h => h.1 ▸ .inl (.inl hp2)) ?_ ?_⟩
    · rintro i x σ H2 hi ⟨rfl, fo, x3, x4, x5, rfl⟩
      obtain ⟨q, rfl, hq0, hq1⟩ : ∃ q : Int, x = .int q ∧ 0 < q ∧ q < 2147483648 := by
        match i, hi with
        | 0, hi => exact ⟨_, (Option.some.inj hi).symm, by decide, by decide⟩
        | 1, hi => exact ⟨_, (Option.some.inj hi).symm, by decide, by decide⟩
        | 2, hi => exact ⟨_, (Option.some.inj hi).symm, by decide, by decide⟩
        | 3, hi => exact ⟨_, (Option.some.inj hi).symm, by decide, by decide⟩
        | n + 4, hi => exact absurd hi (by simp)
      refine ⟨_, rfl, t + 1, 69621, rfl, rfl, .inr ⟨by decide, by decide⟩, _, rfl, q, 7, rfl, rfl, ⟨by decide, by decide⟩, _, _, rfl, rfl, .inl ⟨_, rfl, ?_⟩⟩
      refine ⟨_, rfl, _, q, rfl, rfl, hq0, ?_⟩
      -- the cells
      refine ⟨.ref d, rfl, d, _, rfl, by have := DGet.k (k := Sum.inr "cells") hd2; rw [dkv_cells] at this; exact this, c, rfl, ⟨_, s12.seq hc1⟩, for_list (K := K) (a := c) (xs := cs.map V.int)
        (fun j σ H3 => H3 = upd H1 p (.lst ([2147483629, 2147483587, 2147483579, 2147483563].map V.int)) ∧ ∃ (bl : Int) (x5 : Option V), 0 ≤ bl ∧ bl < q ∧ σ = [some (.ref d), some (.int (t + 1)), some (.int fo), some (.int q), some (.int bl), x5])
        ⟨rfl, _, x5, Int.emod_nonneg _ (by omega), Int.emod_lt_of_pos _ hq0, rfl⟩ (fun j σ H3 _ h => h.1 ▸ s12.seq hc1) ?_ ?_⟩
      · rintro j y σ H3 hj ⟨rfl, bl, x5', hb0, hb1, rfl⟩
        obtain ⟨z, rfl⟩ : ∃ z, y = V.int z := by
          rw [List.getElem?_map] at hj
          cases e : cs[j]? with
          | none => rw [e] at hj; cases hj
          | some z => rw [e] at hj; exact ⟨z, (Option.some.inj hj).symm⟩
        refine ⟨_, rfl, bl, 48271, rfl, rfl, .inr ⟨by decide, by decide⟩, _, rfl, _, z, rfl, rfl, .inl ⟨_, rfl, ?_⟩⟩
        refine ⟨_, rfl, _, q, rfl, rfl, hq0, ?_⟩
        exact ⟨rfl, _, _, Int.emod_nonneg _ (by omega), Int.emod_lt_of_pos _ hq0, rfl⟩
      · rintro σ H3 ⟨rfl, bl, x5', hb0, hb1, rfl⟩
        refine ⟨_, rfl, fo, 2147483647, rfl, rfl, .inr ⟨by decide, by decide⟩, _, rfl, bl, 5, rfl, rfl, ⟨by decide, by decide, by omega⟩, .inl ⟨_, rfl, ?_⟩⟩
        refine ⟨_, rfl, _, q, rfl, rfl, hq0, _, _, rfl, rfl, ?_⟩
        exact ⟨rfl, _, _, _, _, rfl⟩
    · rintro σ H2 ⟨rfl, fo, x3, x4, x5, rfl⟩
      refine ⟨_, rfl, k fo _ ⟨⟨r, t + 1, hd2⟩, ⟨gs, s12 _ _ (kp _ _ hg ndg.symm)⟩, ⟨cs, s12 _ _ (kp _ _ hc ndc.symm)⟩, ncg⟩ (fun a o e n1 _ => s12 _ _ (kp a o e n1))⟩
theorem sc_take : FnScope ["draw", "size", "found"] ["draw", "size"] (defScope s_take) := ⟨rfl, rfl, rfl, by decide +kernel, rfl, by decide +kernel, by decide +kernel⟩
theorem ok_take {f fB : Addr} {fd fdB : FuncData} (F : Fun K "_law_take" "_law_take" s_take f fd) (FB : Fun K "_law_blend" "_law_blend" s_blend fB fdB) (bB : Binds K fdB ["draw"] []) (gB : mg "_law_blend" = some (.ref fB)) (mInt : mg "int" = none) :
    FnOk P w K mg base CX0 2 f fd ["draw", "size"] spTake := by
  have GB : FnOk P w K mg base CX0 1 fB fdB ["draw"] spBlend := ok_blend FB mInt
  refine F.ok sc_take (fun vs H Q E h => ?_) (fun cdv A outer s H vs Q E hr h => ?_)
  · obtain ⟨d, g, c, n, rfl, _⟩ := h
    rfl
  · obtain ⟨d, g, c, n, rfl, hn0, hn1, D, k⟩ := h
    have hu := hu_of hr
    have nd := sc_take.nd
    refine ⟨_, C8.pss_cut (ps_if (PW.pt (pw_and (pt_cmpR op_eq (pe_dget hu (pv 0) pe_str (fun _ _ => rfl)) pe_int (nomark _)) (pw_and1 (pt_cmpR (op_neD hr.units) (pe_dget hu (pv 0) pe_str (fun _ _ => rfl)) (pe_lst pa_nil) (nomark _)))))
        (pss_one (ps_dput hu (pv 0) pe_str (pe_bm PySem.F.plainAttrs_list PySem.F.slot_list_pop PySem.F.type_list_pop mt_popAt (pe_dget hu (pv 0) pe_str (fun _ _ => rfl)) (pa_cons pe_int pa_nil)) rfl)) pss_nil)
      (C8.pss_cut (ps_if (pt_cmpR op_eq (pe_dget hu (pv 0) pe_str (fun _ _ => rfl)) pe_int (nomark _))
        (pss_one (ps_dput hu (pv 0) pe_str (pe_call GB hr rfl gB FB.kp bB .nil pass0 (pa_cons (pv 0) pa_nil)) rfl)) pss_nil)
      (pss_cons (ps_set (i := 2) nd rfl (.inl rfl) (pe_op op_mod (pe_callTy call_int1 (by rfl) mInt boot_int (pa_cons (pe_dget hu (pv 0) pe_str (fun _ _ => rfl)) pa_nil)) (pv 1)))
      (pss_cons (ps_dput hu (pv 0) pe_str (pe_op op_fdiv (pe_dget hu (pv 0) pe_str (fun _ _ => rfl)) (pv 1)) rfl)
      (pss_one (ps_ret (pv 2)))))), ?_⟩
    have gr : ∀ {H1 : Hp} {r t : Int}, H1 d = some (.dK (dkv g c r t)) → DGet H1 d (.str "rest") (some (.int r)) := fun {H1 r t} e => by
      have := DGet.k (k := Sum.inr "rest") e
      rw [dkv_rest] at this
      exact this
    have gg : ∀ {H1 : Hp} {r t : Int}, H1 d = some (.dK (dkv g c r t)) → DGet H1 d (.str "great") (some (.ref g)) := fun {H1 r t} e => by
      have := DGet.k (k := Sum.inr "great") e
      rw [dkv_great] at this
      exact this
    have pr : ∀ {H1 : Hp} {r t : Int} (x : Int), H1 d = some (.dK (dkv g c r t)) → DPut H1 d (.str "rest") (.int x) (upd H1 d (.dK (dkv g c x t))) := fun {H1 r t} x e => by
      have := DPut.k (k := Sum.inr "rest") (v := .int x) e (by show 4 < sizeLine; decide)
      rw [dkv_put_rest] at this
      exact this
    -- what is stored at d leaves the draws
    have st : ∀ {H1 : Hp} {r t : Int}, DrawAt H1 d g c → SameD d g H H1 → DrawAt (upd H1 d (.dK (dkv g c r t))) d g c ∧ SameD d g H (upd H1 d (.dK (dkv g c r t))) := fun {H1 r t} D1 S1 => by
      obtain ⟨⟨r', t', hd'⟩, ⟨gs', hg'⟩, ⟨cs', hc'⟩, ncg'⟩ := D1
      exact ⟨⟨⟨r, t, upd_same⟩, ⟨gs', by rw [upd_ne (ne_of hd' hg' (by intro z; cases z)).symm]; exact hg'⟩, ⟨cs', by rw [upd_ne (ne_of hd' hc' (by intro z; cases z)).symm]; exact hc'⟩, ncg'⟩, fun a o e n1 n2 => by rw [upd_ne n1]; exact S1 a o e n1 n2⟩
    have s0 : SameD d g H H := fun a o e _ _ => e
    obtain ⟨⟨r, t, hd⟩, ⟨gs, hg⟩, ⟨cs, hc⟩, ncg⟩ := id D
    have ndg : d ≠ g := ne_of hd hg (by intro z; cases z)
    -- if draw['rest'] == 0 and draw['great'] != []
    refine ⟨fun σ' H' => σ' = [some (.ref d), some (.int n), none] ∧ DrawAt H' d g c ∧ SameD d g H H', ?_, ?_⟩
    · refine ⟨.ref d, rfl, d, _, rfl, gr hd, rfl, _, rfl, ite2 (fun _ => ?_) (fun _ => ?_)⟩
      · refine ⟨.ref d, rfl, d, _, rfl, gg hd, Nat.zero_le _, fun p hp => ?_⟩
        have npg : g ≠ p := ne_of_none hg hp
        have npd : d ≠ p := ne_of_none hd hp
        have hg1 : (upd H p (.lst [])) g = some (.lst (gs.map V.int)) := by rw [upd_ne npg]; exact hg
        have hd1 : (upd H p (.lst [])) d = some (.dK (dkv g c r t)) := by rw [upd_ne npd]; exact hd
        have hc1 : (upd H p (.lst [])) c = some (.lst (cs.map V.int)) := by rw [upd_ne (ne_of_none hc hp)]; exact hc
        have S1 : SameD d g H (upd H p (.lst [])) := fun a o e _ _ => by rw [upd_ne (ne_of_none e hp)]; exact e
        have D1 : DrawAt (upd H p (.lst [])) d g c := ⟨⟨r, t, hd1⟩, ⟨gs, hg1⟩, ⟨cs, hc1⟩, ncg⟩
        refine ⟨_, _, .lst (.inl (.inl hg1)) (dp_ints gs), .lst (.inl (.inl upd_same)) .nil, shaped_ints gs, shaped_ints [], _, rfl, ?_⟩
        rw [eqv_nil]
        cases gs with
        | nil => exact ⟨rfl, D1, S1⟩
        | cons x gs =>
          refine iteT ?_
          generalize upd H p (.lst []) = H1 at hg1 hd1 hc1 S1 D1
          refine ⟨.ref d, rfl, d, _, rfl, gg hd1, .inl ⟨rfl, _, .inl (.inl hg1)⟩, g, _, 0, 0, .int x, rfl, rfl, hg1, by decide, by decide, ?_, rfl, .ref d, rfl, d, _, rfl, pr x (r := r) (t := t) (by rw [upd_ne ndg]; exact hd1), ?_⟩
          · simp [seqIndex?]
          · have D2 : DrawAt (upd H1 g (.lst (((x :: gs).map V.int).eraseIdx 0))) d g c := ⟨⟨r, t, by rw [upd_ne ndg]; exact hd1⟩, ⟨gs, upd_same⟩, ⟨cs, by
              rw [upd_ne (show c ≠ g from fun z => ncg z)]
              exact hc1⟩, ncg⟩
            have S2 : SameD d g H (upd H1 g (.lst (((x :: gs).map V.int).eraseIdx 0))) := fun a o e n1 n2 => by rw [upd_ne n2]; exact S1 a o e n1 n2
            have z := st (r := x) (t := t) D2 S2
            exact ⟨rfl, z.1, z.2⟩
      · exact ⟨rfl, D, s0⟩
    · rintro σ' H' ⟨rfl, D1, S1⟩
      obtain ⟨⟨r1, t1, hd1⟩, _, _⟩ := id D1
      -- if draw['rest'] == 0
      refine ⟨fun σ' H' => σ' = [some (.ref d), some (.int n), none] ∧ DrawAt H' d g c ∧ SameD d g H H', ?_, ?_⟩
      · refine ⟨.ref d, rfl, d, _, rfl, gr hd1, rfl, _, rfl, ite2 (fun _ => ?_) (fun _ => ⟨rfl, D1, S1⟩)⟩
        refine ⟨.ref d, rfl, d, g, c, rfl, D1, fun x H2 D2 S2 => ?_⟩
        obtain ⟨⟨r2, t2, hd2⟩, _, _⟩ := id D2
        have S3 : SameD d g H H2 := fun a o e n1 n2 => S2 a o (S1 a o e n1 n2) n1 n2
        have z := st (r := x) (t := t2) D2 S3
        exact ⟨.ref d, rfl, d, _, rfl, pr x hd2, rfl, z.1, z.2⟩
      · rintro σ' H2 ⟨rfl, D2, S2⟩
        obtain ⟨⟨r2, t2, hd2⟩, _, _⟩ := id D2
        refine ⟨.ref d, rfl, d, _, rfl, gr hd2, .inl ⟨r2, rfl, _, rfl, r2, n, rfl, rfl, hn0, ?_⟩⟩
        refine ⟨.ref d, rfl, d, _, rfl, gr hd2, _, rfl, r2, n, rfl, rfl, ⟨hn0, hn1⟩, .ref d, rfl, d, _, rfl, pr _ hd2, _, rfl, ?_⟩
        have z := st (r := r2 / n) (t := t2) D2 S2
        exact k _ _ (Int.emod_nonneg _ (by omega)) (Int.emod_lt_of_pos _ hn0) z.1 (off_same z.2)
theorem sc_pick : FnScope ["draw", "some"] ["draw", "some"] (defScope s_pick) := ⟨rfl, rfl, rfl, by decide +kernel, rfl, by decide +kernel, by decide +kernel⟩
theorem ok_pickL {f fT : Addr} {fd fdT : FuncData} (F : Fun K "_law_pick" "_law_pick" s_pick f fd) (T : FnOk P w K mg base CX0 2 fT fdT ["draw", "size"] spTake) (kT : PySem.W.keepIn K (.ref fT) = true) (bT : Binds K fdT ["draw", "size"] []) (gT : mg "_law_take" = some (.ref fT)) (mLen : mg "len" = none) :
    FnOk P w K mg base CX0 3 f fd ["draw", "some"] (spPickL K) := by
  refine F.ok sc_pick (fun vs H Q E h => ?_) (fun cdv A outer s H vs Q E hr h => ?_)
  · obtain ⟨d, g, c, a, xs, rfl, _⟩ := h
    rfl
  · obtain ⟨d, g, c, a, xs, rfl, D, hS, h0, h1, k⟩ := h
    refine ⟨_, pss_one (ps_ret (pe_ix ix_list (pv 1) (pe_call T hr rfl gT kT bT .nil pass0 (pa_cons (pv 0) (pa_cons (pe_callB call_len (by rfl) mLen PySem.boot_len (pa_cons (pv 1) pa_nil)) pa_nil))) (fun _ _ => rfl))), ?_⟩
    refine ⟨.ref a, rfl, .ref d, rfl, .ref a, rfl, .ref a, xs.length, rfl, .inl ⟨xs, Evl.ex_l (ex_off d g H) hS, rfl⟩, ?_⟩
    refine ⟨d, g, c, (xs.length : Int), rfl, by omega, by omega, D, fun i H1 i0 i1 D1 e1 => ?_⟩
    have hi : i.toNat < xs.length := by omega
    have ei : xs[i.toNat]? = some xs[i.toNat] := List.getElem?_eq_getElem hi
    refine ⟨a, xs, i, xs[i.toNat], rfl, rfl, Evl.ex_l ((e1).trans (ex_off d g H1)) hS, ?_, k i.toNat _ H1 ei D1 e1⟩
    have z := atI_nat ei
    rw [show ((i.toNat : Nat) : Int) = i by omega] at z
    exact z
theorem ok_pickS {f fT : Addr} {fd fdT : FuncData} (F : Fun K "_law_pick" "_law_pick" s_pick f fd) (T : FnOk P w K mg base CX0 2 fT fdT ["draw", "size"] spTake) (kT : PySem.W.keepIn K (.ref fT) = true) (bT : Binds K fdT ["draw", "size"] []) (gT : mg "_law_take" = some (.ref fT)) (mLen : mg "len" = none) :
    FnOk P w K mg base CX0 3 f fd ["draw", "some"] spPickS := by
  refine F.ok sc_pick (fun vs H Q E h => ?_) (fun cdv A outer s H vs Q E hr h => ?_)
  · obtain ⟨d, g, c, z, rfl, _⟩ := h
    rfl
  · obtain ⟨d, g, c, z, rfl, D, h0, h1, k⟩ := h
    refine ⟨_, pss_one (ps_ret (pe_ix ix_str (pv 1) (pe_call T hr rfl gT kT bT .nil pass0 (pa_cons (pv 0) (pa_cons (pe_callB call_len (by rfl) mLen PySem.boot_len (pa_cons (pv 1) pa_nil)) pa_nil))) (fun _ _ => rfl))), ?_⟩
    refine ⟨.str z, rfl, .ref d, rfl, .str z, rfl, .str z, z.length, rfl, ⟨Nat.le_of_lt (small1000 h1), rfl⟩, ?_⟩
    refine ⟨d, g, c, (z.length : Int), rfl, by omega, by omega, D, fun i H1 i0 i1 D1 e1 => ?_⟩
    have hz : z.length = z.cps.toList.length := rfl
    have hi : i.toNat < z.cps.toList.length := by omega
    have ei : z.cps.toList[i.toNat]? = some z.cps.toList[i.toNat] := List.getElem?_eq_getElem hi
    refine ⟨z, i, z.cps.toList[i.toNat], rfl, rfl, Nat.le_of_lt (small1000 h1), ?_, k i.toNat _ H1 ei D1 e1⟩
    have y := atI_nat ei
    rw [show ((i.toNat : Nat) : Int) = i by omega] at y
    exact y
end
end Rw
end T_D1

section T_B2
set_option Elab.async false
set_option linter.all false
set_option maxRecDepth 100000
set_option maxHeartbeats 4000000
namespace Rw
open PySem L2 PyProof.Rows
section
variable {P : Program} {w : World} {K : PySem.W.Frag} {mg : Str → Option Value} {base : Heap}
theorem sc_mixed : FnScope ["draw", "some", "left", "found"] ["draw", "some"] (defScope s_mixed) := ⟨rfl, rfl, rfl, by decide +kernel, rfl, by decide +kernel, by decide +kernel⟩
theorem ok_mixed {f fT : Addr} {fd fdT : FuncData} (F : Fun K "_law_mixed" "_law_mixed" s_mixed f fd) (T : FnOk P w K mg base CX0 2 fT fdT ["draw", "size"] spTake) (kT : PySem.W.keepIn K (.ref fT) = true) (bT : Binds K fdT ["draw", "size"] []) (gT : mg "_law_take" = some (.ref fT)) (mLen : mg "len" = none) (mList : mg "list" = none) :
    FnOk P w K mg base CX0 3 f fd ["draw", "some"] (spMixed K) := by
  refine F.ok sc_mixed (fun vs H Q E h => ?_) (fun cdv A outer s H vs Q E hr h => ?_)
  · obtain ⟨d, g, c, a, xs, rfl, _⟩ := h
    rfl
  · obtain ⟨d, g, c, a, xs, rfl, D, hS, hl, hdat, k⟩ := h
    have nd := sc_mixed.nd
    refine ⟨_, pss_cons (ps_par (i := 2) (j := 3) (by rfl) nd rfl rfl (by decide) rfl rfl (pa_cons (pe_callTy call_list_of (by rfl) mList (by decide +kernel) (pa_cons (pv 1) pa_nil)) (pa_cons (pe_lst pa_nil) pa_nil)) (by rfl))
      (pss_cons (ps_while PassesOwn.never (pt_cmpR (op_neD hr.units) (pv 2) (pe_lst pa_nil) (nomark _))
        (pss_one (ps_expr (pe_bm PySem.F.plainAttrs_list PySem.F.slot_list_append PySem.F.type_list_append mt_append (pv 3)
          (pa_cons (pe_bm PySem.F.plainAttrs_list PySem.F.slot_list_pop PySem.F.type_list_pop mt_popAt (pv 2) (pa_cons (pe_call T hr rfl gT kT bT .nil pass0 (pa_cons (pv 0) (pa_cons (pe_callB call_len (by rfl) mLen PySem.boot_len (pa_cons (pv 2) pa_nil)) pa_nil))) pa_nil)) pa_nil)))))
      (pss_one (ps_ret (pv 3)))), ?_⟩
    -- left, found = (list(some), [])
    refine ⟨.ref a, rfl, a, xs, rfl, hS.elim (fun z => .inl (Evl.ex_l (ex_off d g H) z)) (fun z => .inr (Evl.ex_t (ex_off d g H) z)), fun l hl0 => ⟨Nat.zero_le _, fun f hf => ⟨_, _, rfl, ?_⟩⟩⟩
    have hlf : f ≠ l := fun z => by rw [z, upd_same] at hf; cases hf
    have hf0 : H f = none := by rw [upd_ne hlf] at hf; exact hf
    have nl := D.ned hl0
    have nf := D.ned hf0
    have perm_erase : ∀ (ls : List V) (i : Nat) (v : V), ls[i]? = some v → (v :: ls.eraseIdx i).Perm ls := fun ls => by
      induction ls with
      | nil => intro i v h; simp at h
      | cons x r ih =>
        intro i v h
        cases i with
        | zero => simp at h; subst h; exact List.Perm.refl _
        | succ n =>
          have h' : r[n]? = some v := by simpa using h
          exact (List.Perm.swap x v _).trans ((ih n v h').cons x)
    refine while_by (fun σ H' => σ = [some (.ref d), some (.ref a), some (.ref l), some (.ref f)] ∧ ∃ ls fs : List V, H' l = some (.lst ls) ∧ H' f = some (.lst fs) ∧ (fs ++ ls).Perm xs ∧ DrawAt H' d g c ∧ Evl.Ex (off d g H) (off d g H'))
      (fun _ H' => match H' l with | some (.lst ls) => ls.length | _ => 0) ⟨rfl, xs, [], by rw [upd_ne hlf.symm]; exact upd_same, upd_same, List.Perm.refl _, (D.new hl0).new hf, (off_ex (Evl.Ex.new hl0)).trans (off_ex (Evl.Ex.new hf))⟩ ?_ ?_
    · rintro σ H1 ⟨rfl, ls, fs, el, ef, hp, D1, x1⟩
      have hlen : fs.length + ls.length = xs.length := by rw [← List.length_append]; exact hp.length_eq
      have hdl : ∀ v ∈ ls, DataV K H1 v := fun v hv => (hdat v (hp.subset (List.mem_append_right _ hv))).ex (x1.trans (ex_off d g H1))
      refine ⟨.ref l, rfl, Nat.zero_le _, fun p hp0 => ?_⟩
      have x2 : Evl.Ex H1 (upd H1 p (.lst [])) := Evl.Ex.new hp0
      have el2 : (upd H1 p (.lst [])) l = some (.lst ls) := x2 _ _ el
      have ef2 : (upd H1 p (.lst [])) f = some (.lst fs) := x2 _ _ ef
      have D2 : DrawAt (upd H1 p (.lst [])) d g c := D1.ext x2
      have x3 : Evl.Ex (off d g H) (off d g (upd H1 p (.lst []))) := x1.trans (off_ex x2)
      obtain ⟨dd, g1, g2, g3⟩ := data_list (Evl.sq_of el2) fun v hv => (hdl v hv).ex x2
      refine ⟨dd, .list [], g1, .lst (Evl.sq_of upd_same) .nil, g2, by rfl, _, rfl, ?_⟩
      rw [g3]
      generalize upd H1 p (.lst []) = H2 at el2 ef2 D2 x3
      cases ls with
      | nil =>
        have hp' : fs.Perm xs := by rw [List.append_nil] at hp; exact hp
        exact ⟨.ref f, rfl, k f fs H2 hp' D2 x3 hf0 (off_of ef2 nf.1 nf.2.1)⟩
      | cons y r =>
        refine iteT ?_
        refine ⟨.ref f, rfl, .inl ⟨rfl, _, Evl.sq_of ef2⟩, .ref l, rfl, .inl ⟨rfl, _, Evl.sq_of el2⟩, .ref d, rfl, .ref l, rfl, .ref l, (y :: r).length, rfl, .inl ⟨_, Evl.sq_of el2, rfl⟩, ?_⟩
        refine ⟨d, g, c, ((y :: r).length : Int), rfl, by simp, by omega, D2, fun j H3 j0 j1 D3 x4 => ?_⟩
        have el3 : H3 l = some (.lst (y :: r)) := (ex_off d g H3) _ _ (x4 _ _ (off_of el2 nl.1 nl.2.1))
        have ef3 : H3 f = some (.lst fs) := (ex_off d g H3) _ _ (x4 _ _ (off_of ef2 nf.1 nf.2.1))
        have hj : j.toNat < (y :: r).length := by omega
        have ej : (y :: r)[j.toNat]? = some (y :: r)[j.toNat] := List.getElem?_eq_getElem hj
        refine ⟨l, y :: r, j, j.toNat, (y :: r)[j.toNat], rfl, rfl, el3, by omega, by omega, ?_, ej, ?_⟩
        · unfold seqIndex?
          rw [if_neg (by omega : ¬ j < 0)]
          have hb : (decide (0 ≤ j) && decide (j < ((y :: r).length : Nat))) = true := by
            rw [decide_eq_true j0, decide_eq_true (by omega)]
            rfl
          show (if (decide (0 ≤ j) && decide (j < ((y :: r).length : Nat))) = true then some j.toNat else none) = some j.toNat
          rw [if_pos hb]
        · have ef4 : (upd H3 l (.lst ((y :: r).eraseIdx j.toNat))) f = some (.lst fs) := by rw [upd_ne hlf]; exact ef3
          refine ⟨f, fs, (y :: r)[j.toNat], rfl, rfl, ef4, small1000 (by omega), ?_⟩
          refine ⟨⟨rfl, (y :: r).eraseIdx j.toNat, fs ++ [(y :: r)[j.toNat]], by rw [upd_ne hlf.symm]; exact upd_same, upd_same, ?_, ?_, ?_⟩, ?_⟩
          · rw [List.append_assoc]
            exact ((perm_erase (y :: r) j.toNat _ ej).append_left fs).trans hp
          · exact (D3.mut nl.1 nl.2.1 nl.2.2).mut nf.1 nf.2.1 nf.2.2
          · have x5 : Evl.Ex (off d g H) (off d g H3) := x3.trans x4
            exact off_mut (off_mut x5 (off_free hl0)) (off_free hf0)
          · show (match (upd (upd H3 l (.lst ((y :: r).eraseIdx j.toNat))) f (.lst (fs ++ [(y :: r)[j.toNat]]))) l with | some (.lst ls) => ls.length | _ => 0) < (match H1 l with | some (.lst ls) => ls.length | _ => 0)
            rw [upd_ne hlf.symm, upd_same, el]
            show ((y :: r).eraseIdx j.toNat).length < (y :: r).length
            rw [List.length_eraseIdx, if_pos hj]
            simp
    · intro σ H1 Q1 Q2 hq h
      obtain ⟨v, hv, hz, hk⟩ := h
      refine ⟨v, hv, hz, fun p hp => ?_⟩
      obtain ⟨d1, e1, a1, a2, a3, a4, k1, ek, q⟩ := hk p hp
      exact ⟨d1, e1, a1, a2, a3, a4, k1, ek, hq _ _ q⟩
end
end Rw
end T_B2

section T_M0
set_option Elab.async false
set_option linter.all false
set_option maxRecDepth 100000
set_option maxHeartbeats 1000000
namespace Rw
open PySem L2 PyProof.Rows
/-! ### names as lists of code points -/
def Nm (z : Str) : Prop := ∃ l : List Nat, z = SX.S l ∧ 1 ≤ l.length ∧ l.length ≤ 6 ∧ ∀ x ∈ l, 97 ≤ x ∧ x ≤ 122
theorem nm_len {z : Str} (h : Nm z) : z.length ≤ 6 := by
  obtain ⟨l, rfl, _, h2, _⟩ := h
  rw [SX.S_len]
  exact h2
theorem nm_ok {z : Str} (h : Nm z) : PyData.strOk z = true := by
  obtain ⟨l, rfl, _, _, h3⟩ := h
  show (l.toArray.all (· < 0x110000)) = true
  rw [List.all_toArray, List.all_eq_true]
  intro x hx
  have := h3 x hx
  exact decide_eq_true (by omega)
theorem nm_data {K : PySem.W.Frag} {H : Hp} {z : Str} (h : Nm z) : DataV K H (.str z) := strV_data (nm_ok h)
theorem inV_str (z : Str) : ∀ zs : List Str, inV (.str z) (zs.map V.str) = decide (z ∈ zs)
  | [] => rfl
  | y :: r => by
    show ((y == z) || inV (.str z) (r.map V.str)) = decide (z ∈ y :: r)
    rw [inV_str z r]
    by_cases e : y = z
    · subst e
      rw [beq_self_eq_true, decide_eq_true (List.mem_cons_self)]
      rfl
    · have e1 : (y == z) = false := beq_eq_false_iff_ne.mpr e
      rw [e1]
      by_cases m : z ∈ r
      · rw [decide_eq_true m, decide_eq_true (List.mem_cons_of_mem _ m)]
        rfl
      · rw [decide_eq_false m, decide_eq_false (fun h => (List.mem_cons.mp h).elim (fun q => e q.symm) m)]
        rfl
theorem flat_strs : ∀ zs : List Str, (zs.map V.str).all flatV = true
  | [] => rfl
  | _ :: r => by
    show (true && (r.map V.str).all flatV) = true
    rw [flat_strs r]
    rfl
theorem join_signs : ∀ cs : List Nat, Txt.join Str.empty (cs.map fun x => SX.S [x]) = SX.S cs := fun cs => by
  rw [show Txt.join Str.empty (cs.map fun x => SX.S [x]) = Str.join Str.empty (cs.map fun x => SX.S [x]) from StrLaws.glued_eq_join _ _]
  induction cs with
  | nil => rfl
  | cons x r ih =>
    show Str.join ⟨#[]⟩ (SX.S [x] :: r.map fun x => SX.S [x]) = SX.S (x :: r)
    rw [PyProof.Rows.join_nil_cons]
    show SX.S [x] ++ Str.join Str.empty (r.map fun x => SX.S [x]) = SX.S (x :: r)
    rw [ih, SX.S_cat]
    rfl
theorem cut5 (l : List Nat) : cutS (SX.S l) none (some 5) = SX.S (l.take 5) := by
  unfold cutS
  rw [show HT.sIx (SX.S l).length 0 none = 0 from rfl, show HT.sIx (SX.S l).length (SX.S l).length (some 5) = min 5 (SX.S l).length from HT.sIx_nat _ _ 5, SX.S_len]
  show SX.S ((l.drop 0).take (min 5 l.length - 0)) = SX.S (l.take 5)
  rw [List.drop_zero, Nat.sub_zero]
  congr 1
  by_cases h : 5 ≤ l.length
  · rw [Nat.min_eq_left h]
  · rw [Nat.min_eq_right (by omega), List.take_length, List.take_of_length_le (by omega)]
/-- as many different things as ys holds -/
theorem nodup_le {α : Type} [DecidableEq α] : ∀ (xs ys : List α), xs.Nodup → (∀ x ∈ xs, x ∈ ys) → xs.length ≤ ys.length
  | [], _, _, _ => Nat.zero_le _
  | x :: r, ys, h, hs => by
    have h1 : x ∈ ys := hs x List.mem_cons_self
    have h2 := nodup_le r (ys.erase x) (List.nodup_cons.mp h).2 fun y hy => by
      have ne : y ≠ x := fun e => (List.nodup_cons.mp h).1 (e ▸ hy)
      exact (List.mem_erase_of_ne ne).mpr (hs y (List.mem_cons_of_mem _ hy))
    rw [List.length_erase_of_mem h1] at h2
    have h3 : 0 < ys.length := List.length_pos_of_mem h1
    rw [List.length_cons]
    omega
/-- the names near a name: it, and each letter behind its first five -/
def near (l : List Nat) : List Str := SX.S l :: (List.range 26).map fun k => SX.S (l.take 5 ++ [97 + k])
theorem near_nm {l : List Nat} (h1 : 1 ≤ l.length) (h2 : l.length ≤ 6) (h3 : ∀ x ∈ l, 97 ≤ x ∧ x ≤ 122) : ∀ z ∈ near l, Nm z := fun z hz => by
  rcases List.mem_cons.mp hz with rfl | hz
  · exact ⟨l, rfl, h1, h2, h3⟩
  · obtain ⟨k, hk, rfl⟩ := List.mem_map.mp hz
    have hk' := List.mem_range.mp hk
    refine ⟨l.take 5 ++ [97 + k], rfl, by simp, by simp; omega, fun x hx => ?_⟩
    rcases List.mem_append.mp hx with hx | hx
    · exact h3 x (List.mem_of_mem_take hx)
    · rw [List.mem_singleton.mp hx]
      omega
theorem near_nodup (l : List Nat) : ((List.range 26).map fun k => SX.S (l.take 5 ++ [97 + k])).Nodup := by
  refine List.Pairwise.map _ (R := fun a b : Nat => a ≠ b) (fun a b ne e => ?_) List.nodup_range
  have e1 := SX.S_inj e
  have e2 : [97 + a] = [97 + b] := List.append_cancel_left e1
  have e3 : 97 + a = 97 + b := by simpa using e2
  omega
theorem near_some (l : List Nat) (zs : List Str) (h : zs.length < 26) : ∃ z r, (near l).filter (fun z => decide (z ∉ zs)) = z :: r := by
  cases e : (near l).filter (fun z => decide (z ∉ zs)) with
  | cons z r => exact ⟨z, r, rfl⟩
  | nil =>
    exfalso
    have hall : ∀ z ∈ near l, z ∈ zs := fun z hz => by
      by_cases m : z ∈ zs
      · exact m
      · have : z ∈ (near l).filter (fun z => decide (z ∉ zs)) := List.mem_filter.mpr ⟨hz, decide_eq_true m⟩
        rw [e] at this
        cases this
    have h2 := nodup_le _ zs (near_nodup l) fun z hz => hall z (List.mem_cons_of_mem _ hz)
    simp at h2
    omega
theorem nm_by {z : Str} (h : decide (1 ≤ z.cps.toList.length ∧ z.cps.toList.length ≤ 6 ∧ ∀ x ∈ z.cps.toList, 97 ≤ x ∧ x ≤ 122) = true) : Nm z := by
  obtain ⟨h1, h2, h3⟩ := of_decide_eq_true h
  exact ⟨z.cps.toList, (SX.S_tl z).symm, h1, h2, h3⟩
def z26 : Str := "abcdefghijklmnopqrstuvwxyz"
theorem z26_eq : z26.cps.toList = (List.range 26).map fun k => 97 + k := by decide +kernel
def words10 : List Str := ["a", "b", "goal", "home", "lost", "rings", "posts", "done", "way", "zzzzzz"]
theorem words10_nm : ∀ z ∈ words10, Nm z := fun z hz => by
  have h : ∀ z ∈ words10, decide (1 ≤ z.cps.toList.length ∧ z.cps.toList.length ≤ 6 ∧ ∀ x ∈ z.cps.toList, 97 ≤ x ∧ x ≤ 122) = true := by decide +kernel
  exact nm_by (h z hz)
/-- while names are made: those made at f, the ten words at sm -/
structure StW (H H' : Hp) (d g c f sm : Addr) (zs : List Str) : Prop where
  hf : H' f = some (.lst (zs.map V.str))
  hs : off d g H' sm = some (.lst (words10.map V.str))
  dr : DrawAt H' d g c
  ex : Evl.Ex (off d g H) (off d g H')
  n1 : f ≠ d
  n2 : f ≠ g
  n3 : f ≠ sm
theorem StW.call {H H1 H2 : Hp} {d g c f sm : Addr} {zs : List Str} (h : StW H H1 d g c f sm zs) (D : DrawAt H2 d g c) (e : Evl.Ex (off d g H1) (off d g H2)) : StW H H2 d g c f sm zs :=
  ⟨ex_off d g H2 _ _ (e _ _ (off_of h.hf h.n1 h.n2)), e _ _ h.hs, D, h.ex.trans e, h.n1, h.n2, h.n3⟩
theorem StW.new {H H1 : Hp} {d g c f sm p : Addr} {o : HO} {zs : List Str} (h : StW H H1 d g c f sm zs) (hp : H1 p = none) : StW H (upd H1 p o) d g c f sm zs :=
  h.call (h.dr.new hp) (off_ex (Evl.Ex.new hp))
theorem StW.mut {H H1 : Hp} {d g c f sm p : Addr} {o : HO} {zs : List Str} (h : StW H H1 d g c f sm zs) (h0 : H p = none) (nf : p ≠ f) (ns : p ≠ sm) (nd : p ≠ d) (ng : p ≠ g) (nc : p ≠ c) : StW H (upd H1 p o) d g c f sm zs := by
  have hs := off_some h.hs
  exact ⟨by rw [upd_ne nf.symm]; exact h.hf, off_of (by rw [upd_ne ns.symm]; exact hs.2.2) hs.1 hs.2.1, h.dr.mut nd ng nc, off_mut h.ex (off_free h0), h.n1, h.n2, h.n3⟩
theorem StW.free {H H1 : Hp} {d g c f sm p : Addr} {zs : List Str} (h : StW H H1 d g c f sm zs) (hp : H1 p = none) : H p = none ∧ p ≠ f ∧ p ≠ sm ∧ p ≠ d ∧ p ≠ g ∧ p ≠ c := by
  obtain ⟨a1, a2, a3⟩ := h.dr.ned hp
  refine ⟨?_, (ne_of_none h.hf hp).symm, (ne_of_none (off_some h.hs).2.2 hp).symm, a1, a2, a3⟩
  cases e : H p with
  | none => rfl
  | some o =>
    have z := ex_off d g H1 _ _ (h.ex _ _ (off_of e a1 a2))
    rw [hp] at z
    cases z
/-- some names, all different -/
def spWords (K : PySem.W.Frag) : Sp := fun vs H Q _ => ∃ (d g c : Addr) (n : Nat), vs = [.ref d, .int (n : Int)] ∧ DrawAt H d g c ∧ n ≤ 20 ∧
  ∀ (p : Addr) (zs : List Str) (H' : Hp), zs.length = n → zs.Nodup → (∀ z ∈ zs, Nm z) → DrawAt H' d g c → Evl.Ex (off d g H) (off d g H') → H p = none → off d g H' p = some (.lst (zs.map V.str)) → Q (.ref p) H'
end Rw
end T_M0

section T_M1
set_option Elab.async false
set_option linter.all false
set_option maxRecDepth 100000
set_option maxHeartbeats 1000000
namespace Rw
open PySem L2 PyProof.Rows
/-! ### tables: from names to places -/
def tkv (tb : List (Str × V)) : List (Key × V) := tb.map fun q => (Sum.inr q.1, q.2)
/-- a place of z for the goal e -/
def PlaceOk (zs : List Str) (e z : Str) (v : V) : Prop := v = .non ∨ v = .str e ∨ ∃ y ∈ zs, y ≠ z ∧ v = .str y
structure TabOk (zs : List Str) (e : Str) (tb : List (Str × V)) : Prop where
  ks : (tb.map (·.1)).Perm zs
  ps : ∀ q ∈ tb, PlaceOk zs e q.1 q.2
theorem tkv_none {tb : List (Str × V)} {z : Str} (h : z ∉ tb.map (·.1)) : valV (tkv tb) (Sum.inr z) = none := by
  induction tb with
  | nil => rfl
  | cons q r ih =>
    have h1 : q.1 ≠ z := fun e => h (by rw [← e]; exact List.mem_cons_self)
    show valV ((Sum.inr q.1, q.2) :: tkv r) (Sum.inr z) = none
    rw [valV_neg (fun e => h1 (Sum.inr.inj e))]
    exact ih fun hr => h (List.mem_cons_of_mem _ hr)
theorem tkv_some {tb : List (Str × V)} {z : Str} (h : z ∈ tb.map (·.1)) : ∃ v, valV (tkv tb) (Sum.inr z) = some v ∧ (z, v) ∈ tb := by
  induction tb with
  | nil => cases h
  | cons q r ih =>
    by_cases e : q.1 = z
    · refine ⟨q.2, ?_, ?_⟩
      · exact valV_pos (p := (Sum.inr q.1, q.2)) (by rw [e])
      · rw [← e]; exact List.mem_cons_self
    · rcases List.mem_cons.mp h with h | h
      · exact absurd h.symm e
      · obtain ⟨v, h1, h2⟩ := ih h
        refine ⟨v, ?_, List.mem_cons_of_mem _ h2⟩
        show valV ((Sum.inr q.1, q.2) :: tkv r) (Sum.inr z) = some v
        rw [valV_neg (fun x => e (Sum.inr.inj x))]
        exact h1
theorem tkv_new {tb : List (Str × V)} {z : Str} {v : V} (h : z ∉ tb.map (·.1)) : putK (tkv tb) (Sum.inr z) v = tkv (tb ++ [(z, v)]) := by
  rw [putK_new _ (tkv_none h)]
  unfold tkv
  rw [List.map_append]
  rfl
theorem tkv_len (tb : List (Str × V)) : (tkv tb).length = tb.length := by unfold tkv; rw [List.length_map]
theorem str_at {ws : List Str} {i : Nat} {y : V} (h : (ws.map V.str)[i]? = some y) : ∃ z, ws[i]? = some z ∧ y = V.str z := by
  rw [List.getElem?_map] at h
  cases e : ws[i]? with
  | none => rw [e] at h; cases h
  | some z => rw [e] at h; exact ⟨z, rfl, (Option.some.inj h).symm⟩
theorem strs_of : ∀ l : List V, (∀ y ∈ l, ∃ z : Str, y = V.str z) → ∃ ws : List Str, l = ws.map V.str
  | [], _ => ⟨[], rfl⟩
  | y :: r, h => by
    obtain ⟨z, rfl⟩ := h y List.mem_cons_self
    obtain ⟨ws, rfl⟩ := strs_of r fun u hu => h u (List.mem_cons_of_mem _ hu)
    exact ⟨z :: ws, rfl⟩
theorem perm_strs {ys : List V} {zs : List Str} (h : ys.Perm (zs.map V.str)) : ∃ ws : List Str, ys = ws.map V.str ∧ ws.Perm zs := by
  obtain ⟨ws, rfl⟩ := strs_of ys fun y hy => by
    obtain ⟨z, _, e⟩ := List.mem_map.mp (h.subset hy)
    exact ⟨z, e.symm⟩
  refine ⟨ws, rfl, ?_⟩
  have := h.map fun v : V => match v with | .str z => z | _ => Str.empty
  rw [List.map_map, List.map_map] at this
  have i1 : ((fun v : V => match v with | .str z => z | _ => Str.empty) ∘ V.str) = id := rfl
  rw [i1, List.map_id, List.map_id] at this
  exact this
theorem merge_app : ∀ (tb acc : List (Str × V)), ((acc ++ tb).map (·.1)).Nodup → mergeK (tkv acc) (tkv tb) = tkv (acc ++ tb)
  | [], acc, _ => by rw [List.append_nil]; rfl
  | q :: r, acc, h => by
    have h1 : q.1 ∉ acc.map (·.1) := fun hm => by
      rw [List.map_append] at h
      exact (List.nodup_append.mp h).2.2 q.1 hm q.1 List.mem_cons_self rfl
    show mergeK (putK (tkv acc) (Sum.inr q.1) q.2) (tkv r) = tkv (acc ++ q :: r)
    rw [tkv_new h1, merge_app r (acc ++ [(q.1, q.2)]) (by simpa using h)]
    simp
theorem merge_tkv {tb : List (Str × V)} (h : (tb.map (·.1)).Nodup) : mergeK [] (tkv tb) = tkv tb := merge_app tb [] h
theorem cut_last (xs : List V) : cutV xs none (some (-1)) = xs.dropLast := by
  unfold cutV
  rw [show HT.sIx xs.length 0 none = 0 from rfl]
  have e : HT.sIx xs.length xs.length (some (-1)) = xs.length - 1 := by
    unfold HT.sIx
    simp
    omega
  rw [e, List.drop_zero, Nat.sub_zero, List.dropLast_eq_take]
theorem tkv_old {tb : List (Str × V)} {z : Str} {v : V} (h : z ∈ tb.map (·.1)) : putK (tkv tb) (Sum.inr z) v = tkv (tb.map fun q => if q.1 = z then (q.1, v) else q) := by
  unfold putK
  obtain ⟨u, hu, _⟩ := tkv_some h
  rw [valV_any, hu]
  rw [if_pos (show (some u).isSome = true from rfl)]
  unfold tkv
  rw [List.map_map, List.map_map]
  refine List.map_congr_left fun q _ => ?_
  show (if (Sum.inr q.1 : Key) = Sum.inr z then ((Sum.inr q.1 : Key), v) else (Sum.inr q.1, q.2)) = (Sum.inr (if q.1 = z then (q.1, v) else q).1, (if q.1 = z then (q.1, v) else q).2)
  by_cases e : q.1 = z
  · rw [if_pos e, if_pos (congrArg Sum.inr e)]
  · rw [if_neg e, if_neg fun w => e (Sum.inr.inj w)]
theorem TabOk.put {zs : List Str} {e z : Str} {tb : List (Str × V)} {v : V} (h : TabOk zs e tb) (hv : PlaceOk zs e z v) : TabOk zs e (tb.map fun q => if q.1 = z then (q.1, v) else q) := by
  refine ⟨?_, ?_⟩
  · have e1 : (tb.map fun q => if q.1 = z then (q.1, v) else q).map (·.1) = tb.map (·.1) := by
      rw [List.map_map]
      refine List.map_congr_left fun q _ => ?_
      show (if q.1 = z then (q.1, v) else q).1 = q.1
      by_cases e : q.1 = z
      · rw [if_pos e]
      · rw [if_neg e]
    rw [e1]
    exact h.ks
  · intro q hq
    obtain ⟨r, hr, rfl⟩ := List.mem_map.mp hq
    by_cases e : r.1 = z
    · rw [if_pos e]
      show PlaceOk zs _ r.1 v
      rw [e]
      exact hv
    · rw [if_neg e]
      exact h.ps r hr
/-- a row of names, each of which leads to the next one, the last one to e -/
def pathTab (ws : List Str) (e : Str) : List (Str × V) := ws.zip ((ws ++ [e]).tail.map V.str)
theorem pathTab_get {ws : List Str} {e x : Str} {i : Nat} (h : ws[i]? = some x) : ∃ y, (ws ++ [e])[i + 1]? = some y ∧ (pathTab ws e)[i]? = some (x, .str y) := by
  have hi : i < ws.length := (List.getElem?_eq_some_iff.mp h).1
  have h1 : i + 1 < (ws ++ [e]).length := by simp; omega
  refine ⟨(ws ++ [e])[i + 1], List.getElem?_eq_getElem h1, ?_⟩
  unfold pathTab
  rw [List.getElem?_zip_eq_some]
  refine ⟨h, ?_⟩
  rw [List.getElem?_map, List.getElem?_tail, List.getElem?_eq_getElem h1]
  rfl
theorem pathTab_keys (ws : List Str) (e : Str) : (pathTab ws e).map (·.1) = ws := by
  unfold pathTab
  exact List.map_fst_zip (by simp)
theorem pathTab_ok {ws zs : List Str} {e : Str} (hw : ws.Perm zs) (hnd : zs.Nodup) : TabOk zs e (pathTab ws e) := by
  refine ⟨by rw [pathTab_keys]; exact hw, ?_⟩
  rintro ⟨x, v⟩ hq
  obtain ⟨i, hi, hi'⟩ := List.getElem_of_mem hq
  have hx : ws[i]? = some x := by
    have := congrArg (fun l => l[i]?) (pathTab_keys ws e)
    simp only [List.getElem?_map, List.getElem?_eq_getElem hi, hi', Option.map_some] at this
    exact this.symm
  obtain ⟨y, h1, h2⟩ := pathTab_get (e := e) hx
  rw [List.getElem?_eq_getElem hi, hi'] at h2
  have hv : v = .str y := congrArg Prod.snd (Option.some.inj h2)
  show PlaceOk zs e x v
  subst hv
  have wnd : ws.Nodup := hw.nodup_iff.mpr hnd
  by_cases hl : i + 1 < ws.length
  · rw [List.getElem?_append_left hl] at h1
    refine .inr (.inr ⟨y, hw.subset (List.mem_of_getElem? h1), fun q => ?_, rfl⟩)
    subst q
    have := (List.getElem?_inj (i := i + 1) (j := i) hl wnd).mp (h1.trans hx.symm)
    omega
  · have hi2 : i < ws.length := (List.getElem?_eq_some_iff.mp hx).1
    rw [List.getElem?_append_right (by omega), show i + 1 - ws.length = 0 by omega] at h1
    exact .inr (.inl (congrArg V.str (Option.some.inj h1).symm))
/-- a new table of the names at a list, for a goal -/
def spTab (K : PySem.W.Frag) : Sp := fun vs H Q _ => ∃ (d g c a : Addr) (zs : List Str) (e : Str), vs = [.ref d, .ref a, .str e] ∧ DrawAt H d g c ∧ SqL K (off d g H) a (zs.map V.str) ∧ zs.Nodup ∧ (∀ z ∈ zs, Nm z) ∧ Nm e ∧ e ∉ zs ∧ zs.length ≤ 10 ∧
  ∀ (p : Addr) (tb : List (Str × V)) (H' : Hp), TabOk zs e tb → DrawAt H' d g c → Evl.Ex (off d g H) (off d g H') → H p = none → off d g H' p = some (.dK (tkv tb)) → Q (.ref p) H'
/-- a table that is like another one -/
def spNear (K : PySem.W.Frag) : Sp := fun vs H Q _ => ∃ (d g c t : Addr) (zs : List Str) (e : Str) (tb : List (Str × V)), vs = [.ref d, .ref t, .str e] ∧ DrawAt H d g c ∧ off d g H t = some (.dK (tkv tb)) ∧ TabOk zs e tb ∧ zs.Nodup ∧ 0 < zs.length ∧ zs.length ≤ 10 ∧
  ∀ (p : Addr) (tb' : List (Str × V)) (H' : Hp), TabOk zs e tb' → DrawAt H' d g c → Evl.Ex (off d g H) (off d g H') → H p = none → off d g H' p = some (.dK (tkv tb')) → Q (.ref p) H'
end Rw
end T_M1

section T_BA
set_option Elab.async false
set_option linter.all false
set_option maxRecDepth 100000
set_option maxHeartbeats 4000000
namespace Rw
open PySem L2 PyProof.Rows
/-! ### the tables of the second stage's laws -/
theorem cutV_mem {xs : List V} {lo hi : Option Int} {v : V} (h : v ∈ cutV xs lo hi) : v ∈ xs := by
  unfold cutV at h
  exact List.mem_of_mem_drop (List.mem_of_mem_take h)
theorem cutV_ahead {ws : List Str} {i : Nat} {z : Str} (nd : ws.Nodup) (hz : ws[i]? = some z) {lo : Option Int} {v : V} (h : v ∈ cutV (ws.map V.str) lo (some (i : Int))) : ∃ y ∈ ws, y ≠ z ∧ v = .str y := by
  obtain ⟨y, hy, rfl⟩ := List.mem_map.mp (cutV_mem h)
  refine ⟨y, hy, fun e => ?_, rfl⟩
  subst e
  unfold cutV at h
  rw [HT.sIx_nat] at h
  obtain ⟨j, hj, ej⟩ := List.getElem_of_mem h
  rw [List.length_take, List.length_drop] at hj
  rw [List.getElem_take, List.getElem_drop] at ej
  have hil := (List.getElem?_eq_some_iff.mp hz).1
  rw [List.getElem_map] at ej
  have e2 := V.str.inj ej
  have a1 : ws[HT.sIx (ws.map V.str).length 0 lo + j]? = some y := by rw [← e2]; exact List.getElem?_eq_getElem _
  have a2 := (List.getElem?_inj (by rw [List.length_map] at *; omega) nd).mp (a1.trans hz.symm)
  rw [List.length_map] at *
  omega
section
variable {P : Program} {w : World} {K : PySem.W.Frag} {mg : Str → Option Value} {base : Heap}
def spTableS (K : PySem.W.Frag) : Sp := fun vs H Q _ => ∃ (d g c a : Addr) (zs : List Str) (e way : Str), vs = [.ref d, .ref a, .str e, .str way] ∧ DrawAt H d g c ∧ SqL K (off d g H) a (zs.map V.str) ∧ zs.Nodup ∧ (∀ z ∈ zs, Nm z) ∧ Nm e ∧ e ∉ zs ∧ zs.length ≤ 10 ∧
  ∀ (p : Addr) (tb : List (Str × V)) (H' : Hp), TabOk zs e tb → DrawAt H' d g c → Evl.Ex (off d g H) (off d g H') → H p = none → off d g H' p = some (.dK (tkv tb)) → Q (.ref p) H'
abbrev nTable : List Str := ["draw", "nodes", "target", "way", "found", "line", "spot", "node", "other"]
theorem sc_table : FnScope nTable ["draw", "nodes", "target", "way"] (defScope s_table) := ⟨rfl, rfl, rfl, by decide +kernel, rfl, by decide +kernel, by decide +kernel⟩
theorem ok_table {f fM fP : Addr} {fd fdM fdP : FuncData} (F : Fun K "_law_table" "_law_table" s_table f fd)
    (M : FnOk P w K mg base CX0 3 fM fdM ["draw", "some"] (spMixed K)) (kM : PySem.W.keepIn K (.ref fM) = true) (bM : Binds K fdM ["draw", "some"] []) (gM : mg "_law_mixed" = some (.ref fM))
    (PL : FnOk P w K mg base CX0 3 fP fdP ["draw", "some"] (spPickL K)) (kP : PySem.W.keepIn K (.ref fP) = true) (bP : Binds K fdP ["draw", "some"] []) (gP : mg "_law_pick" = some (.ref fP)) (mEnum : mg "enumerate" = none) (mMax : mg "max" = none) :
    FnOk P w K mg base CX0 4 f fd ["draw", "nodes", "target", "way"] (spTableS K) := by
  refine F.ok sc_table (fun vs H Q E h => ?_) (fun cdv A outer s H vs Q E hr h => ?_)
  · obtain ⟨d, g, c, a, zs, e, way, rfl, _⟩ := h
    rfl
  · obtain ⟨d, g, c, a, zs, e, way, rfl, D, hS, hnd, hnm, he, hez, hzl, k⟩ := h
    have nd := sc_table.nd
    have hu := hu_of hr
    refine ⟨_, pss_cons (ps_par (i := 4) (j := 5) (by rfl) nd rfl rfl (by decide) rfl rfl (pa_cons pe_dnewK (pa_cons (pe_call M hr rfl gM kM bM .nil pass0 (pa_cons (pv 0) (pa_cons (pv 1) pa_nil))) pa_nil)) (by rfl))
      (pss_cons (ps_for PassesOwn.never rfl (pi_enum (by rfl) mEnum (pa_cons (pv 5) pa_nil)) (pg_tup rfl (pgs_cons (pg_name (i := 6) nd rfl (.inl rfl)) (pgs_cons (pg_name (i := 7) nd rfl (.inr rfl)) pgs_nil)))
        (pss_one (ps_if (pt_cmpR op_eq (pv 3) pe_str (nomark _))
          (pss_one (ps_dput hu (pv 4) (pv 7) (pe_call PL hr rfl gP kP bP .nil pass0 (pa_cons (pv 0) (pa_cons (pe_op op_cat (pe_op op_cat (pe_lst (pa_cons (pv 2) pa_nil)) (pe_slice sl_list (pv 5) po_none (po_some (pv 6))))
            (pe_op op_rep (pe_slice sl_list (pv 5) (po_some (pe_callB (call_max2 rfl) (by rfl) mMax (by decide +kernel) (pa_cons pe_int (pa_cons (pe_op op_sub (pv 6) pe_int) pa_nil)))) (po_some (pv 6))) pe_int)) pa_nil))) rfl))
          (pss_one (ps_if (pt_cmpR op_eq (pv 3) pe_str (nomark _))
            (pss_one (ps_dput hu (pv 4) (pv 7) (pe_ifExp (pt_cmpR op_gt (pv 6) pe_int (nomark _)) (pe_ix ix_list (pv 5) (pe_op op_sub (pv 6) pe_int) (fun _ _ => rfl)) (pv 2)) rfl))
            (pss_one (ps_dput hu (pv 4) (pv 7) (pe_call PL hr rfl gP kP bP .nil pass0 (pa_cons (pv 0) (pa_cons (pe_op op_cat (pe_lst (pa_cons (pv 2) (pa_cons (pv 2) (pa_cons pe_non pa_nil))))
              (pe_op op_rep (pe_lc (own := [("other", 8)]) (g := gName 8) (tt := tTest (tOp rNe (tVar 8) (tVar 7))) (te := tVar 8) rfl nd (pi_list (pv 1)) (blkOk_by (own := [("other", 8)]) (N := nTable) (sc := defScope s_table) (by decide +kernel))
                (fun _ _ _ _ _ => pg_name (i := 8) nd rfl (Or.inl rfl)) (fun _ _ _ _ _ => pts_one (pt_cmpR op_ne (pv 8) (pv 7) (nomark _))) (fun _ _ _ _ _ => pv 8)) pe_int)) pa_nil))) rfl)))))))
      (pss_one (ps_ret (pv 4)))), ?_⟩
    -- found, line = ({}, _law_mixed(draw, nodes))
    refine fun fd0 hfd => ?_
    have nfd := D.ned hfd
    have D1 : DrawAt (upd H fd0 (.dK [])) d g c := D.new hfd
    have x1 : Evl.Ex (off d g H) (off d g (upd H fd0 (.dK []))) := off_ex (Evl.Ex.new hfd)
    have e1 : off d g (upd H fd0 (.dK [])) fd0 = some (.dK (tkv [])) := off_of upd_same nfd.1 nfd.2.1
    generalize upd H fd0 (.dK []) = H1 at D1 x1 e1
    refine ⟨.ref d, rfl, .ref a, rfl, d, g, c, a, zs.map V.str, rfl, D1, .inl (Evl.ex_l x1 hS), by rw [List.length_map]; omega, fun v hv => ?_, fun lp ys H2 hperm D2 x2 hlp0 hlp => ?_⟩
    · obtain ⟨z, hz, rfl⟩ := List.mem_map.mp hv
      exact nm_data (hnm z hz)
    obtain ⟨ws, rfl, hws⟩ := perm_strs hperm
    have wnd : ws.Nodup := hws.nodup_iff.mpr hnd
    have wl : ws.length ≤ 10 := by rw [hws.length_eq]; exact hzl
    have x12 := x1.trans x2
    have e2 := x2 _ _ e1
    have lf : lp ≠ fd0 := ne_of hlp e2 (by intro z; cases z)
    refine ⟨_, _, rfl, ?_⟩
    -- for spot, node in enumerate(line)
    refine ⟨.ref lp, rfl, lp, _, rfl, Evl.sq_of (off_some hlp).2.2, for_it (walk_enum (K := K) (a := lp) (xs := ws.map V.str))
      (fun i σ H' => ∃ (x6 x7 : Option V) (tb : List (Str × V)), σ = [some (.ref d), some (.ref a), some (.str e), some (.str way), some (.ref fd0), some (.ref lp), x6, x7, none] ∧ tb.map (·.1) = ws.take i ∧ (∀ q ∈ tb, PlaceOk zs e q.1 q.2) ∧
        off d g H' fd0 = some (.dK (tkv tb)) ∧ DrawAt H' d g c ∧ Evl.Ex (off d g H) (off d g H') ∧ off d g H' lp = some (.lst (ws.map V.str)))
      ⟨none, none, [], rfl, rfl, (fun q hq => by cases hq), e2, D2, x12, hlp⟩ (fun i σ H' _ ⟨_, _, _, _, _, _, _, _, _, h⟩ => Evl.sq_of (off_some h).2.2) ?_ ?_⟩
    · rintro i x σ H4 H4' hi ⟨x6, x7, tb, rfl, hk, hps, f4, D4, x4, l4⟩ ⟨Tt, xk, xv, rfl, hTt, rfl, hxk, hxv⟩
      obtain rfl : xk = .int (i : Nat) := (Option.some.inj hxk).symm
      obtain ⟨z, hz, rfl⟩ := str_at hxv
      have hil : i < ws.length := (List.getElem?_eq_some_iff.mp hz).1
      have zz : z ∈ zs := hws.mem_iff.mp (List.mem_of_getElem? hz)
      have etake : ws.take (i + 1) = ws.take i ++ [z] := by rw [List.take_add_one, hz]; rfl
      have hzn : z ∉ ws.take i := fun hm => by
        have h1 : (ws.take (i + 1)).Nodup := wnd.sublist (List.take_sublist _ _)
        rw [etake] at h1
        exact (List.nodup_append.mp h1).2.2 z hm z (List.mem_singleton.mpr rfl) rfl
      have y1 : Evl.Ex H4 (upd H4 Tt (.tup [.int (i : Nat), .str z])) := Evl.Ex.new hTt
      have t1 : (upd H4 Tt (.tup [.int (i : Nat), .str z])) Tt = some (.tup [.int (i : Nat), .str z]) := upd_same
      generalize upd H4 Tt (.tup [.int (i : Nat), .str z]) = H5 at y1 t1
      have D5 := D4.ext y1
      have z5 := off_ex (d := d) (g := g) y1
      have f5 := z5 _ _ f4
      have l5 := z5 _ _ l4
      have x5 := x4.trans z5
      have hfd0 : off d g H fd0 = none := off_free hfd
      have tl : tb.length ≤ 10 := by
        have h1 := congrArg List.length hk
        rw [List.length_map, List.length_take] at h1
        omega
      -- behind each branch
      have fin : ∀ {Hx : Hp} {v : V}, DrawAt Hx d g c → Evl.Ex (off d g H5) (off d g Hx) → PlaceOk zs e z v → ∃ (x6 x7 : Option V) (tb' : List (Str × V)), [some (V.ref d), some (.ref a), some (.str e), some (.str way), some (.ref fd0), some (.ref lp), some (.int (i : Nat)), some (.str z), none] = [some (V.ref d), some (.ref a), some (.str e), some (.str way), some (.ref fd0), some (.ref lp), x6, x7, none] ∧ tb'.map (·.1) = ws.take (i + 1) ∧ (∀ q ∈ tb', PlaceOk zs e q.1 q.2) ∧
          off d g (upd Hx fd0 (.dK (putK (tkv tb) (Sum.inr z) v))) fd0 = some (.dK (tkv tb')) ∧ DrawAt (upd Hx fd0 (.dK (putK (tkv tb) (Sum.inr z) v))) d g c ∧ Evl.Ex (off d g H) (off d g (upd Hx fd0 (.dK (putK (tkv tb) (Sum.inr z) v)))) ∧ off d g (upd Hx fd0 (.dK (putK (tkv tb) (Sum.inr z) v))) lp = some (.lst (ws.map V.str)) := fun {Hx v} Dx xx hv => by
        refine ⟨_, _, tb ++ [(z, v)], rfl, by rw [List.map_append, hk, etake]; rfl, fun q hq => ?_, ?_, Dx.mut nfd.1 nfd.2.1 nfd.2.2, off_mut (x5.trans xx) hfd0, ?_⟩
        · rcases List.mem_append.mp hq with hq | hq
          · exact hps q hq
          · rw [List.mem_singleton.mp hq]
            exact hv
        · rw [tkv_new (by rw [hk]; exact hzn)]
          exact off_of upd_same nfd.1 nfd.2.1
        · have h1 := off_some (xx _ _ l5)
          exact off_of (by rw [upd_ne lf]; exact h1.2.2) h1.1 h1.2.1
      have small : (tkv tb).length < sizeLine := by rw [tkv_len]; exact small1000 (by omega)
      refine ⟨Tt, _, rfl, Evl.st_of t1, rfl, _, _, rfl, _, [], rfl, rfl, ?_⟩
      refine ⟨.str way, rfl, rfl, _, rfl, ite2 (fun _ => ?_) (fun _ => ?_)⟩
      · -- a tree
        refine ⟨.ref d, rfl, .str e, rfl, by show 1 ≤ sizeLine; decide, fun p1 hp1 => ?_⟩
        have y2 : Evl.Ex H5 (upd H5 p1 (.lst [.str e])) := Evl.Ex.new hp1
        have q2 : (upd H5 p1 (.lst [.str e])) p1 = some (.lst [.str e]) := upd_same
        generalize upd H5 p1 (.lst [.str e]) = H6 at y2 q2
        have l6 := (off_some (off_ex (d := d) (g := g) y2 _ _ l5)).2.2
        refine ⟨.ref lp, rfl, .int (i : Nat), rfl, (i : Nat), rfl, lp, _, rfl, Evl.sq_of l6, fun p2 hp2 => ?_⟩
        have cl : ∀ lo hi, (cutV (ws.map V.str) lo hi).length ≤ 10 := fun lo hi => Nat.le_trans (cutV_length _ _ _) (by rw [List.length_map]; exact wl)
        have y3 : Evl.Ex H6 (upd H6 p2 (.lst (cutV (ws.map V.str) none (some (i : Int))))) := Evl.Ex.new hp2
        have q3 : (upd H6 p2 (.lst (cutV (ws.map V.str) none (some (i : Int))))) p2 = some (.lst (cutV (ws.map V.str) none (some (i : Int)))) := upd_same
        generalize upd H6 p2 (.lst (cutV (ws.map V.str) none (some (i : Int)))) = H7 at y3 q3
        refine ⟨p1, p2, _, _, rfl, rfl, y3 _ _ q2, q3, Nat.le_of_lt (small1000 (by have := cl none (some (i : Int)); show 1 + (cutV (ws.map V.str) none (some (i : Int))).length ≤ 1000; omega)), fun p3 hp3 => ?_⟩
        have y4 : Evl.Ex H7 (upd H7 p3 (.lst ([.str e] ++ cutV (ws.map V.str) none (some (i : Int))))) := Evl.Ex.new hp3
        have q4 : (upd H7 p3 (.lst ([.str e] ++ cutV (ws.map V.str) none (some (i : Int))))) p3 = some (.lst ([.str e] ++ cutV (ws.map V.str) none (some (i : Int)))) := upd_same
        generalize upd H7 p3 (.lst ([.str e] ++ cutV (ws.map V.str) none (some (i : Int)))) = H8 at y4 q4
        have y58 := (y2.trans y3).trans y4
        have l8 := (off_some (off_ex (d := d) (g := g) y58 _ _ l5)).2.2
        refine ⟨.ref lp, rfl, .int (i : Nat), rfl, (i : Int), 1, rfl, rfl, 0, (i : Int) - 1, rfl, _, rfl, .int (i : Nat), rfl, (i : Int), rfl, lp, _, rfl, Evl.sq_of l8, fun p4 hp4 => ?_⟩
        obtain ⟨lo, elo⟩ : ∃ lo : Int, lo = (if (i : Int) - 1 > 0 then (i : Int) - 1 else 0) := ⟨_, rfl⟩
        rw [← elo]
        have y5 : Evl.Ex H8 (upd H8 p4 (.lst (cutV (ws.map V.str) (some lo) (some (i : Int))))) := Evl.Ex.new hp4
        have q5 : (upd H8 p4 (.lst (cutV (ws.map V.str) (some lo) (some (i : Int))))) p4 = some (.lst (cutV (ws.map V.str) (some lo) (some (i : Int)))) := upd_same
        generalize upd H8 p4 (.lst (cutV (ws.map V.str) (some lo) (some (i : Int)))) = H9 at y5 q5
        have c5 := cl (some lo) (some (i : Int))
        refine ⟨p4, 2, _, rfl, rfl, q5, by decide +kernel, by decide +kernel, Nat.le_of_lt (small1000 (by show (cutV (ws.map V.str) (some lo) (some (i : Int))).length * 2 ≤ 1000; omega)), fun p5 hp5 => ?_⟩
        have y6 : Evl.Ex H9 (upd H9 p5 (.lst (List.replicate (2 : Int).toNat (cutV (ws.map V.str) (some lo) (some (i : Int)))).flatten)) := Evl.Ex.new hp5
        have q6 : (upd H9 p5 (.lst (List.replicate (2 : Int).toNat (cutV (ws.map V.str) (some lo) (some (i : Int)))).flatten)) p5 = some (.lst (cutV (ws.map V.str) (some lo) (some (i : Int)) ++ cutV (ws.map V.str) (some lo) (some (i : Int)))) := by
          rw [upd_same]
          show some (HO.lst (_ ++ (_ ++ []))) = _
          rw [List.append_nil]
        generalize upd H9 p5 (.lst (List.replicate (2 : Int).toNat (cutV (ws.map V.str) (some lo) (some (i : Int)))).flatten) = HA at y6 q6
        have c3 := cl none (some (i : Int))
        refine ⟨p3, p5, _, _, rfl, rfl, (y5.trans y6) _ _ q4, q6, Nat.le_of_lt (small1000 (by rw [List.length_append, List.length_append]; show 1 + _ + _ ≤ 1000; omega)), fun p6 hp6 => ?_⟩
        have y7 : Evl.Ex HA (upd HA p6 (.lst ([.str e] ++ cutV (ws.map V.str) none (some (i : Int)) ++ (cutV (ws.map V.str) (some lo) (some (i : Int)) ++ cutV (ws.map V.str) (some lo) (some (i : Int)))))) := Evl.Ex.new hp6
        have n6 := (D5.ext (y58.trans (y5.trans y6))).ned hp6
        have q7 : off d g (upd HA p6 (.lst ([.str e] ++ cutV (ws.map V.str) none (some (i : Int)) ++ (cutV (ws.map V.str) (some lo) (some (i : Int)) ++ cutV (ws.map V.str) (some lo) (some (i : Int)))))) p6 = some (.lst ([.str e] ++ cutV (ws.map V.str) none (some (i : Int)) ++ (cutV (ws.map V.str) (some lo) (some (i : Int)) ++ cutV (ws.map V.str) (some lo) (some (i : Int))))) := off_of upd_same n6.1 n6.2.1
        generalize upd HA p6 (.lst ([.str e] ++ cutV (ws.map V.str) none (some (i : Int)) ++ (cutV (ws.map V.str) (some lo) (some (i : Int)) ++ cutV (ws.map V.str) (some lo) (some (i : Int))))) = HB at y7 q7
        have y5B := (y58.trans (y5.trans y6)).trans y7
        refine ⟨d, g, c, p6, _, rfl, D5.ext y5B, Evl.sq_of q7, by rw [List.length_append, List.length_append]; show 0 < 1 + _ + _; omega, ?_, fun j v HC hv DC xC => ?_⟩
        · rw [List.length_append, List.length_append, List.length_append]
          show 1 + _ + _ < 2 ^ 30
          omega
        refine ⟨.ref fd0, rfl, .str z, rfl, fd0, _, rfl, DPut.k (k := Sum.inr z) (off_some (xC _ _ (off_ex y5B _ _ f5))).2.2 small, fin DC ((off_ex y5B).trans xC) ?_⟩
        have ahead : ∀ {lo : Option Int} {v : V}, v ∈ cutV (ws.map V.str) lo (some (i : Int)) → PlaceOk zs e z v := fun {lo v} hv => by
          obtain ⟨y, hy, hne, rfl⟩ := cutV_ahead wnd hz hv
          exact .inr (.inr ⟨y, hws.mem_iff.mp hy, hne, rfl⟩)
        rcases List.mem_append.mp (List.mem_of_getElem? hv) with hv | hv
        · rcases List.mem_append.mp hv with hv | hv
          · rw [List.mem_singleton.mp hv]
            exact .inr (.inl rfl)
          · exact ahead hv
        · rcases List.mem_append.mp hv with hv | hv <;> exact ahead hv
      · refine ⟨.str way, rfl, rfl, _, rfl, ite2 (fun _ => ?_) (fun _ => ?_)⟩
        · -- a path
          refine ⟨.int (i : Nat), rfl, (i : Int), 0, rfl, rfl, _, rfl, ite2 (fun hpos => ?_) (fun _ => ?_)⟩
          · have hpos' : 0 < i := by
              have := of_decide_eq_true hpos
              omega
            obtain ⟨j, rfl⟩ : ∃ j, i = j + 1 := ⟨i - 1, by omega⟩
            have hj : ws[j]? = some ws[j] := List.getElem?_eq_getElem (by omega)
            refine ⟨.ref lp, rfl, .int ((j + 1 : Nat) : Int), rfl, ((j + 1 : Nat) : Int), 1, rfl, rfl, lp, _, _, .str ws[j], rfl, rfl, Evl.sq_of (off_some l5).2.2, ?_, ?_⟩
            · rw [show ((j + 1 : Nat) : Int) - 1 = (j : Int) by omega]
              exact atI_nat (by rw [List.getElem?_map, hj]; rfl)
            · refine ⟨.ref fd0, rfl, .str z, rfl, fd0, _, rfl, DPut.k (k := Sum.inr z) (off_some f5).2.2 small, fin D5 (Evl.Ex.refl _) (.inr (.inr ⟨ws[j], hws.mem_iff.mp (List.getElem_mem _), fun q => ?_, rfl⟩))⟩
              have h1 := (List.getElem?_inj (by omega) wnd).mp (hj.trans (by rw [q]; exact hz.symm))
              omega
          · refine ⟨.str e, rfl, .ref fd0, rfl, .str z, rfl, fd0, _, rfl, DPut.k (k := Sum.inr z) (off_some f5).2.2 small, fin D5 (Evl.Ex.refl _) (.inr (.inl rfl))⟩
        · -- any ways
          refine ⟨.ref d, rfl, .str e, rfl, .str e, rfl, by show 3 ≤ sizeLine; decide, fun p1 hp1 => ?_⟩
          have y2 : Evl.Ex H5 (upd H5 p1 (.lst [.str e, .str e, .non])) := Evl.Ex.new hp1
          have q2 : (upd H5 p1 (.lst [.str e, .str e, .non])) p1 = some (.lst [.str e, .str e, .non]) := upd_same
          generalize upd H5 p1 (.lst [.str e, .str e, .non]) = H6 at y2 q2
          have hS6 : SqL K H6 a (zs.map V.str) := Evl.ex_l ((x5.trans (off_ex y2)).trans (ex_off d g H6)) hS
          refine ⟨.ref a, rfl, a, rfl, ⟨_, hS6⟩, fun sp hsp => lc_list (K := K) (a := a) (xs := zs.map V.str)
            (fun j H' => H' = upd H6 sp (.lst (((zs.take j).filter fun y => decide (y ≠ z)).map V.str))) rfl (fun j H' _ h => by rw [h]; exact Evl.ex_l (Evl.Ex.new hsp) hS6) ?_ ?_⟩
          · rintro j x Hj hj rfl
            obtain ⟨y, hy, rfl⟩ := str_at hj
            have hjl : j < zs.length := (List.getElem?_eq_some_iff.mp hy).1
            have et : zs.take (j + 1) = zs.take j ++ [y] := by rw [List.take_add_one, hy]; rfl
            refine ⟨rfl, .str y, rfl, .str z, rfl, rfl, _, rfl, ?_⟩
            by_cases q : y = z
            · subst q
              refine iteNS rfl ?_
              show upd H6 sp _ = _
              rw [et, List.filter_append, List.filter_cons_of_neg (by simp), List.filter_nil, List.append_nil]
            · have hq : decide (V.str y = V.str z) = false := decide_eq_false fun w => q (V.str.inj w)
              rw [hq]
              refine iteT ?_
              refine ⟨.str y, rfl, _, upd_same, ?_, ?_⟩
              · rw [List.length_map]
                refine small1000 (Nat.le_trans (List.length_filter_le _ _) ?_)
                rw [List.length_take]
                omega
              · show upd (upd H6 sp _) sp _ = _
                rw [upd_upd, et, List.filter_append, List.filter_cons_of_pos (by simp [q]), List.filter_nil, List.map_append]
                rfl
          · rintro Hj rfl
            rw [List.length_map, List.take_length]
            have hfl : (zs.filter fun y => decide (y ≠ z)).length ≤ 10 := Nat.le_trans (List.length_filter_le _ _) hzl
            generalize hF : (zs.filter fun y => decide (y ≠ z)) = fs at hfl
            have fs_ok : ∀ y ∈ fs, y ∈ zs ∧ y ≠ z := fun y hy => by
              rw [← hF] at hy
              have h1 := List.mem_filter.mp hy
              exact ⟨h1.1, of_decide_eq_true h1.2⟩
            have y3 : Evl.Ex H6 (upd H6 sp (.lst (fs.map V.str))) := Evl.Ex.new hsp
            have q3 : (upd H6 sp (.lst (fs.map V.str))) sp = some (.lst (fs.map V.str)) := upd_same
            generalize upd H6 sp (.lst (fs.map V.str)) = H7 at y3 q3
            refine ⟨sp, 2, _, rfl, rfl, q3, by decide +kernel, by decide +kernel, Nat.le_of_lt (small1000 (by rw [List.length_map]; show fs.length * 2 ≤ 1000; omega)), fun p5 hp5 => ?_⟩
            have y6 : Evl.Ex H7 (upd H7 p5 (.lst (List.replicate (2 : Int).toNat (fs.map V.str)).flatten)) := Evl.Ex.new hp5
            have q6 : (upd H7 p5 (.lst (List.replicate (2 : Int).toNat (fs.map V.str)).flatten)) p5 = some (.lst (fs.map V.str ++ fs.map V.str)) := by
              rw [upd_same]
              show some (HO.lst (_ ++ (_ ++ []))) = _
              rw [List.append_nil]
            generalize upd H7 p5 (.lst (List.replicate (2 : Int).toNat (fs.map V.str)).flatten) = HA at y6 q6
            refine ⟨p1, p5, _, _, rfl, rfl, (y3.trans y6) _ _ q2, q6, Nat.le_of_lt (small1000 (by rw [List.length_append, List.length_map]; show 3 + _ ≤ 1000; omega)), fun p6 hp6 => ?_⟩
            have y7 : Evl.Ex HA (upd HA p6 (.lst ([.str e, .str e, .non] ++ (fs.map V.str ++ fs.map V.str)))) := Evl.Ex.new hp6
            have n6 := (D5.ext (y2.trans (y3.trans y6))).ned hp6
            have q7 : off d g (upd HA p6 (.lst ([.str e, .str e, .non] ++ (fs.map V.str ++ fs.map V.str)))) p6 = some (.lst ([.str e, .str e, .non] ++ (fs.map V.str ++ fs.map V.str))) := off_of upd_same n6.1 n6.2.1
            generalize upd HA p6 (.lst ([.str e, .str e, .non] ++ (fs.map V.str ++ fs.map V.str))) = HB at y7 q7
            have y5B := (y2.trans (y3.trans y6)).trans y7
            refine ⟨d, g, c, p6, _, rfl, D5.ext y5B, Evl.sq_of q7, by rw [List.length_append]; show 0 < 3 + _; omega, ?_, fun j v HC hv DC xC => ?_⟩
            · rw [List.length_append, List.length_append, List.length_map]
              show 3 + _ < 2 ^ 30
              omega
            refine ⟨.ref fd0, rfl, .str z, rfl, fd0, _, rfl, DPut.k (k := Sum.inr z) (off_some (xC _ _ (off_ex y5B _ _ f5))).2.2 small, fin DC ((off_ex y5B).trans xC) ?_⟩
            have inF : ∀ {v : V}, v ∈ fs.map V.str → PlaceOk zs e z v := fun {v} hv => by
              obtain ⟨y, hy, rfl⟩ := List.mem_map.mp hv
              exact .inr (.inr ⟨y, (fs_ok y hy).1, (fs_ok y hy).2, rfl⟩)
            rcases List.mem_append.mp (List.mem_of_getElem? hv) with hv | hv
            · rcases List.mem_cons.mp hv with rfl | hv
              · exact .inr (.inl rfl)
              · rcases List.mem_cons.mp hv with rfl | hv
                · exact .inr (.inl rfl)
                · rw [List.mem_singleton.mp hv]
                  exact .inl rfl
            · rcases List.mem_append.mp hv with hv | hv <;> exact inF hv
    · rintro σ H4 ⟨x6, x7, tb, rfl, hk, hps, f4, D4, x4, l4⟩
      rw [List.length_map, List.take_length] at hk
      exact ⟨.ref fd0, rfl, k fd0 tb H4 ⟨by rw [hk]; exact hws, hps⟩ D4 x4 hfd f4⟩
end
end Rw
end T_BA

section T_M2
set_option Elab.async false
set_option linter.all false
set_option maxRecDepth 100000
set_option maxHeartbeats 1000000
namespace Rw
open PySem L2 PyProof.Rows
theorem ex_free {d g p : Addr} {H H' : Hp} (x : Evl.Ex (off d g H) (off d g H')) (h1 : p ≠ d) (h2 : p ≠ g) (h : H' p = none) : H p = none := by
  cases e : H p with
  | none => rfl
  | some o =>
    have z := ex_off d g H' _ _ (x _ _ (off_of e h1 h2))
    rw [h] at z
    cases z
/-- at p a pair of tables for the goal e -/
structure PairAt (H : Hp) (zs : List Str) (e : Str) (p po pn : Addr) (t1 t2 : List (Str × V)) : Prop where
  hp : H p = some (.tup [.ref po, .ref pn])
  ho : H po = some (.dK (tkv t1))
  hn : H pn = some (.dK (tkv t2))
  o1 : TabOk zs e t1
  o2 : TabOk zs e t2
theorem PairAt.ex {H H' : Hp} {zs : List Str} {e : Str} {p po pn : Addr} {t1 t2 : List (Str × V)} (h : PairAt H zs e p po pn t1 t2) (x : Evl.Ex H H') : PairAt H' zs e p po pn t1 t2 := ⟨x _ _ h.hp, x _ _ h.ho, x _ _ h.hn, h.o1, h.o2⟩
def spPair (K : PySem.W.Frag) : Sp := fun vs H Q _ => ∃ (d g c a : Addr) (zs : List Str) (e : Str), vs = [.ref d, .ref a, .str e] ∧ DrawAt H d g c ∧ SqL K (off d g H) a (zs.map V.str) ∧ zs.Nodup ∧ (∀ z ∈ zs, Nm z) ∧ Nm e ∧ e ∉ zs ∧ 0 < zs.length ∧ zs.length ≤ 10 ∧
  ∀ (p po pn : Addr) (t1 t2 : List (Str × V)) (H' : Hp), DrawAt H' d g c → Evl.Ex (off d g H) (off d g H') → PairAt (off d g H') zs e p po pn t1 t2 → H p = none → H po = none → H pn = none → Q (.ref p) H'
/-- the rows of a model: from each goal to a pair of tables -/
def RowsOk (H : Hp) (dots : List Str) (rows : List (Str × V)) : Prop := ∀ q ∈ rows, ∃ (p po pn : Addr) (t1 t2 : List (Str × V)), q.2 = .ref p ∧ PairAt H dots q.1 p po pn t1 t2
theorem RowsOk.ex {H H' : Hp} {dots : List Str} {rows : List (Str × V)} (h : RowsOk H dots rows) (x : Evl.Ex H H') : RowsOk H' dots rows := fun q hq => by
  obtain ⟨p, po, pn, t1, t2, e, z⟩ := h q hq
  exact ⟨p, po, pn, t1, t2, e, z.ex x⟩
theorem TabOk.perm {zs ys : List Str} {e : Str} {tb : List (Str × V)} (h : TabOk zs e tb) (hp : zs.Perm ys) : TabOk ys e tb := by
  refine ⟨h.ks.trans hp, fun q hq => ?_⟩
  rcases h.ps q hq with z | z | ⟨y, hy, hne, z⟩
  · exact .inl z
  · exact .inr (.inl z)
  · exact .inr (.inr ⟨y, hp.subset hy, hne, z⟩)
theorem tkv_inj : ∀ {t1 t2 : List (Str × V)}, tkv t1 = tkv t2 → t1 = t2
  | [], [], _ => rfl
  | [], _ :: _, h => by cases h
  | _ :: _, [], h => by cases h
  | a :: r, b :: q, h => by
    have h1 : ((Sum.inr a.1 : Key), a.2) :: tkv r = (Sum.inr b.1, b.2) :: tkv q := h
    obtain ⟨h2, h3⟩ := List.cons.inj h1
    obtain ⟨e1, e2⟩ := Prod.mk.inj h2
    rw [tkv_inj h3, Prod.ext (Sum.inr.inj e1) e2]
theorem tab_ne {H : Hp} {dots zs : List Str} {e : Str} {rows t1 : List (Str × V)} {t po : Addr} (ht : H t = some (.dK (tkv rows))) (hr : RowsOk H dots rows) (h0 : rows ≠ []) (ho : H po = some (.dK (tkv t1))) (o1 : TabOk zs e t1) : po ≠ t := fun z => by
  subst z
  rw [ht] at ho
  have e1 := tkv_inj (HO.dK.inj (Option.some.inj ho))
  cases rows with
  | nil => exact h0 rfl
  | cons q r =>
    obtain ⟨p, _, _, _, _, e2, _⟩ := hr q List.mem_cons_self
    have h3 := o1.ps q (by rw [← e1]; exact List.mem_cons_self)
    rw [e2] at h3
    rcases h3 with h3 | h3 | ⟨_, _, _, h3⟩ <;> cases h3
theorem tkv_keysV (tb : List (Str × V)) : ((tkv tb).map fun kv => kV kv.1) = (tb.map (·.1)).map V.str := by
  unfold tkv
  rw [List.map_map, List.map_map]
  rfl
/-- what a model is, without the heap -/
structure ModelOk (ends dots ss ps : List Str) : Prop where
  e0 : 0 < ends.length
  e2 : ends.length ≤ 2
  en : ends.Nodup
  es : sortedS ends = true
  em : ∀ z ∈ ends, Nm z
  d0 : 0 < dots.length
  d6 : dots.length ≤ 6
  dn : dots.Nodup
  ds : sortedS dots = true
  dm : ∀ z ∈ dots, Nm z
  ed : ∀ z ∈ ends, z ∉ dots
  sn : ss.Nodup
  sss : sortedS ss = true
  sd : ∀ z ∈ ss, z ∈ dots
  pn : ps.Nodup
  p2 : ps.length ≤ 2
  pd : ∀ z ∈ ps, z ∈ dots
def mkv (tb db sb pb : Addr) : List (Key × V) := [(.inr "tables", .ref tb), (.inr "dots", .ref db), (.inr "sources", .ref sb), (.inr "posts", .ref pb)]
theorem mkv_tables (tb db sb pb : Addr) : valV (mkv tb db sb pb) (.inr "tables") = some (.ref tb) := by kernel_rfl
theorem mkv_dots (tb db sb pb : Addr) : valV (mkv tb db sb pb) (.inr "dots") = some (.ref db) := by kernel_rfl
theorem mkv_sources (tb db sb pb : Addr) : valV (mkv tb db sb pb) (.inr "sources") = some (.ref sb) := by kernel_rfl
theorem mkv_posts (tb db sb pb : Addr) : valV (mkv tb db sb pb) (.inr "posts") = some (.ref pb) := by kernel_rfl
/-- a model stands at m -/
structure ModelAt (H : Hp) (m tb db sb pb : Addr) (ends dots ss ps : List Str) (rows : List (Str × V)) : Prop where
  hm : H m = some (.dK (mkv tb db sb pb))
  ht : H tb = some (.dK (tkv rows))
  hd : H db = some (.lst (dots.map V.str))
  hs : H sb = some (.lst (ss.map V.str))
  hp : H pb = some (.lst (ps.map V.str))
  rk : rows.map (·.1) = ends
  ro : RowsOk H dots rows
  ok : ModelOk ends dots ss ps
theorem ModelAt.ex {H H' : Hp} {m tb db sb pb : Addr} {ends dots ss ps : List Str} {rows : List (Str × V)} (h : ModelAt H m tb db sb pb ends dots ss ps rows) (x : Evl.Ex H H') : ModelAt H' m tb db sb pb ends dots ss ps rows :=
  ⟨x _ _ h.hm, x _ _ h.ht, x _ _ h.hd, x _ _ h.hs, x _ _ h.hp, h.rk, h.ro.ex x, h.ok⟩
/-- a new model -/
def spModel : Sp := fun vs H Q _ => ∃ (d g c : Addr) (e k : Int), vs = [.ref d, .int e, .int k] ∧ DrawAt H d g c ∧ 0 < e ∧ e ≤ 2 ∧ 0 < k ∧ k ≤ 6 ∧
  ∀ (m tb db sb pb : Addr) (ends dots ss ps : List Str) (rows : List (Str × V)) (H' : Hp), DrawAt H' d g c → Evl.Ex (off d g H) (off d g H') → ModelAt (off d g H') m tb db sb pb ends dots ss ps rows → Q (.ref m) H'
end Rw
end T_M2

section T_TK
set_option Elab.async false
set_option linter.all false
namespace Rw
open PySem L2 PyProof.Rows
theorem tkv_val {tb : List (Str × V)} {z : Str} {v : V} (nd : (tb.map (·.1)).Nodup) (h : (z, v) ∈ tb) : valV (tkv tb) (Sum.inr z) = some v := by
  obtain ⟨u, hu, hm⟩ := tkv_some (tb := tb) (z := z) (List.mem_map_of_mem (f := (·.1)) h)
  obtain ⟨i, hi, ei⟩ := List.getElem_of_mem h
  obtain ⟨j, hj, ej⟩ := List.getElem_of_mem hm
  have a : (tb.map (·.1))[i]? = some z := by rw [List.getElem?_map, List.getElem?_eq_getElem hi, ei]; rfl
  have b : (tb.map (·.1))[j]? = some z := by rw [List.getElem?_map, List.getElem?_eq_getElem hj, ej]; rfl
  have ij : i = j := (List.getElem?_inj (by rw [List.length_map]; exact hi) nd).mp (a.trans b.symm)
  subst ij
  have q := ei.symm.trans ej
  rw [hu, (Prod.mk.inj q).2]
theorem tkv_keys (tb : List (Str × V)) : (tkv tb).map (·.1) = (tb.map (·.1)).map Sum.inr := by unfold tkv; rw [List.map_map, List.map_map]; rfl
end Rw
end T_TK

section T_S0
set_option Elab.async false
set_option linter.all false
set_option maxRecDepth 100000
set_option maxHeartbeats 2000000
namespace Rw
open PySem PySem.Spec L2 PyProof.Rows
/-! ### sets of texts -/
def txt (e : Int × Value) : Str := match e.2 with | .str z _ => z | _ => Str.empty
def GoodT (w : World) (e : Int × Value) : Prop := ∃ z tk, e.2 = Value.str z tk ∧ e.1 = hashStr w z
/-- at a the set of the texts ks -/
def SetX (w : World) (h : Heap) (a : Addr) (ks : List Str) : Prop :=
  ∃ o es ep t, h.get? a = some o ∧ o.ExactSet ∧ o.data = .set es ep t ∧ (∀ e ∈ es.toList, GoodT w e) ∧ (es.toList.map txt).Perm ks ∧ ks.Nodup ∧ es.size < scanBound ∧ t.fits es.size = true ∧
    Ris t.place.toList ∧ (w.params.followText "set-order" = true ∨ t.led = true)
section
variable {P : Program} {w : World} {A : Around} {E : Value → Shared → Prop} {s : Shared} {a : Addr} {ks : List Str}
theorem SetX.keep {h h' : Heap} (R : SetX w h a ks) (k : ∀ o, h.get? a = some o → h'.get? a = some o) : SetX w h' a ks := by
  obtain ⟨o, es, ep, t, ho, rest⟩ := R
  exact ⟨o, es, ep, t, k o ho, rest⟩
theorem SetX.size {h : Heap} (R : SetX w h a ks) : ∃ o es ep t, h.get? a = some o ∧ o.ExactSet ∧ o.data = .set es ep t ∧ t.fits es.size = true ∧ es.size = ks.length := by
  obtain ⟨o, es, ep, t, ho, hex, hd, _, pm, _, _, hf, _⟩ := R
  refine ⟨o, es, ep, t, ho, hex, hd, hf, ?_⟩
  rw [← pm.length_eq, List.length_map, Array.length_toList]
theorem goodT_elems {l : List (Int × Value)} (g : ∀ e ∈ l, GoodT w e) : ElemsOf (PySem.strKind P w) l := fun e he => by
  obtain ⟨z, tk, h1, h2⟩ := g e he
  refine ⟨⟨z, by rw [h1]; exact strKind_is _ _ _ _, h2⟩, ?_⟩
  rw [h1]
  rfl
theorem goodT_is {e : Int × Value} (g : GoodT w e) (z : Str) : (PySem.strKind P w).is z e.2 = true ↔ txt e = z := by
  obtain ⟨y, tk, h1, _⟩ := g
  unfold txt
  rw [h1]
  show ((y == z) = true) ↔ y = z
  exact beq_iff_eq
/-- what a new element leaves -/
theorem setX_tail {g : Bool → Sem Unit} (quiet : ∀ (b : Bool) (s₁ : Shared) (Q' : Unit → Shared → Prop), Q' () s₁ → wpAny (model P w) A (g b) Q' E s₁) {o : Obj} {es : Array (Int × Value)} {ep : Nat} {t : SetTable}
    (ho : s.heap.get? a = some o) (hex : o.ExactSet) (hd : o.data = .set es ep t) {es1 : Array (Int × Value)} {t2 : SetTable} (g1 : ∀ e ∈ es1.toList, GoodT w e) (pm1 : (es1.toList.map txt).Perm ks) (nd1 : ks.Nodup)
    (few : es1.size < scanBound) (fit2 : t2.fits es1.size = true) (rise : Ris t2.place.toList) (order : w.params.followText "set-order" = true ∨ t2.led = true) {wasDummy : Bool} {R : Option Bool → Shared → Prop}
    (hR : ∀ h', Heap.SameBut a s.heap h' → SetX w h' a ks → R (some true) { s with heap := h' }) :
    wpAny (model P w) A (do
        storeSet a es1 t2
        if (!wasDummy && t2.tooFull) = true then do
            g (relayAll t2 es1 (SetTable.grown es1.size)).2.2
            storeSet a (relayAll t2 es1 (SetTable.grown es1.size)).1 (relayAll t2 es1 (SetTable.grown es1.size)).2.1
            pure (some true)
          else pure (some true)) R E s := by
  refine wpAny_bind (wpAny_storeSet_of ho hd ?_ (fits_of_scanBound few))
  have at1 := store_at (es' := es1) (t' := t2) ho hd
  have same1 := Heap.SameBut.update s.heap a (Obj.putSet es1 t2)
  split
  · have perm3 := relayAll_perm t2 es1 (SetTable.grown es1.size)
    have fit3 := relayAll_fits t2 es1 (SetTable.grown es1.size)
    have rise3 := relayAll_ris t2 es1 (SetTable.grown es1.size)
    have led3 := relayAll_led t2 es1 (SetTable.grown es1.size)
    generalize relayAll t2 es1 (SetTable.grown es1.size) = out at perm3 fit3 rise3 led3 ⊢
    obtain ⟨es2, t3, gave⟩ := out
    dsimp only at perm3 fit3 rise3 led3 ⊢
    have same_size : es2.size = es1.size := by rw [← Array.length_toList, perm3.length_eq, Array.length_toList]
    have few2 : es2.size < scanBound := by omega
    refine wpAny_bind (quiet _ _ _ ?_)
    refine wpAny_bind (wpAny_storeSet_of at1 rfl ?_ (fits_of_scanBound few2))
    refine wpAny_pure (hR _ (same1.trans (Heap.SameBut.update _ a _)) ?_)
    exact ⟨_, es2, _, t3, store_at (es' := es2) (t' := t3) at1 rfl, hex, rfl, fun e he => g1 e (perm3.mem_iff.mp he), (perm3.map txt).trans pm1, nd1, few2, fit3, rise3, order.imp id fun z => by rw [led3]; exact z⟩
  · exact wpAny_pure (hR _ same1 ⟨_, es1, _, t2, at1, hex, rfl, g1, pm1, nd1, few, fit2, rise, order⟩)
/-- a text is put in -/
theorem setX_add {z : Str} {tk : Tok} {Q : Bool → Shared → Prop} (R : SetX w s.heap a ks) (room : ks.length + 1 < scanBound)
    (hQ : ∀ h', Heap.SameBut a s.heap h' → SetX w h' a (if z ∈ ks then ks else z :: ks) → ∀ b, Q b { s with heap := h' }) :
    wpAny (model P w) A (setAddHashed a (.str z tk) (hashStr w z)) Q E s := by
  obtain ⟨o, es, ep, t, ho, hex, hd, g, pm, nd, hb, hf, hr, hl⟩ := R
  have is_z : (PySem.strKind P w).is z (.str z tk) = true := strKind_is _ _ _ _
  have scans : (Value.str z tk).scannable = true := rfl
  have elems : ElemsOf (PySem.strKind P w) es.toList := goodT_elems g
  have same_hash : hashStr w z = (PySem.strKind P w).hash z := rfl
  rw [same_hash]
  unfold setAddHashed setAddHashedIn
  refine wpAny_holding (wpAny_bind (wpAny_setState_of ho hd hf ?_))
  dsimp only
  rw [byScan_of scans hb elems]
  simp only [↓reduceIte]
  unfold setAddByScan
  refine wpAny_bind ?_
  refine wpAny_bind (wpAny_rule ?_)
  refine wpAny_bind (wpAny_setScan_of is_z ho hd hf elems ?_)
  cases there : List.findIdx? (fun e => (PySem.strKind P w).is z e.2) es.toList with
  | some j =>
    dsimp only
    obtain ⟨hj, at_j, _⟩ := List.findIdx?_eq_some_iff_getElem.mp there
    have mem : z ∈ ks := pm.mem_iff.mp (List.mem_map.mpr ⟨es.toList[j], List.getElem_mem hj, (goodT_is (P := P) (g _ (List.getElem_mem hj)) z).mp at_j⟩)
    refine wpAny_pure (wpAny_pure ?_)
    have q := hQ s.heap (Heap.SameBut.refl a s.heap)
    rw [if_pos mem] at q
    exact q ⟨o, es, ep, t, ho, hex, hd, g, pm, nd, hb, hf, hr, hl⟩ _
  | none =>
    dsimp only
    have notin : z ∉ ks := fun mem => by
      obtain ⟨e, he, q⟩ := List.mem_map.mp (pm.mem_iff.mpr mem)
      have no := List.findIdx?_eq_none_iff.mp there e he
      rw [(goodT_is (P := P) (g e he) z).mpr q] at no
      cases no
    have quiet : ∀ (b : Bool) {s₁ : Shared} {Q' : Unit → Shared → Prop}, Q' () s₁ → wpAny (model P w) A (match b with | true => rule "set.scan.the-table-gave-way" | false => pure ()) Q' E s₁ :=
      fun b s₁ Q' q => by cases b <;> first | exact wpAny_pure q | exact wpAny_rule q
    have perm1 := layNew_perm t es ((PySem.strKind P w).hash z) (.str z tk)
    have fit1 := layNew_fits t es ((PySem.strKind P w).hash z) (.str z tk)
    have rise1 := layNew_ris t es ((PySem.strKind P w).hash z) (.str z tk) hr
    have led1 := layNew_led t es ((PySem.strKind P w).hash z) (.str z tk)
    generalize layNew t es ((PySem.strKind P w).hash z) (.str z tk) = out at perm1 fit1 rise1 led1 ⊢
    obtain ⟨es1, t1, wasDummy, gave⟩ := out
    dsimp only at perm1 fit1 rise1 led1 ⊢
    rw [Array.toList_push] at perm1
    have permc : es1.toList.Perm (((PySem.strKind P w).hash z, Value.str z tk) :: es.toList) := perm1.trans (List.perm_append_singleton _ _)
    have permk : (es1.toList.map txt).Perm (z :: ks) := (permc.map txt).trans (List.Perm.cons _ pm)
    have good1 : ∀ e ∈ es1.toList, GoodT w e := fun e he => by
      rcases List.mem_cons.mp (permc.mem_iff.mp he) with q | q
      · rw [q]; exact ⟨z, tk, rfl, rfl⟩
      · exact g e q
    have nd1 : (z :: ks).Nodup := List.nodup_cons.mpr ⟨notin, nd⟩
    have size1 : es1.size = ks.length + 1 := by
      have := permk.length_eq
      rw [List.length_map, Array.length_toList] at this
      exact this
    have few1 : es1.size < scanBound := by omega
    have order1 : w.params.followText "set-order" = true ∨ t1.led = true := hl.imp id fun q => by rw [led1]; exact q
    have fin : ∀ h', Heap.SameBut a s.heap h' → SetX w h' a (z :: ks) → Q true { s with heap := h' } := fun h' sb r => by
      have q := hQ h' sb
      rw [if_neg notin] at q
      exact q r _
    refine wpAny_bind (quiet _ ?_)
    split
    · refine wpAny_bind ?_
      rw [hashByValue_scannable 8 scans]
      refine wpAny_pure ?_
      refine setX_tail ?_ ho hex hd good1 permk nd1 few1 ?_ ?_ ?_ ?_
      · intro b s₁ Q' q; cases b <;> first | exact wpAny_pure q | exact wpAny_rule q
      · first | (split <;> first | exact fit1 | exact SetTable.fits_plain_off fit1) | exact fit1
      · first | (split <;> exact rise1) | exact rise1
      · first | (split <;> exact order1) | exact order1
      · intro h' sb r; dsimp only; exact wpAny_pure (fin h' sb r)
    · refine wpAny_bind (wpAny_pure ?_)
      simp only [↓reduceIte]
      refine setX_tail ?_ ho hex hd good1 permk nd1 few1 fit1 rise1 order1 ?_
      · intro b s₁ Q' q; cases b <;> first | exact wpAny_pure q | exact wpAny_rule q
      · intro h' sb r; dsimp only; exact wpAny_pure (fin h' sb r)
end
end Rw
end T_S0

section T_S1
set_option Elab.async false
set_option linter.all false
set_option maxRecDepth 100000
set_option maxHeartbeats 4000000
namespace Rw
open PySem PySem.Spec L2 PyProof.Rows
/-! ### set(texts) -/
def put1 (ks : List Str) (z : Str) : List Str := if z ∈ ks then ks else z :: ks
def seen (l : List Str) : List Str := l.foldl put1 []
theorem seen_snoc (l : List Str) (z : Str) : seen (l ++ [z]) = put1 (seen l) z := by
  unfold seen
  rw [List.foldl_append]
  rfl
theorem seen_rev : ∀ l : List Str, (seen l).Nodup ∧ (∀ z, z ∈ seen l ↔ z ∈ l) ∧ (seen l).length ≤ l.length := by
  have go : ∀ (r : List Str), (seen r.reverse).Nodup ∧ (∀ z, z ∈ seen r.reverse ↔ z ∈ r.reverse) ∧ (seen r.reverse).length ≤ r.reverse.length := fun r => by
    induction r with
    | nil => exact ⟨List.nodup_nil, fun z => Iff.rfl, Nat.le_refl _⟩
    | cons x r ih =>
      obtain ⟨h1, h2, h3⟩ := ih
      rw [List.reverse_cons, seen_snoc]
      unfold put1
      by_cases m : x ∈ seen r.reverse
      · rw [if_pos m]
        refine ⟨h1, fun z => ?_, by simp; rw [List.length_reverse] at h3; omega⟩
        rw [h2, List.mem_append, List.mem_singleton]
        exact ⟨.inl, fun q => q.elim id fun e => by rw [e]; exact (h2 x).mp m⟩
      · rw [if_neg m]
        refine ⟨List.nodup_cons.mpr ⟨m, h1⟩, fun z => ?_, by simp; rw [List.length_reverse] at h3; omega⟩
        rw [List.mem_cons, h2, List.mem_append, List.mem_singleton]
        exact Or.comm
  intro l
  have := go l.reverse
  rw [List.reverse_reverse] at this
  exact this
theorem seen_perm {l : List Str} (h : l.Nodup) : (seen l).Perm l := by
  obtain ⟨h1, h2, _⟩ := seen_rev l
  exact (List.perm_ext_iff_of_nodup h1 h).mpr h2
theorem seen_len {l : List Str} (h : l.Nodup) : (seen l).length = l.length := (seen_perm h).length_eq
section
variable {prog : Program} {w : World} {A : Around} {R : Result → Shared → Prop} {I : Addr} {fp wr : List Addr} {G : Array GenState → Array GenState → Prop} {n : Nat} {P : Nat → Value → Prop} {St : Nat → Shared → Prop}
theorem setX_loop (W : WalksS prog w A.in1 I fp wr G n P St) (S : Addr) (apart : S ∉ fp) (xs : List Str) (many : xs.length = n) (few : n < 1000) (texts : ∀ i v, P i v → ∃ t, v = .str (xs.getD i Str.empty) t) :
    ∀ (left i : Nat) (s : Shared), n - i = left → i ≤ n → St i s → SetX w s.heap S (seen (xs.take i)) → (∀ s', Moved (S :: wr) G s s' → SetX w s'.heap S (seen xs) → R (.ok (.ret .none)) s') →
      codeAny (model prog w) A (.builtin "set.update.loop" ⟨[.ref S, .ref I], []⟩) R s := by
  have apart2 : S ∉ wr := fun h => apart (W.sub _ h)
  have wider : ∀ b ∈ wr, b ∈ S :: wr := fun b hb => List.mem_cons_of_mem _ hb
  intro left
  induction left with
  | zero =>
    intro i s hl hi here set_s go
    have at_end : i = n := by omega
    subst at_end
    refine codeAny_builtin PyProof.Rows.F.entry_set_update_loop ?_
    rw [Around.under_plainId PyProof.Rows.F.plain_set_update_loop _]
    show wpAny _ A.in1 (pyNext (.ref I) >>= _) _ _ s
    refine wpAny_bind (W.done s _ _ here fun s' moved => ?_)
    show wpAny _ A.in1 (ret Value.none) _ _ s'
    refine wpAny_pure (go s' (moved.mono wider) ?_)
    rw [List.take_of_length_le (by omega)] at set_s
    exact set_s.keep fun o e => moved.heap S o apart2 e
  | succ left ih =>
    intro i s hl hi here set_s go
    have more : i < n := by omega
    refine codeAny_builtin PyProof.Rows.F.entry_set_update_loop ?_
    rw [Around.under_plainId PyProof.Rows.F.plain_set_update_loop _]
    show wpAny _ A.in1 (pyNext (.ref I) >>= _) _ _ s
    refine wpAny_bind (W.item i s _ _ more here fun v s' is_v here' moved => ?_)
    obtain ⟨t, rfl⟩ := texts i v is_v
    have set_s' : SetX w s'.heap S (seen (xs.take i)) := set_s.keep fun o e => moved.heap S o apart2 e
    have is_i : xs.getD i Str.empty = xs[i]'(by omega) := by rw [List.getD_eq_getElem?_getD, List.getElem?_eq_getElem (by omega)]; rfl
    show wpAny _ A.in1 (holding [Value.str (xs.getD i Str.empty) t] (setAdd S (.str (xs.getD i Str.empty) t)) >>= _) _ _ s'
    refine wpAny_bind (wpAny_holding ?_)
    unfold setAdd
    refine wpAny_holding ?_
    refine wpAny_bind ((PySem.strKind prog w).pyHash (k := xs.getD i Str.empty) (strKind_is _ _ _ _) ?_)
    refine setX_add (P := prog) (s := { s' with toks := s'.toks + 1 }) set_s' ?_ fun h' same set_h b => ?_
    · have := (seen_rev (xs.take i)).2.2
      rw [List.length_take] at this
      unfold scanBound
      omega
    have set_next : SetX w h' S (seen (xs.take (i + 1))) := by
      have e : xs.take (i + 1) = xs.take i ++ [xs.getD i Str.empty] := by rw [List.take_add_one, List.getElem?_eq_getElem (show i < xs.length by omega), is_i]; rfl
      rw [e, seen_snoc]
      exact set_h
    refine wpAny_pure ⟨plainId_quiet PyProof.Rows.F.plain_set_update_loop _, ih (i + 1) _ (by omega) more (W.frame _ s' _ _ here' (Nat.le_succ _) fun b hb o e => ?_) set_next fun s'' moved2 set_all => ?_⟩
    · rw [same.2 b (fun h : b = S => apart (by rw [← h]; exact hb))]
      exact e
    · refine go s'' (Moved.trans W.gtrans ((moved.mono wider).then_heap (Nat.le_succ _) fun b o hb e => ?_) moved2) set_all
      rw [same.2 b (fun h : b = S => hb (by rw [h]; exact List.mem_cons_self))]
      exact e
end
section
variable {prog : Program} {w : World} {A : Around} {E : Value → Shared → Prop} {s : Shared}
theorem call_setX_list {l : Addr} {items : Array Value} {xs : List Str} {Q : Value → Shared → Prop} (hh : A.handled = none) (hl : s.heap.IsList l items) (hi : PyProof.Rows.StrsAre items.toList xs) (few : xs.length < 1000)
    (h : ∀ (h' : Heap) (tk : Nat), SetX w h' s.heap.objs.size (seen xs) → (∀ b o, s.heap.get? b = some o → h'.get? b = some o) → Q (.ref s.heap.objs.size) { s with heap := h', toks := tk }) :
    wpAny (model prog w) A (call (.type "set") [.ref l]) Q E s := by
  obtain ⟨c, tl, mro⟩ := PySem.F.called_set.mro
  have made := PySem.F.called_set.made
  have subs := PySem.F.called_set.sub
  refine wpAny_call (codeAny_of_tree ?_)
  show wpAny _ _ (callAny (.type "set") _) _ _ _
  refine wpAny_pure ⟨Code.quiet_builtin _ (by decide +kernel), codeAny_builtin PySem.F.entry_type_call ?_⟩
  rw [Around.under_plain (weight_type_call_type "set" [.ref l] []) rfl]
  have not_type := PySem.F.called_set.notType
  have creates := PySem.F.called_set.canCreate
  have one := PySem.F.typeCall_set_1 (.ref l)
  repeat (any_goals (first | assumption | wp_step))
  refine codeAny_mono (code_set_led1 (.ref l) (E := E) (Q₁ := fun obj s₁ => obj = .ref s.heap.objs.size ∧ s₁ = { s with heap := s.heap.push { cls := .type "set", dict := none, data := .set #[] 0 (.fresh 0 0 (!w.params.followText "set-order")) } }) ⟨rfl, rfl⟩) fun r s₁ hr => ?_
  cases r with
  | error e => exact hr
  | ok fl =>
    cases fl with
    | ret obj =>
      obtain ⟨rfl, rfl⟩ := hr
      generalize new_is : ({ cls := .type "set", dict := none, data := .set #[] 0 (.fresh 0 0 (!w.params.followText "set-order")) } : Obj) = new
      have at_new : (s.heap.push new).get? s.heap.objs.size = some new := Heap.get?_push_size _ (by rw [← new_is]; rfl)
      have is_set : Shared.TypeIs { s with heap := s.heap.push new } (.ref s.heap.objs.size) "set" := ⟨_, at_new, by rw [← new_is]⟩
      have look_init := PySem.F.called_set.init.lookup
      have bind_init := PySem.F.called_set.init.bind (.ref s.heap.objs.size)
      repeat (any_goals (first | assumption | wp_step))
      refine codeAny_mono (codeAny_call_builtin (R := wants (fun r s₂ => r = .none ∧ ∃ h' tk, s₂ = { s with heap := h', toks := tk } ∧ SetX w h' s.heap.objs.size (seen xs) ∧ (∀ b o, s.heap.get? b = some o → h'.get? b = some o)) E)
        PySem.F.called_set.init.plain PySem.F.entry_set_init (check_set_init_1 is_set ?_)) fun r₂ s₂ hr₂ => ?_
      · obtain ⟨ol, hol, hcl, nl, hdl⟩ := hl
        obtain ⟨ocls, odict, odata, oslots⟩ := ol
        simp only at hcl hdl
        subst hcl; subst hdl
        have at_l : (s.heap.push new).get? l = some { cls := .type "list", dict := odict, data := .seq items nl, slots := oslots } := Heap.get?_push_of_some _ hol
        have no_sub := PySem.F.sub_list_set
        have no_sub2 := PySem.F.sub_list_frozenset
        have no_dict : (Value.type "list" == Value.type "dict") = false := by decide
        have is_l : (s.heap.push new).IsList l items := ⟨_, at_l, rfl, nl, rfl⟩
        have l_lt : l < s.heap.objs.size := Heap.lt_size hol
        have calm3 : A.in1.in1.in1.handled = none := by simp [hh]
        have ne_it : l ≠ (s.heap.push new).objs.size := by
          rw [Heap.size_push]
          exact Nat.ne_of_lt (Nat.lt_succ_of_lt l_lt)
        have apart : s.heap.objs.size ∉ [(s.heap.push new).objs.size, l] := by
          rw [Heap.size_push]
          intro z
          rcases List.mem_cons.mp z with z | z
          · exact absurd z (Nat.ne_of_lt (Nat.lt_succ_self _))
          · exact absurd (List.mem_singleton.mp z) (Nat.ne_of_gt l_lt)
        subst new_is
        unfold Builtin.«set.__init__» noKeywords Builtin.Frozenset.updateFrom
        generalize iter_is : pyIter = PI
        wp_walk
        subst iter_is
        refine wpAny_pyIter_list is_l ?_
        refine wpAny_bind (wpAny_runValue ?_)
        have many : xs.length = items.size := by rw [← StrsAre.len_eq hi, Array.length_toList]
        have texts : ∀ (i : Nat) (v : Value), items[i]? = some v → ∃ t, v = .str (xs.getD i Str.empty) t := fun i v hv => SS.strs_at hi i v (by rw [Array.getElem?_toList]; exact hv)
        refine setX_loop ((Walks.list calm3 _ l ne_it items).toS) s.heap.objs.size apart xs many (by omega) texts (items.size - 0) 0 _ (by omega) (Nat.zero_le _) ⟨⟨_, Heap.get?_push_size _ rfl, rfl, rfl⟩, (is_l.push _)⟩ ?start ?finish
        case start =>
          refine ⟨_, #[], 0, .fresh 0 0 (!w.params.followText "set-order"), Heap.get?_push_of_some _ at_new, ⟨rfl, rfl, rfl⟩, rfl, (fun e he => by cases he), List.Perm.refl _, List.nodup_nil, by decide, by rfl, List.Pairwise.nil, ?_⟩
          cases q : w.params.followText "set-order"
          · exact .inr rfl
          · exact .inl rfl
        case finish =>
          intro s' moved set_all
          obtain ⟨h', g', d', tk', os'⟩ := s'
          have eg : g' = s.gens := moved.gens
          have ed : d' = s.drawn := moved.drawn
          have eo : os' = s.os := moved.os
          subst eg; subst ed; subst eo
          show wpAny _ _ _ _ _ _
          refine wpAny_pure ?_
          show wpAny _ _ (ret Value.none) _ _ _
          refine wpAny_pure ⟨rfl, h', tk', rfl, set_all, fun b o e => ?_⟩
          have b_lt := Heap.lt_size e
          refine moved.heap b o (fun z => ?_) (Heap.get?_push_of_some _ (Heap.get?_push_of_some _ e))
          rcases List.mem_cons.mp z with z | z
          · exact absurd z (Nat.ne_of_lt b_lt)
          · have z := List.mem_singleton.mp z
            rw [Heap.size_push] at z
            exact absurd z (Nat.ne_of_lt (Nat.lt_succ_of_lt b_lt))
      · cases r₂ with
        | error e => exact hr₂
        | ok fl₂ =>
          cases fl₂ with
          | ret r =>
            obtain ⟨rfl, h', tk, rfl, set_all, kept⟩ := hr₂
            repeat (any_goals (first | assumption | wp_step))
            exact h _ _ set_all kept
          | _ => exact hr₂.elim
    | _ => exact hr.elim
theorem call_setX_tuple {l : Addr} {items : Array Value} {xs : List Str} {Q : Value → Shared → Prop} (hh : A.handled = none) (hl : s.heap.IsTuple l items) (hi : PyProof.Rows.StrsAre items.toList xs) (few : xs.length < 1000)
    (h : ∀ (h' : Heap) (tk : Nat), SetX w h' s.heap.objs.size (seen xs) → (∀ b o, s.heap.get? b = some o → h'.get? b = some o) → Q (.ref s.heap.objs.size) { s with heap := h', toks := tk }) :
    wpAny (model prog w) A (call (.type "set") [.ref l]) Q E s := by
  obtain ⟨c, tl, mro⟩ := PySem.F.called_set.mro
  have made := PySem.F.called_set.made
  have subs := PySem.F.called_set.sub
  refine wpAny_call (codeAny_of_tree ?_)
  show wpAny _ _ (callAny (.type "set") _) _ _ _
  refine wpAny_pure ⟨Code.quiet_builtin _ (by decide +kernel), codeAny_builtin PySem.F.entry_type_call ?_⟩
  rw [Around.under_plain (weight_type_call_type "set" [.ref l] []) rfl]
  have not_type := PySem.F.called_set.notType
  have creates := PySem.F.called_set.canCreate
  have one := PySem.F.typeCall_set_1 (.ref l)
  repeat (any_goals (first | assumption | wp_step))
  refine codeAny_mono (code_set_led1 (.ref l) (E := E) (Q₁ := fun obj s₁ => obj = .ref s.heap.objs.size ∧ s₁ = { s with heap := s.heap.push { cls := .type "set", dict := none, data := .set #[] 0 (.fresh 0 0 (!w.params.followText "set-order")) } }) ⟨rfl, rfl⟩) fun r s₁ hr => ?_
  cases r with
  | error e => exact hr
  | ok fl =>
    cases fl with
    | ret obj =>
      obtain ⟨rfl, rfl⟩ := hr
      generalize new_is : ({ cls := .type "set", dict := none, data := .set #[] 0 (.fresh 0 0 (!w.params.followText "set-order")) } : Obj) = new
      have at_new : (s.heap.push new).get? s.heap.objs.size = some new := Heap.get?_push_size _ (by rw [← new_is]; rfl)
      have is_set : Shared.TypeIs { s with heap := s.heap.push new } (.ref s.heap.objs.size) "set" := ⟨_, at_new, by rw [← new_is]⟩
      have look_init := PySem.F.called_set.init.lookup
      have bind_init := PySem.F.called_set.init.bind (.ref s.heap.objs.size)
      repeat (any_goals (first | assumption | wp_step))
      refine codeAny_mono (codeAny_call_builtin (R := wants (fun r s₂ => r = .none ∧ ∃ h' tk, s₂ = { s with heap := h', toks := tk } ∧ SetX w h' s.heap.objs.size (seen xs) ∧ (∀ b o, s.heap.get? b = some o → h'.get? b = some o)) E)
        PySem.F.called_set.init.plain PySem.F.entry_set_init (check_set_init_1 is_set ?_)) fun r₂ s₂ hr₂ => ?_
      · obtain ⟨ol, hol, hcl, nl, hdl⟩ := hl
        obtain ⟨ocls, odict, odata, oslots⟩ := ol
        simp only at hcl hdl
        subst hcl; subst hdl
        have at_l : (s.heap.push new).get? l = some { cls := .type "tuple", dict := odict, data := .seq items nl, slots := oslots } := Heap.get?_push_of_some _ hol
        have no_sub := PySem.F.sub_tuple_set
        have no_sub2 := PySem.F.sub_tuple_frozenset
        have no_dict : (Value.type "tuple" == Value.type "dict") = false := by decide
        have is_l : (s.heap.push new).IsTuple l items := ⟨_, at_l, rfl, nl, rfl⟩
        have l_lt : l < s.heap.objs.size := Heap.lt_size hol
        have calm3 : A.in1.in1.in1.handled = none := by simp [hh]
        have ne_it : l ≠ (s.heap.push new).objs.size := by
          rw [Heap.size_push]
          exact Nat.ne_of_lt (Nat.lt_succ_of_lt l_lt)
        have apart : s.heap.objs.size ∉ [(s.heap.push new).objs.size, l] := by
          rw [Heap.size_push]
          intro z
          rcases List.mem_cons.mp z with z | z
          · exact absurd z (Nat.ne_of_lt (Nat.lt_succ_self _))
          · exact absurd (List.mem_singleton.mp z) (Nat.ne_of_gt l_lt)
        subst new_is
        unfold Builtin.«set.__init__» noKeywords Builtin.Frozenset.updateFrom
        generalize iter_is : pyIter = PI
        wp_walk
        subst iter_is
        refine wpAny_pyIter_tuple is_l ?_
        refine wpAny_bind (wpAny_runValue ?_)
        have many : xs.length = items.size := by rw [← StrsAre.len_eq hi, Array.length_toList]
        have texts : ∀ (i : Nat) (v : Value), items[i]? = some v → ∃ t, v = .str (xs.getD i Str.empty) t := fun i v hv => SS.strs_at hi i v (by rw [Array.getElem?_toList]; exact hv)
        refine setX_loop ((Walks.tuple calm3 _ l ne_it items).toS) s.heap.objs.size apart xs many (by omega) texts (items.size - 0) 0 _ (by omega) (Nat.zero_le _) ⟨⟨_, Heap.get?_push_size _ rfl, rfl, rfl⟩, (is_l.push _)⟩ ?start ?finish
        case start =>
          refine ⟨_, #[], 0, .fresh 0 0 (!w.params.followText "set-order"), Heap.get?_push_of_some _ at_new, ⟨rfl, rfl, rfl⟩, rfl, (fun e he => by cases he), List.Perm.refl _, List.nodup_nil, by decide, by rfl, List.Pairwise.nil, ?_⟩
          cases q : w.params.followText "set-order"
          · exact .inr rfl
          · exact .inl rfl
        case finish =>
          intro s' moved set_all
          obtain ⟨h', g', d', tk', os'⟩ := s'
          have eg : g' = s.gens := moved.gens
          have ed : d' = s.drawn := moved.drawn
          have eo : os' = s.os := moved.os
          subst eg; subst ed; subst eo
          show wpAny _ _ _ _ _ _
          refine wpAny_pure ?_
          show wpAny _ _ (ret Value.none) _ _ _
          refine wpAny_pure ⟨rfl, h', tk', rfl, set_all, fun b o e => ?_⟩
          have b_lt := Heap.lt_size e
          refine moved.heap b o (fun z => ?_) (Heap.get?_push_of_some _ (Heap.get?_push_of_some _ e))
          rcases List.mem_cons.mp z with z | z
          · exact absurd z (Nat.ne_of_lt b_lt)
          · have z := List.mem_singleton.mp z
            rw [Heap.size_push] at z
            exact absurd z (Nat.ne_of_lt (Nat.lt_succ_of_lt b_lt))
      · cases r₂ with
        | error e => exact hr₂
        | ok fl₂ =>
          cases fl₂ with
          | ret r =>
            obtain ⟨rfl, h', tk, rfl, set_all, kept⟩ := hr₂
            repeat (any_goals (first | assumption | wp_step))
            exact h _ _ set_all kept
          | _ => exact hr₂.elim
    | _ => exact hr.elim
end
end Rw
end T_S1

section T_S2
set_option Elab.async false
set_option linter.all false
set_option maxRecDepth 100000
set_option maxHeartbeats 4000000
namespace Rw
open PySem PySem.Spec L2 PyProof.Rows
/-! ### the rules over the layer: a set of texts is a thing of its own -/
def SetXO (w : World) (a : Addr) (ks : List Str) : HO := .ext fun h => SetX w h a ks
theorem setXO_ok {P : Program} {w : World} {H : Hp} {h : Heap} {a : Addr} {ks : List Str} (R : SetX w h a ks) : ObjOk P w H h a (SetXO w a ks) := by
  obtain ⟨o, es, ep, t, ho, rest⟩ := R
  exact ⟨⟨o, es, ep, t, ho, rest⟩, ⟨o, ho⟩, fun h1 h2 x k => x.keep k⟩
section
variable {X : Cx}
/-- set(xs), xs a list or a tuple of texts -/
def rSetX (K : PySem.W.Frag) (w : World) : List V → Hp → VK → Prop := fun vs H Q => ∃ (a : Addr) (xs : List Str), vs = [.ref a] ∧ (SqL K H a (xs.map V.str) ∨ SqT K H a (xs.map V.str)) ∧ xs.length < 1000 ∧
  ∀ p, H p = none → Q (.ref p) (upd H p (SetXO w p (seen xs)))
theorem cr_setX (calm : X.calm = true) : CallR X (.type "set") (rSetX X.K X.w) := by
  intro pins s σ H vs us Q I r reading
  obtain ⟨a, xs, rfl, hq, few, q⟩ := reading
  rw [Vals.ref1 r]
  have fin : ∀ (h' : Heap) (tk : Nat), SetX X.w h' s.heap.objs.size (seen xs) → (∀ b o, s.heap.get? b = some o → h'.get? b = some o) → EP X pins σ Q (.ref s.heap.objs.size) { s with heap := h', toks := tk } := fun h' tk R keep =>
    ⟨.ref _, _, I.laid (t' := tk) keep (Nat.le_refl _) (setXO_ok R), rfl, q _ (I.hok.fresh (Nat.le_refl _))⟩
  rcases hq with hq | hq
  · obtain ⟨its, rv, pl, _⟩ := I.list hq
    exact call_setX_list (I.ok.hd calm) pl.isList (by simpa using strsAre_of rv) few fin
  · obtain ⟨its, rv, pl, _⟩ := I.tuple hq
    exact call_setX_tuple (I.ok.hd calm) pl (by simpa using strsAre_of rv) few fin
/-- len(a set of texts) -/
def rLenX (w : World) : List V → Hp → VK → Prop := fun vs H Q => ∃ (a : Addr) (ks : List Str), vs = [.ref a] ∧ H a = some (SetXO w a ks) ∧ Q (.int (ks.length : Int)) H
theorem cr_lenX : CallR X (.builtin "len") (rLenX X.w) := by
  intro pins s σ H vs us Q I r reading
  obtain ⟨a, ks, rfl, ha, q⟩ := reading
  rw [Vals.ref1 r]
  have R : SetX X.w s.heap a ks := (I.hok a _ ha).1
  obtain ⟨o, es, ep, t, ho, hex, hd, hf, hn⟩ := R.size
  have few : es.size < scanBound := by
    obtain ⟨o', es', ep', t', ho', _, hd', _, _, _, hb, _⟩ := R
    rw [ho] at ho'
    cases ho'
    rw [hd] at hd'
    cases hd'
    exact hb
  exact call_len_set ho hex hd hf (by unfold scanBound at few; omega) ⟨.int (ks.length : Int), H, I.tok _, ⟨_, by rw [hn]⟩, q⟩
/-- sorted(a set of texts) -/
def rSortedX (w : World) : List V → Hp → VK → Prop := fun vs H Q => ∃ (a : Addr) (ks : List Str), vs = [.ref a] ∧ H a = some (SetXO w a ks) ∧ ks.length < 64 ∧
  ∀ (ys : List Str) (p : Addr), ys.Perm ks → sortedS ys = true → H p = none → Q (.ref p) (upd H p (.lst (ys.map V.str)))
theorem strs_are : ∀ vs : List Value, (∀ v ∈ vs, ∃ z tk, v = Value.str z tk) → StrsAre vs (vs.map fun v => match v with | .str z _ => z | _ => Str.empty)
  | [], _ => .nil
  | v :: r, h => by
    obtain ⟨z, tk, rfl⟩ := h v List.mem_cons_self
    exact .cons z tk (strs_are r fun u hu => h u (List.mem_cons_of_mem _ hu))
theorem cr_sortedX (calm : X.calm = true) : CallR X (.builtin "sorted") (rSortedX X.w) := by
  intro pins s σ H vs us Q I r reading
  obtain ⟨a, ks, rfl, ha, h64, q⟩ := reading
  rw [Vals.ref1 r]
  have R : SetX X.w s.heap a ks := (I.hok a _ ha).1
  obtain ⟨o, es, ep, t, ho, hex, hd, good, perm, nd, few, fit, rise, order⟩ := R
  refine Calls.call_function_entry kind_sorted plain_sorted entry_sorted (args_sorted1 _) ?_
  unfold Builtin.«sorted»
  refine wpAny_bind (m := checkCount "sorted" 1 1 _) (wpAny_pure ?_)
  refine wpAny_bind (collect_set (A := X.A.in1) (I.ok.hd calm) ⟨o, ho, hex.1, hd⟩ fit few rise order fun s1 out keep grow gens os permo => ?_)
  have texts : StrsAre out (out.map fun v => match v with | .str z _ => z | _ => Str.empty) := strs_are out fun v hv => by
    obtain ⟨e, he, q⟩ := List.mem_map.mp (permo.mem_iff.mp hv)
    obtain ⟨z, tk, h1, _⟩ := good e he
    exact ⟨z, tk, q.symm.trans h1⟩
  have permk : (out.map fun v => match v with | .str z _ => z | _ => Str.empty).Perm ks := by
    have z := permo.map fun v : Value => match v with | .str z _ => z | _ => Str.empty
    rw [List.map_map] at z
    exact z.trans perm
  have len : out.length = ks.length := by rw [← permk.length_eq, List.length_map]
  refine wpAny_bind (wpAny_newList ?_ (by rw [len, sizeLine_eq]; omega))
  have at_l : (s1.heap.push (seqObj "list" out.toArray 0)).get? s1.heap.objs.size = some (seqObj "list" out.toArray 0) := Heap.get?_push_size _ rfl
  refine wpAny_bind (wpAny_holding (wpAny_call_entry slot_list_sort ⟨_, at_l, rfl⟩ entry_list_sort
    (list_sort_treeK strKind_oneLt (s := { s1 with heap := s1.heap.push (seqObj "list" out.toArray 0) }) at_l texts.keysOf (fun v₁ v₂ rest e => keyKind_strs (by rw [← e]; exact texts)) (by rw [len]; exact h64) fun st' hp hs => ⟨_, rfl, ?_⟩)
    (args_list_sort _)))
  obtain ⟨ys, g1, g2, g3⟩ := sorted_out_str texts hp hs
  obtain ⟨c, at_out⟩ := sortedHeap_at (vs := out) (out := (arrOf st').map (·.2)) at_l
  have lenys : (ys.map V.str).length ≤ sizeLine := by rw [List.length_map, g2.length_eq, List.length_map, len, sizeLine_eq]; omega
  have keep2 : ∀ b u, s.heap.get? b = some u → (sortedHeap (s1.heap.push (seqObj "list" out.toArray 0)) s1.heap.objs.size out ((arrOf st').map (·.2))).get? b = some u := fun b u e => by
    have e1 := keep b u e
    have lt := Heap.lt_size e1
    rw [sortedHeap_old (Nat.ne_of_lt lt) (by rw [size_push']; exact Nat.lt_succ_of_lt lt)]
    exact Heap.get?_push_of_some _ e1
  have fresh : H s1.heap.objs.size = none := I.hok.fresh grow
  obtain ⟨h1, g', d1, t1, os1⟩ := s1
  have eg : g' = s.gens := gens
  have eo : os1 = s.os := os
  subst eg; subst eo
  have J : Inv X pins σ (upd H h1.objs.size (.lst (ys.map V.str))) { s with heap := sortedHeap (h1.push (seqObj "list" out.toArray 0)) h1.objs.size out ((arrOf st').map (·.2)), gens := s.gens, drawn := d1, toks := t1 } :=
    I.call (ch := []) (Un.laid keep2 grow fresh) (I.hok.laid keep2 grow ⟨lenys, ((arrOf st').map (·.2)).toList, c, vals_of_strs g1, by rw [Array.toArray_toList]; exact at_out⟩) I.bare (fun _ z => nomatch z)
  exact wpAny_pure ⟨_, rfl, .ref _, _, J, rfl, q ys _ (g2.trans permk) g3 fresh⟩
end
end Rw
end T_S2

section T_V0
set_option Elab.async false
set_option linter.all false
set_option maxRecDepth 100000
set_option maxHeartbeats 2000000
namespace Rw
open PySem PySem.Spec L2 PyProof.Rows
/-! ### list(d.values()) -/
def tValsL (te : TE) : TE := fun σ H Q => te σ H fun x H1 => ∃ (d : Addr) (kvs : List (Key × V)), x = .ref d ∧ Rd H1 d (.dK kvs) ∧ ∀ p, H1 p = none → Q (.ref p) (upd H1 p (.lst (kvs.map (·.2))))
theorem pairs_vals {P : Program} {w : World} {es : List DictEntry} {vs : List (Key × Value)} (h : Pairs (mixKind P w) es vs) : es.map (·.val) = vs.map (·.2) := by
  induction h with
  | nil => rfl
  | cons _ h2 _ ih =>
    rw [List.map_cons, List.map_cons, ih, h2]
theorem vals_snd : ∀ {kvs : List (Key × V)} {vs : List (Key × Value)}, KV kvs vs → Vals (kvs.map (·.2)) (vs.map (·.2))
  | _, _, .nil => .nil
  | _, _, .cons r t => .cons r.2 (vals_snd t)
section
variable {X : Cx} {e : Expr} {te : TE} {p apos cpos pos : Pos}
theorem pe_listVals (calm : X.calm = true) (he : PE X e te) (glob : Gl X "list") (free : X.mg "list" = none) (base : attributeBase e "values" X.env (eval e X.env) = eval e X.env := by rfl) (line : (apos.endLine == cpos.line) = true := by rfl)
    (arg : starEach [.Call (.Attribute e "values" apos) [] [] cpos] X.env = (false, eval (.Call (.Attribute e "values" apos) [] [] cpos) X.env) :: starEach [] X.env := by rfl) :
    PE X (.Call (.Name "list" p) [.Call (.Attribute e "values" apos) [] [] cpos] [] pos) (tValsL te) := by
  constructor
  intro pins s σ H Q I reading
  refine wpAny_Call_Name_kw (ld_blt I glob free (show bootBuiltins "list" = some (.type "list") by decide +kernel) ?_)
  refine PyProof.Rows.callWith_type1 ?_ arg rfl
  rw [arg]
  show wpAny _ _ (spliced ((false, eval (.Call (.Attribute e "values" apos) [] [] cpos) X.env) :: backTo pos (starEach [] X.env))) _ _ s
  refine Calls.spliced_cons ?_
  refine wpAny_Call_method (T := "dict") (id := "dict.values") base rfl line F.plainAttrs_dict F.slot_dict_values F.type_dict_values (thn (he.run pins s σ H _ I reading) ?_)
  rintro u s1 ⟨x, H1, I1, rx, d, kvs, rfl, hd, q⟩
  have u_is : u = Value.ref d := rx
  subst u_is
  obtain ⟨few, low, vs, kv, hdo⟩ := hd.ok I1.hok
  have I2 : Inv X pins σ H1 { s1 with heap := s1.heap.push { cls := .type "dict_values", data := .fields #[.ref d] } } := I1.kept (t' := s1.toks) fun b ob z => Heap.get?_push_of_some _ z
  refine ⟨hdo.typeIs, hdo.mapOf.noDict, ?_⟩
  show wpAny _ _ (callWith cpos (.builtin "dict.values") [.ref d] [] []) _ X.xe s1
  refine method_meetsIn F.slot_dict_values F.entry_dict_values rfl (PySem.evalArgs_none ⟨rfl, hdo.typeIs, F.args_dict_values_1 _, _, meets_dict_values (mixKind X.prog X.w) d low, ⟨vs, hdo⟩, ?_⟩)
  refine Calls.spliced_nil ?_
  obtain ⟨o, es, ep, ho, exact_, hdat, keys, prs, nd⟩ := hdo
  have esz : es.size = vs.length := by
    have := prs.length
    simpa using this
  have lk : kvs.length = vs.length := Paired.length kv
  refine PySem.W.kdl_call (KdlSrc.rawValues (es := es) (ep := ep) (d := d)) (I1.ok.hd calm) ⟨⟨_, Heap.get?_push_size _ rfl, rfl, rfl⟩, ⟨o, Heap.get?_push_of_some _ ho, exact_, hdat⟩⟩ (by omega) fun h' tk acc c keep at_p got => ?_
  have fresh : H1 s1.heap.objs.size = none := I1.hok.fresh (Nat.le_refl _)
  have fresh2 : H1 (s1.heap.push { cls := .type "dict_values", data := .fields #[.ref d] }).objs.size = none := I1.hok.fresh (by rw [Heap.size_push]; exact Nat.le_succ _)
  have acc_is : acc.toList = vs.map (·.2) := by
    rw [← pairs_vals prs]
    obtain ⟨g1, g2⟩ := got
    refine List.ext_getElem (by rw [List.length_map, Array.length_toList, Array.length_toList, g1]) fun j h1 h2 => ?_
    have z : acc[j]? = some acc.toList[j] := by rw [← Array.getElem?_toList, List.getElem?_eq_getElem h1]
    obtain ⟨hj, e⟩ := g2 j _ z
    rw [e, List.getElem_map, Array.getElem_toList]
  refine ⟨.ref _, _, I2.laid (t' := tk) keep (Nat.le_refl _) ?_, rfl, q _ fresh2⟩
  exact ⟨by rw [List.length_map]; exact few, acc.toList, c, by rw [acc_is]; exact vals_snd kv, by simpa using at_p⟩
end
end Rw
end T_V0

section T_P0
set_option Elab.async false
set_option linter.all false
set_option maxRecDepth 100000
set_option maxHeartbeats 2000000
namespace Rw
open PySem L2 PyProof.Rows
/-! ### lists of True -/
section
variable {K : PySem.W.Frag} {a D : Addr} {xs : List V} {g : TG} {tt : TT} {te : TE} {vs : List Nat} {σ : L2.St} {H : Hp} {Qd : Hp → Prop}
theorem lc_trues (hx : SqL K H a xs) (hD : H D = none) (hl : xs.length < 1000)
    (turn : ∀ (i : Nat) (x : V) (H1 : Hp) (Q : VK) (R : Hp → Prop), xs[i]? = some x → Evl.Ex H H1 → (∀ H4, Evl.Ex H1 H4 → Q (.bl true) H4) → g x (wipe σ vs) H1 fun σ2 H2 => wipe σ2 vs = wipe σ vs ∧ tt σ2 H2 fun b H3 => if b = true then te σ2 H3 Q else R H3)
    (fin : ∀ H1, Evl.Ex H H1 → H1 D = some (.lst ((List.replicate xs.length true).map V.bl)) → Qd H1) :
    ∃ W : Nat → Nat → Hp → Prop, (∃ m, W 0 m (upd H D (.lst []))) ∧ ∀ i m H1, W i m H1 →
      ((Itl K a).stop i H1 ∧ Qd H1) ∨ ((Itl K a).go i H1 ∧ ∃ Nx : Hp → Prop, (∀ H', Nx H' → ∃ m', m' < m ∧ W (i + 1) m' H') ∧ ∀ x H', (Itl K a).yld i H1 x H' → g x (wipe σ vs) H' fun σ2 H2 => wipe σ2 vs = wipe σ vs ∧ tt σ2 H2 fun b H3 =>
        if b = true then te σ2 H3 fun y H4 => ∃ acc, H4 D = some (.lst acc) ∧ acc.length < sizeLine ∧ Nx (upd H4 D (.lst (acc ++ [y]))) else Nx H3) := by
  refine lc_list (K := K) (a := a) (xs := xs) (fun i H1 => i ≤ xs.length ∧ Evl.Ex H H1 ∧ H1 D = some (.lst ((List.replicate i true).map V.bl))) ⟨Nat.zero_le _, Evl.Ex.new hD, upd_same⟩ (fun i H1 _ h => Evl.ex_l h.2.1 hx) ?_ (fun H1 h => fin H1 h.2.1 h.2.2)
  rintro i x H1 hi ⟨_, e1, d1⟩
  have hil : i < xs.length := (List.getElem?_eq_some_iff.mp hi).1
  refine turn i x H1 _ _ hi e1 fun H4 e4 => ⟨_, e4 _ _ d1, ?_, hil, (e1.trans e4).mut hD, ?_⟩
  · rw [List.length_map, List.length_replicate]
    exact small1000 (by omega)
  · rw [upd_same, List.replicate_succ', List.map_append]
    rfl
theorem lc_truesT (hx : SqT K H a xs) (hD : H D = none) (hl : xs.length < 1000)
    (turn : ∀ (i : Nat) (x : V) (H1 : Hp) (Q : VK) (R : Hp → Prop), xs[i]? = some x → Evl.Ex H H1 → (∀ H4, Evl.Ex H1 H4 → Q (.bl true) H4) → g x (wipe σ vs) H1 fun σ2 H2 => wipe σ2 vs = wipe σ vs ∧ tt σ2 H2 fun b H3 => if b = true then te σ2 H3 Q else R H3)
    (fin : ∀ H1, Evl.Ex H H1 → H1 D = some (.lst ((List.replicate xs.length true).map V.bl)) → Qd H1) :
    ∃ W : Nat → Nat → Hp → Prop, (∃ m, W 0 m (upd H D (.lst []))) ∧ ∀ i m H1, W i m H1 →
      ((Itt K a).stop i H1 ∧ Qd H1) ∨ ((Itt K a).go i H1 ∧ ∃ Nx : Hp → Prop, (∀ H', Nx H' → ∃ m', m' < m ∧ W (i + 1) m' H') ∧ ∀ x H', (Itt K a).yld i H1 x H' → g x (wipe σ vs) H' fun σ2 H2 => wipe σ2 vs = wipe σ vs ∧ tt σ2 H2 fun b H3 =>
        if b = true then te σ2 H3 fun y H4 => ∃ acc, H4 D = some (.lst acc) ∧ acc.length < sizeLine ∧ Nx (upd H4 D (.lst (acc ++ [y]))) else Nx H3) := by
  refine lc_tup (K := K) (a := a) (xs := xs) (fun i H1 => i ≤ xs.length ∧ Evl.Ex H H1 ∧ H1 D = some (.lst ((List.replicate i true).map V.bl))) ⟨Nat.zero_le _, Evl.Ex.new hD, upd_same⟩ (fun i H1 _ h => Evl.ex_t h.2.1 hx) ?_ (fun H1 h => fin H1 h.2.1 h.2.2)
  rintro i x H1 hi ⟨_, e1, d1⟩
  have hil : i < xs.length := (List.getElem?_eq_some_iff.mp hi).1
  refine turn i x H1 _ _ hi e1 fun H4 e4 => ⟨_, e4 _ _ d1, ?_, hil, (e1.trans e4).mut hD, ?_⟩
  · rw [List.length_map, List.length_replicate]
    exact small1000 (by omega)
  · rw [upd_same, List.replicate_succ', List.map_append]
    rfl
end
theorem lc_truesW {J : It} {n : Nat} {G : Hp → Prop} {Yx : Nat → V → Prop} {D : Addr} {g : TG} {tt : TT} {te : TE} {vs : List Nat} {σ : L2.St} {H : Hp} {Qd : Hp → Prop} (wk : Walk J n G (fun i H x H' => H' = H ∧ Yx i x)) (hG : ∀ H1, Evl.Ex H H1 → G H1) (hD : H D = none) (hl : n < 1000)
    (turn : ∀ (i : Nat) (x : V) (H1 : Hp) (Q : VK) (R : Hp → Prop), i < n → Yx i x → Evl.Ex H H1 → (∀ H4, Evl.Ex H1 H4 → Q (.bl true) H4) → g x (wipe σ vs) H1 fun σ2 H2 => wipe σ2 vs = wipe σ vs ∧ tt σ2 H2 fun b H3 => if b = true then te σ2 H3 Q else R H3)
    (fin : ∀ H1, Evl.Ex H H1 → H1 D = some (.lst ((List.replicate n true).map V.bl)) → Qd H1) :
    ∃ W : Nat → Nat → Hp → Prop, (∃ m, W 0 m (upd H D (.lst []))) ∧ ∀ i m H1, W i m H1 →
      (J.stop i H1 ∧ Qd H1) ∨ (J.go i H1 ∧ ∃ Nx : Hp → Prop, (∀ H', Nx H' → ∃ m', m' < m ∧ W (i + 1) m' H') ∧ ∀ x H', J.yld i H1 x H' → g x (wipe σ vs) H' fun σ2 H2 => wipe σ2 vs = wipe σ vs ∧ tt σ2 H2 fun b H3 =>
        if b = true then te σ2 H3 fun y H4 => ∃ acc, H4 D = some (.lst acc) ∧ acc.length < sizeLine ∧ Nx (upd H4 D (.lst (acc ++ [y]))) else Nx H3) := by
  refine lc_it wk (fun i H1 => i ≤ n ∧ Evl.Ex H H1 ∧ H1 D = some (.lst ((List.replicate i true).map V.bl))) ⟨Nat.zero_le _, Evl.Ex.new hD, upd_same⟩ (fun i H1 _ h => hG H1 h.2.1) ?_ (fun H1 h => fin H1 h.2.1 h.2.2)
  rintro i x H1 H1' hi ⟨_, e1, d1⟩ ⟨rfl, hy⟩
  refine turn i x H1' _ _ hi hy e1 fun H4 e4 => ⟨_, e4 _ _ d1, ?_, hi, (e1.trans e4).mut hD, ?_⟩
  · rw [List.length_map, List.length_replicate]
    exact small1000 (by omega)
  · rw [upd_same, List.replicate_succ', List.map_append]
    rfl
theorem all_trues (n : Nat) : (List.replicate n true).all id = true := by
  induction n with
  | zero => rfl
  | succ n ih => rw [List.replicate_succ, List.all_cons, ih]; rfl
theorem sign_le {a b : Nat} (h : a ≤ b) : (!decide (([b] : List Nat) < [a])) = true := by
  have n : ¬ (([b] : List Nat) < [a]) := by
    rw [List.cons_lt_cons_iff]
    rintro (q | ⟨_, q⟩)
    · omega
    · exact absurd q (List.lt_irrefl _)
  rw [decide_eq_false n]
  rfl
/-- a list or a tuple of these texts -/
def SqS (K : PySem.W.Frag) (H : Hp) (a : Addr) (zs : List Str) : Prop := SqL K H a (zs.map V.str) ∨ SqT K H a (zs.map V.str)
theorem SqS.ex {K : PySem.W.Frag} {H H' : Hp} {a : Addr} {zs : List Str} (h : SqS K H a zs) (e : Evl.Ex H H') : SqS K H' a zs := h.imp (Evl.ex_l e) (Evl.ex_t e)
theorem SqS.sq {K : PySem.W.Frag} {H : Hp} {a : Addr} {zs : List Str} (h : SqS K H a zs) : SqL K H a (zs.map V.str) ∨ SqT K H a (zs.map V.str) := h
theorem ty_sl {K : PySem.W.Frag} {H : Hp} {a : Addr} {xs : List V} (h : SqL K H a xs) : TyX K H (.ref a) (.type "list") := by
  rcases h with (q | ⟨o, q⟩) | ⟨o, its, n, e, c, _⟩
  · exact .base (.lst q)
  · exact .base (.frz q)
  · exact .kList e c
theorem ty_st {K : PySem.W.Frag} {H : Hp} {a : Addr} {xs : List V} (h : SqT K H a xs) : TyX K H (.ref a) (.type "tuple") := by
  rcases h with (q | ⟨o, q⟩) | ⟨o, its, n, e, c, _⟩
  · exact .base (.tup q)
  · exact .fTuple q
  · exact .kTuple e c
/-- an answer True, all else as it was -/
def spYes (pre : List V → Hp → Prop) (n : Nat) : Sp := fun vs H Q _ => vs.length = n ∧ pre vs H ∧ ∀ H', Evl.Ex H H' → Q (.bl true) H'
/-- a list or a tuple of names that is tracked -/
def SqH (H : Hp) (a : Addr) (zs : List Str) : Prop := H a = some (.lst (zs.map V.str)) ∨ H a = some (.tup (zs.map V.str))
theorem SqH.ex {H H' : Hp} {a : Addr} {zs : List Str} (h : SqH H a zs) (e : Evl.Ex H H') : SqH H' a zs := h.imp (e _ _) (e _ _)
theorem SqH.k {K : PySem.W.Frag} {H : Hp} {a : Addr} {zs : List Str} (h : SqH H a zs) : SqS K H a zs := h.imp Evl.sq_of Evl.st_of
end Rw
end T_P0

section T_N0
set_option Elab.async false
set_option linter.all false
set_option maxRecDepth 100000
set_option maxHeartbeats 1000000
namespace Rw
open PySem PySem.Spec L2 PyProof.Rows
/-! ### one ascending order -/
def TLe (a b : Str) : Prop := a.cps.toList ≤ b.cps.toList
theorem rising_pair : ∀ (r : List Str) (p : Str), risingS p r = true → (p :: r).Pairwise TLe
  | [], p, _ => List.pairwise_singleton _ _
  | x :: r, p, h => by
    have h' : (!ltCps x.cps.toList p.cps.toList && risingS x r) = true := h
    rw [Bool.and_eq_true] at h'
    have ih := rising_pair r x h'.2
    have px : TLe p x := by
      have z := h'.1
      rw [ltCps_eq] at z
      show ¬ (x.cps.toList < p.cps.toList)
      intro q
      rw [decide_eq_true q] at z
      cases z
    refine List.pairwise_cons.mpr ⟨fun y hy => ?_, ih⟩
    rcases List.mem_cons.mp hy with rfl | hy
    · exact px
    · exact List.le_trans px ((List.pairwise_cons.mp ih).1 y hy)
theorem sorted_pair {l : List Str} (h : sortedS l = true) : l.Pairwise TLe := by
  cases l with
  | nil => exact List.Pairwise.nil
  | cons x r => exact rising_pair r x h
theorem sorted_uniq {xs ys : List Str} (hx : sortedS xs = true) (hy : sortedS ys = true) (hp : xs.Perm ys) : xs = ys :=
  List.Perm.eq_of_pairwise (le := TLe) (fun a b _ _ h1 h2 => by
    have e : a.cps.toList = b.cps.toList := List.le_antisymm h1 h2
    rw [← SX.S_tl a, ← SX.S_tl b, e]) (sorted_pair hx) (sorted_pair hy) hp
/-! ### nets -/
/-- a table in the order of these names -/
def canon (dots : List Str) (tb : List (Str × V)) : List (Str × V) := dots.map fun z => (z, (valV (tkv tb) (Sum.inr z)).getD .non)
theorem canon_keys (dots : List Str) (tb : List (Str × V)) : (canon dots tb).map (·.1) = dots := by
  unfold canon
  rw [List.map_map]
  exact List.map_id _
theorem canon_ok {dots : List Str} {e : Str} {tb : List (Str × V)} (h : TabOk dots e tb) : TabOk dots e (canon dots tb) := by
  refine ⟨by rw [canon_keys], fun q hq => ?_⟩
  unfold canon at hq
  obtain ⟨z, hz, rfl⟩ := List.mem_map.mp hq
  obtain ⟨v, hv, hm⟩ := tkv_some (tb := tb) (z := z) (h.ks.mem_iff.mpr hz)
  show PlaceOk dots e z ((valV (tkv tb) (Sum.inr z)).getD .non)
  rw [hv]
  exact h.ps _ hm
theorem canon_get {dots : List Str} {tb : List (Str × V)} {z : Str} (hz : z ∈ dots) : valV (tkv (canon dots tb)) (Sum.inr z) = some ((valV (tkv tb) (Sum.inr z)).getD .non) := by
  induction dots with
  | nil => cases hz
  | cons y r ih =>
    show valV ((Sum.inr y, (valV (tkv tb) (Sum.inr y)).getD .non) :: tkv (canon r tb)) (Sum.inr z) = _
    by_cases e : y = z
    · subst e
      exact valV_pos (p := ((Sum.inr y : Key), (valV (tkv tb) (Sum.inr y)).getD .non)) rfl
    · rw [valV_neg (fun w => e (Sum.inr.inj w))]
      exact ih ((List.mem_cons.mp hz).resolve_left fun w => e w.symm)
/-- the rows of a model, told by functions -/
def RowsAt (H : Hp) (ends dots : List Str) (rows : List (Str × V)) (o n : Str → List (Str × V)) : Prop :=
  ∀ e ∈ ends, ∃ p po pn : Addr, valV (tkv rows) (Sum.inr e) = some (.ref p) ∧ PairAt H dots e p po pn (o e) (n e)
theorem RowsAt.ex {H H' : Hp} {ends dots : List Str} {rows : List (Str × V)} {o n : Str → List (Str × V)} (h : RowsAt H ends dots rows o n) (x : Evl.Ex H H') : RowsAt H' ends dots rows o n := fun e he => by
  obtain ⟨p, po, pn, h1, h2⟩ := h e he
  exact ⟨p, po, pn, h1, h2.ex x⟩
theorem RowsAt.of {H : Hp} {ends dots : List Str} {rows : List (Str × V)} (h : RowsOk H dots rows) (hk : rows.map (·.1) = ends) : ∃ o n : Str → List (Str × V), RowsAt H ends dots rows o n := by
  have all : ∀ e : Str, ∃ t : List (Str × V) × List (Str × V), e ∈ ends → ∃ p po pn : Addr, valV (tkv rows) (Sum.inr e) = some (.ref p) ∧ PairAt H dots e p po pn t.1 t.2 := fun e => by
    by_cases he : e ∈ ends
    · obtain ⟨v, hv1, hv2⟩ := tkv_some (tb := rows) (z := e) (by rw [hk]; exact he)
      obtain ⟨p, po, pn, t1, t2, e1, pa⟩ := h _ hv2
      have e1' : v = .ref p := e1
      subst e1'
      exact ⟨(t1, t2), fun _ => ⟨p, po, pn, hv1, pa⟩⟩
    · exact ⟨([], []), fun q => absurd q he⟩
  refine ⟨fun e => (Classical.choose (all e)).1, fun e => (Classical.choose (all e)).2, fun e he => Classical.choose_spec (all e) he⟩
def nflds (T N S P : Addr) : List (Str × V) := [("_tables", .ref T), ("_nodes", .ref N), ("_sources", .ref S), ("_posts", .ref P)]
theorem nflds_tables (T N S P : Addr) : (nflds T N S P).lookup ("_tables" : Str) = some (.ref T) := by kernel_rfl
theorem nflds_nodes (T N S P : Addr) : (nflds T N S P).lookup ("_nodes" : Str) = some (.ref N) := by kernel_rfl
theorem nflds_sources (T N S P : Addr) : (nflds T N S P).lookup ("_sources" : Str) = some (.ref S) := by kernel_rfl
theorem nflds_posts (T N S P : Addr) : (nflds T N S P).lookup ("_posts" : Str) = some (.ref P) := by kernel_rfl
/-- a net stands at m -/
structure NetAt (C : Addr) (H : Hp) (m : Addr) (ends dots ss ps : List Str) (o n : Str → List (Str × V)) : Prop where
  ex : ∃ (dx T N S P : Addr) (rows : List (Str × V)), H m = some (.ins C dx (nflds T N S P)) ∧ H T = some (.dK (tkv rows)) ∧ H N = some (.tup (dots.map V.str)) ∧ H S = some (.tup (ss.map V.str)) ∧ H P = some (.tup (ps.map V.str)) ∧
    rows.map (·.1) = ends ∧ RowsAt H ends dots rows (fun e => canon dots (o e)) (fun e => canon dots (n e))
theorem NetAt.to {C : Addr} {H H' : Hp} {m : Addr} {ends dots ss ps : List Str} {o n : Str → List (Str × V)} (h : NetAt C H m ends dots ss ps o n) (x : Evl.Ex H H') : NetAt C H' m ends dots ss ps o n := by
  obtain ⟨dx, T, N, S, P, rows, h1, h2, h3, h4, h5, h6, h7⟩ := h
  exact ⟨dx, T, N, S, P, rows, x _ _ h1, x _ _ h2, x _ _ h3, x _ _ h4, x _ _ h5, h6, h7.ex x⟩
theorem ex_none {H H' : Hp} {p : Addr} (x : Evl.Ex H H') (h : H' p = none) : H p = none := by
  cases q : H p with
  | none => rfl
  | some u => rw [x _ _ q] at h; cases h
/-- what H' has behind H -/
def rest (H H' : Hp) : Hp := fun a => match H a with | none => H' a | some _ => none
theorem rest_of {H H' : Hp} {a : Addr} {o : HO} (h0 : H a = none) (h : H' a = some o) : rest H H' a = some o := by
  unfold rest
  rw [h0]
  exact h
theorem rest_ex (H H' : Hp) : Evl.Ex (rest H H') H' := fun a o h => by
  unfold rest at h
  cases e : H a with
  | none => rw [e] at h; exact h
  | some _ => rw [e] at h; cases h
theorem rest_off {d g c : Addr} {H H' : Hp} (D : DrawAt H d g c) : Evl.Ex (rest H H') (off d g H') := fun a o h => by
  have h' := rest_ex H H' a o h
  refine off_of h' (fun z => ?_) (fun z => ?_)
  · subst z
    obtain ⟨r, t, hd⟩ := D.ex
    unfold rest at h
    rw [hd] at h
    cases h
  · subst z
    obtain ⟨gs, hg⟩ := D.gl
    unfold rest at h
    rw [hg] at h
    cases h
theorem rest_mono {H H1 H2 : Hp} (e : Evl.Ex H1 H2) : Evl.Ex (rest H H1) (rest H H2) := fun a o h => by
  unfold rest at h ⊢
  cases q : H a with
  | none => rw [q] at h; exact e a o h
  | some _ => rw [q] at h; cases h
theorem nf1 (T : Addr) : putF "_tables" (.ref T) [] = ([("_tables", .ref T)] : List (Str × V)) := rfl
theorem nf2 (T N : Addr) : putF "_nodes" (.ref N) [("_tables", .ref T)] = ([("_tables", .ref T), ("_nodes", .ref N)] : List (Str × V)) := by kernel_rfl
theorem nf3 (T N S : Addr) : putF "_sources" (.ref S) [("_tables", .ref T), ("_nodes", .ref N)] = ([("_tables", .ref T), ("_nodes", .ref N), ("_sources", .ref S)] : List (Str × V)) := by kernel_rfl
theorem nf4 (T N S P : Addr) : putF "_posts" (.ref P) [("_tables", .ref T), ("_nodes", .ref N), ("_sources", .ref S)] = nflds T N S P := by kernel_rfl
theorem nf1_get (T : Addr) : ([("_tables", .ref T)] : List (Str × V)).lookup ("_tables" : Str) = some (.ref T) := by kernel_rfl
theorem canon_snoc (l : List Str) (z : Str) (tb : List (Str × V)) : canon (l ++ [z]) tb = canon l tb ++ [(z, (valV (tkv tb) (Sum.inr z)).getD .non)] := by
  unfold canon
  rw [List.map_append]
  rfl
/-- {node: table[node] for node in nodes}, the table in slot i -/
theorem dc_canon {K : PySem.W.Frag} {N po D : Addr} {dots : List Str} {e : Str} {tb : List (Str × V)} {σ : L2.St} {i j : Nat} {H : Hp} {Qd : Hp → Prop} (hN : H N = some (.tup (dots.map V.str))) (hpo : H po = some (.dK (tkv tb))) (ok : TabOk dots e tb) (nd : dots.Nodup) (few : dots.length ≤ 100) (hD : H D = none)
    (slot : ∀ x : V, ((wipe σ [j]).set j (some x))[i]? = some (some (.ref po))) (own : ∀ x : V, ((wipe σ [j]).set j (some x))[j]? = some (some x)) (wiped : ∀ x : V, wipe ((wipe σ [j]).set j (some x)) [j] = wipe σ [j]) (fin : Qd (upd H D (.dK (tkv (canon dots tb))))) :
    ∃ W : Nat → Nat → Hp → Prop, (∃ m, W 0 m (upd H D (.dK []))) ∧ ∀ k m H1, W k m H1 →
      ((Itt K N).stop k H1 ∧ Qd H1) ∨ ((Itt K N).go k H1 ∧ ∃ Nx : Hp → Prop, (∀ H', Nx H' → ∃ m', m' < m ∧ W (k + 1) m' H') ∧ ∀ x H', (Itt K N).yld k H1 x H' → gName j x (wipe σ [j]) H' fun σ2 H2 => wipe σ2 [j] = wipe σ [j] ∧ tYes σ2 H2 fun b H3 =>
        if b = true then tVar j σ2 H3 fun y H4 => tDGet (tVar i) (tVar j) σ2 H4 fun z H5 => ∃ kvs k, y = kV k ∧ H5 D = some (.dK kvs) ∧ kvs.length < sizeLine ∧ Nx (upd H5 D (.dK (putK kvs k z))) else Nx H3) := by
  refine dc_tup (K := K) (a := N) (xs := dots.map V.str) (fun k H' => H' = upd H D (.dK (tkv (canon (dots.take k) tb)))) rfl (fun k H' _ h => by rw [h]; exact Evl.st_of (Evl.Ex.new hD _ _ hN)) ?_ ?_
  · rintro k x H1 hk rfl
    obtain ⟨z, hz, rfl⟩ := str_at hk
    have hkl : k < dots.length := (List.getElem?_eq_some_iff.mp hz).1
    have et : dots.take (k + 1) = dots.take k ++ [z] := by rw [List.take_add_one, hz]; rfl
    have zn : z ∉ dots.take k := fun hm => by
      have h1 : (dots.take (k + 1)).Nodup := nd.sublist (List.take_sublist _ _)
      rw [et] at h1
      exact (List.nodup_append.mp h1).2.2 z hm z (List.mem_singleton.mpr rfl) rfl
    obtain ⟨v, hv, _⟩ := tkv_some (tb := tb) (z := z) (ok.ks.mem_iff.mpr (List.mem_of_getElem? hz))
    refine ⟨wiped _, ?_⟩
    refine yes_if ?_
    have gt : DGet (upd H D (.dK (tkv (canon (dots.take k) tb)))) po (.str z) (some v) := by
      have q := DGet.k (k := Sum.inr z) (Evl.Ex.new (o := .dK (tkv (canon (dots.take k) tb))) hD _ _ hpo)
      rw [hv] at q
      exact q
    refine ⟨.str z, own _, .ref po, slot _, .str z, own _, po, v, rfl, gt, tkv (canon (dots.take k) tb), Sum.inr z, rfl, upd_same, ?_, ?_⟩
    · rw [tkv_len]
      unfold canon
      rw [List.length_map, List.length_take]
      exact small1000 (by omega)
    · rw [upd_upd, tkv_new (by rw [canon_keys]; exact zn), et, canon_snoc, hv]
      rfl
  · rintro H1 rfl
    rw [List.length_map, List.take_length]
    exact fin
/-- Net.__init__ of a model's parts -/
def spInit (C : Addr) : Sp := fun vs H Q _ => ∃ (Hb : Hp) (m dx t s p : Addr) (ends dots ss ps : List Str) (rows : List (Str × V)) (o n : Str → List (Str × V)), vs = [.ref m, .ref t, .ref s, .ref p] ∧ Hb m = none ∧ Evl.Ex Hb H ∧ H m = some (.ins C dx []) ∧
  Hb t = some (.dK (tkv rows)) ∧ (rows.map (·.1)).Perm ends ∧ RowsOk Hb dots rows ∧ RowsAt Hb ends dots rows o n ∧ SqH Hb s ss ∧ SqH Hb p ps ∧ ModelOk ends dots ss ps ∧
  ∀ H', Evl.Ex Hb H' → (∀ Hz, Evl.Ex (rest Hb H') Hz → (Hb p = some (.tup (ps.map V.str)) → Hz p = some (.tup (ps.map V.str))) → NetAt C Hz m ends dots ss ps o n) → Q .non H'
end Rw
end T_N0

section T_TV
set_option Elab.async false
set_option linter.all false
namespace Rw
open PySem PySem.Spec L2 PyProof.Rows
def setV (t : List (Str × V)) (z : Str) (v : V) : List (Str × V) := t.map fun q => if q.1 = z then (q.1, v) else q
theorem setV_keys (t : List (Str × V)) (z : Str) (v : V) : (setV t z v).map (·.1) = t.map (·.1) := by
  unfold setV
  rw [List.map_map]
  refine List.map_congr_left fun q _ => ?_
  show (if q.1 = z then (q.1, v) else q).1 = q.1
  split <;> rfl
theorem setV_put {t : List (Str × V)} {z : Str} (v : V) (h : z ∈ t.map (·.1)) : putK (tkv t) (Sum.inr z) v = tkv (setV t z v) := by
  obtain ⟨u, hu, _⟩ := tkv_some h
  have a : ((tkv t).any fun kv => decide (kv.1 = Sum.inr z)) = true := by rw [valV_any, hu]; rfl
  unfold putK
  rw [if_pos a]
  unfold tkv setV
  rw [List.map_map, List.map_map]
  refine List.map_congr_left fun q _ => ?_
  show (if (Sum.inr q.1 : Key) = Sum.inr z then ((Sum.inr q.1 : Key), v) else (Sum.inr q.1, q.2)) = (Sum.inr (if q.1 = z then (q.1, v) else q).1, (if q.1 = z then (q.1, v) else q).2)
  by_cases e : q.1 = z
  · rw [if_pos e, if_pos (by rw [e])]
  · rw [if_neg e, if_neg (fun w => e (Sum.inr.inj w))]
theorem setV_get {t : List (Str × V)} {z y : Str} {v : V} (h : z ∈ t.map (·.1)) : valV (tkv (setV t z v)) (Sum.inr y) = if y = z then some v else valV (tkv t) (Sum.inr y) := by
  rw [← setV_put v h, valV_put]
  by_cases e : y = z
  · rw [if_pos e, if_pos (by rw [e])]
  · rw [if_neg e, if_neg (fun w => e (Sum.inr.inj w))]
theorem setV_ok {dots : List Str} {e z : Str} {t : List (Str × V)} {v : V} (h : TabOk dots e t) (hv : PlaceOk dots e z v) : TabOk dots e (setV t z v) := by
  refine ⟨by rw [setV_keys]; exact h.ks, fun q hq => ?_⟩
  unfold setV at hq
  obtain ⟨u, hu, rfl⟩ := List.mem_map.mp hq
  by_cases e' : u.1 = z
  · rw [if_pos e', e']
    exact hv
  · rw [if_neg e']
    exact h.ps u hu
theorem sort_ex (l : List Str) : ∃ ys : List Str, ys.Perm l ∧ sortedS ys = true := by
  have tr : ∀ a b c : Str, (!decide (b.cps.toList < a.cps.toList)) = true → (!decide (c.cps.toList < b.cps.toList)) = true → (!decide (c.cps.toList < a.cps.toList)) = true := fun a b c h1 h2 => by
    simp only [Bool.not_eq_true', decide_eq_false_iff_not] at h1 h2 ⊢
    exact List.not_lt.mpr (List.le_trans (List.not_lt.mp h1) (List.not_lt.mp h2))
  have tt : ∀ a b : Str, ((!decide (b.cps.toList < a.cps.toList)) || (!decide (a.cps.toList < b.cps.toList))) = true := fun a b => by
    by_cases h : b.cps.toList < a.cps.toList
    · rw [decide_eq_true h, decide_eq_false (List.lt_asymm h)]
      rfl
    · rw [decide_eq_false h]
      rfl
  refine ⟨l.mergeSort fun a b => !decide (b.cps.toList < a.cps.toList), List.mergeSort_perm _ _, sortedS_of_pairwise _ ?_⟩
  refine (List.pairwise_mergeSort tr tt l).imp fun {a b} h => ?_
  rw [ltCps_eq]
  simpa using h
/-- a new object behind the draws -/
theorem off_new {d g c : Addr} {H H' : Hp} {p : Addr} {o : HO} (D : DrawAt H' d g c) (x : Evl.Ex (off d g H) (off d g H')) (h : H' p = none) : DrawAt (upd H' p o) d g c ∧ Evl.Ex (off d g H) (off d g (upd H' p o)) ∧ off d g (upd H' p o) p = some o ∧ off d g H p = none ∧ Evl.Ex (off d g H') (off d g (upd H' p o)) :=
  ⟨D.new h, x.trans (off_ex (Evl.Ex.new h)), off_of upd_same (D.ned h).1 (D.ned h).2.1, ex_none x (off_free h), off_ex (Evl.Ex.new h)⟩
/-- an object of one's own, changed -/
theorem off_put {d g c : Addr} {H H' : Hp} {p : Addr} {o u : HO} (D : DrawAt H' d g c) (x : Evl.Ex (off d g H) (off d g H')) (h : off d g H p = none) (hp : off d g H' p = some u) (hc : p ≠ c) : DrawAt (upd H' p o) d g c ∧ Evl.Ex (off d g H) (off d g (upd H' p o)) ∧ off d g (upd H' p o) p = some o := by
  have z := off_some hp
  refine ⟨D.mut z.1 z.2.1 hc, fun a v ha => ?_, off_of upd_same z.1 z.2.1⟩
  have y := off_some (x a v ha)
  refine off_of ?_ y.1 y.2.1
  rw [upd_ne (fun e => by rw [e, h] at ha; cases ha)]
  exact y.2.2
theorem off_up {d g : Addr} {H' : Hp} {p a : Addr} {o u : HO} (h : off d g H' a = some u) (ne : a ≠ p) : off d g (upd H' p o) a = some u := by
  have z := off_some h
  exact off_of (by rw [upd_ne ne]; exact z.2.2) z.1 z.2.1
theorem draw_c {d g c : Addr} {H : Hp} {p : Addr} {o : HO} (D : DrawAt H d g c) (h : off d g H p = some o) (no : ∀ xs, o ≠ .lst xs) : p ≠ c := fun e => by
  obtain ⟨cs, hc⟩ := D.cl
  rw [e] at h
  have := (off_some h).2.2
  rw [hc] at this
  cases this
  exact no _ rfl
end Rw
end T_TV

section T_V1
set_option Elab.async false
set_option linter.all false
set_option maxRecDepth 100000
set_option maxHeartbeats 2000000
namespace Rw
open PySem PySem.Spec PySem.W L2 PyProof.Rows
/-! ### tuple(d) of a dict: its keys -/
section
variable {prog : Program} {w : World} {A : Around} {EX : Value → Shared → Prop} {s : Shared} {r d : Addr} {T : String} {n : Nat} {Pk : Nat → Value → Prop} {Fine : Heap → Prop}
theorem collect_src {Q : List Value → Shared → Prop} (src : KdlSrc prog w T r d n Pk Fine) (calm : A.handled = none) (fine : Fine s.heap) (few : n ≤ sizeLine)
    (wish : ∀ (h' : Heap) (tk : Nat) (acc : Array Value), (∀ b o, s.heap.get? b = some o → h'.get? b = some o) → ItemsOf Pk acc n → Q acc.toList { s with heap := h', toks := tk }) :
    wpAny (model prog w) A (collect (.ref r)) Q EX s := by
  unfold collect
  refine wpAny_bind (wpAny_runValue (codeAny_builtin PySem.F.entry_proto_collect ?_))
  rw [Around.under_plainId PySem.F.plain_proto_collect _]
  show wpAny _ A.in1 (newList [] >>= fun l => again (.builtin "list.__iadd__" ⟨[l, .ref r], []⟩)) _ _ s
  refine wpAny_bind (wpAny_newObj_type ?_)
  refine wpAny_pure ⟨plainId_quiet PySem.F.plain_list_iadd _, codeAny_builtin PySem.F.entry_list_iadd ?_⟩
  rw [Around.under_plainId PySem.F.plain_list_iadd _]
  show wpAny _ A.in1 (Builtin.List.listExtendWith (.ref s.heap.objs.size) (.ref r) (.ref s.heap.objs.size)) _ _ _
  have made : (s.heap.push { cls := .type "list", data := .seq ([] : List Value).toArray }).get? s.heap.objs.size = some { cls := .type "list", data := .seq #[] 0 } := Heap.get?_push_size _ rfl
  have below := src.there _ fine
  refine wpAny_mono (kdl_extend (A := A) (R := fun rr s' => rr = .ok (.ret (.ref s.heap.objs.size)) ∧ ∃ (h' : Heap) (tk : Nat) (acc : Array Value) (c' : Nat), s' = { s with heap := h', toks := tk } ∧
      (∀ b o, s.heap.get? b = some o → h'.get? b = some o) ∧ h'.get? s.heap.objs.size = some { cls := .type "list", dict := none, data := .seq acc c', slots := #[] } ∧ ItemsOf Pk acc n)
    (s := { s with heap := s.heap.push { cls := .type "list", data := .seq ([] : List Value).toArray } }) src calm (src.keep _ _ fine fun b _ o e => Heap.get?_push_of_some _ e) s.heap.objs.size (Nat.ne_of_gt below.1) (Nat.ne_of_gt below.2) _ 0 made
    (fun h' tk acc c' keep at_l got => ⟨rfl, h', tk, acc, c', rfl, fun b o q => keep b o (Nat.ne_of_lt (Heap.lt_size q)) (Heap.get?_push_of_some _ q), at_l, got⟩) few) (fun fin s' got => ?_) (fun e s' got => ?_)
  · cases fin with
    | done f =>
      obtain ⟨e, h', tk, acc, c', rfl, keep, at_l, items⟩ := got
      cases e
      show wpAny _ A (load s.heap.objs.size >>= _) _ _ _
      exact wpAny_bind (wpAny_load at_l (wpAny_pure (wish h' tk acc keep items)))
    | again c' =>
      refine ⟨got.1, codeAny_mono got.2 fun rr s'' res => ?_⟩
      obtain ⟨rfl, h', tk, acc, c', rfl, keep, at_l, items⟩ := res
      show wpAny _ A (load s.heap.objs.size >>= _) _ _ _
      exact wpAny_bind (wpAny_load at_l (wpAny_pure (wish h' tk acc keep items)))
  · exact absurd got.1 (by simp)
theorem tuple_new_src {Q₁ : Value → Shared → Prop} (src : KdlSrc prog w T r d n Pk Fine) (calm : A.handled = none) (fine : Fine s.heap) (few : n ≤ sizeLine)
    (wish : ∀ (h' : Heap) (tk : Nat) (acc : Array Value), (∀ b o, s.heap.get? b = some o → h'.get? b = some o) → ItemsOf Pk acc n →
      Q₁ (.ref h'.objs.size) { s with heap := h'.push { cls := .type "tuple", data := .seq acc }, toks := tk }) :
    codeAny (model prog w) A (.call (.builtin "tuple.__new__") ⟨[.type "tuple", .ref r], []⟩) (wants Q₁ EX) s := by
  refine codeAny_of_tree ?_
  show wpAny _ A.in1 (do checkBuiltinCall "tuple.__new__" ⟨[.type "tuple", .ref r], []⟩; again (.builtin "tuple.__new__" ⟨[.type "tuple", .ref r], []⟩)) _ _ s
  refine wpAny_bind (wpAny_of_eq (PySem.F.newCall_tuple_1 _) (wpAny_pure ⟨plainId_quiet PySem.F.plain_tuple_new _, codeAny_builtin PySem.F.entry_tuple_new ?_⟩))
  rw [Around.under_plainId PySem.F.plain_tuple_new _]
  have self_sub := sub_tuple_self
  have no_init := init_tuple_lookup
  have here := madeHere_tuple
  have ty_is := src.type s fine
  have no_tup := src.notTuple
  have calm1 : A.in1.handled = none := calm
  wp_walk using wpAny_typeOf ty_is, collect_src (A := A.in1) src calm1 fine few
  intro h' tk acc keep items
  show wpAny _ _ (Builtin.Tuple.tupleExact acc.toList.toArray >>= fun v => ret v) _ _ _
  have back : acc.toList.toArray = acc := by simp
  rw [back]
  unfold Builtin.Tuple.tupleExact
  refine wpAny_bind (wpAny_newObj_type ?_ (by show acc.size ≤ sizeLine; rw [items.1]; exact few))
  exact wpAny_pure (wish h' tk acc keep items)
theorem tuple_src {Q : Value → Shared → Prop} (src : KdlSrc prog w T r d n Pk Fine) (calm : A.handled = none) (fine : Fine s.heap) (few : n ≤ sizeLine)
    (wish : ∀ (h' : Heap) (tk : Nat) (acc : Array Value), (∀ b o, s.heap.get? b = some o → h'.get? b = some o) → ItemsOf Pk acc n →
      Q (.ref h'.objs.size) { s with heap := h'.push { cls := .type "tuple", data := .seq acc }, toks := tk }) :
    wpAny (model prog w) A (call (.type "tuple") [.ref r]) Q EX s := by
  refine callType_codes (Q₁ := fun obj s₁ => s₁.TypeIs obj "tuple" ∧ Q obj s₁) PySem.F.called_tuple (PySem.F.typeCall_tuple_1 _) PySem.F.entry_object_init
    (tuple_new_src (A := A.in1) src calm fine few fun h' tk acc keep items => ⟨⟨_, Heap.get?_push_size _ rfl, rfl⟩, wish h' tk acc keep items⟩) fun obj s₁ got => ?_
  exact ⟨got.1, PySem.F.args_object_init_2 obj _, object_init_meets PySem.F.called_tuple.init.lookup PySem.F.called_tuple.made (by decide) prog w A.in1 _ s₁ ⟨got.1, rfl, got.2⟩⟩
end
/-- tuple(d) -/
theorem call_tupleD {X : Cx} (calm : X.calm = true) : CallR X (.type "tuple") (fun xs H Q => ∃ (a : Addr) (kvs : List (Key × V)), xs = [.ref a] ∧ Rd H a (.dK kvs) ∧ ∀ p, H p = none → Q (.ref p) (upd H p (.tup (kvs.map fun kv => kV kv.1)))) := by
  intro pins s σ H xs us Q I rel h
  obtain ⟨a, kvs, rfl, hd, q⟩ := h
  obtain ⟨u, rfl, ru⟩ := vals1 rel
  cases ru
  obtain ⟨few, low, vs, pairs, dd⟩ := dk_rd I.hok hd
  obtain ⟨ep, at_d⟩ := dd.dictAt
  have same : (kvs.map fun kv => kV kv.1) = vs.map fun p => kV p.1 := by
    have e := congrArg (List.map kV) pairs.keys
    rw [List.map_map, List.map_map] at e
    exact e
  have few' : vs.length ≤ sizeLine := by rw [← pairs.length]; exact few
  refine tuple_src (kdl_dict (knd := mixKind X.prog X.w) (kvs := vs) (ep := ep) low) (I.ok.hd calm) at_d few' fun h' tk acc keep items => ?_
  have got : Vals (vs.map fun p => kV p.1) acc.toList := keys_at (by rw [Array.length_toList]; exact items.1) fun j v e => items.2 j v (by rw [← Array.getElem?_toList]; exact e)
  have I1 : Inv X pins σ H { s with heap := h', toks := s.toks } := I.kept (t' := s.toks) keep
  have fresh : H h'.objs.size = none := I1.hok.fresh (Nat.le_refl _)
  refine ⟨.ref h'.objs.size, upd H h'.objs.size (.tup (kvs.map fun kv => kV kv.1)), I1.laid (t' := tk) (fun b o e => Heap.get?_push_of_some _ e) (Nat.le_refl _) ?_, rfl, q _ fresh⟩
  exact ⟨by rw [List.length_map]; exact few, acc.toList, by rw [same]; exact got, by simpa using IsTup.new _ _⟩
end Rw
end T_V1

section T_N2
set_option Elab.async false
set_option linter.all false
set_option maxRecDepth 100000
set_option maxHeartbeats 4000000
namespace Rw
open PySem L2 PyProof.Rows
/-- what the class Net is, whole -/
structure NetTxt (K : PySem.W.Frag) (C : Addr) : Prop where
  cl : Cls K C
  nT : NoAttr K C "_tables"
  nN : NoAttr K C "_nodes"
  nS : NoAttr K C "_sources"
  nP : NoAttr K C "_posts"
/-- a def by its name -/
structure Cal (P : Program) (w : World) (K : PySem.W.Frag) (mg : Str → Option Value) (base : Heap) (k : Nat) (x : Str) (ps : List Str) (sp : Sp) : Prop where
  ex : ∃ f fd, FnOk P w K mg base CX0 k f fd ps sp ∧ PySem.W.keepIn K (.ref f) = true ∧ Binds K fd ps [] ∧ mg x = some (.ref f)
/-- a property of the class -/
structure Prp (P : Program) (w : World) (K : PySem.W.Frag) (mg : Str → Option Value) (base : Heap) (C : Addr) (k : Nat) (x : Str) (sp : Sp) : Prop where
  ex : ∃ p g fd, PropOf K C x p g ∧ FnOk P w K mg base CX0 k g fd ["self"] sp ∧ Binds K fd ["self"] []
section
variable {P : Program} {w : World} {K : PySem.W.Frag} {mg : Str → Option Value} {base : Heap}
def spGoals (C : Addr) : Sp := fun vs H Q _ => ∃ (m : Addr) (ends dots ss ps : List Str) (o n : Str → List (Str × V)), vs = [.ref m] ∧ NetAt C H m ends dots ss ps o n ∧ ends.length ≤ 100 ∧ ∀ p, H p = none → Q (.ref p) (upd H p (.tup (ends.map V.str)))
def spDots (C : Addr) : Sp := fun vs H Q _ => ∃ (m : Addr) (ends dots ss ps : List Str) (o n : Str → List (Str × V)), vs = [.ref m] ∧ NetAt C H m ends dots ss ps o n ∧ ∀ p, H p = some (.tup (dots.map V.str)) → Q (.ref p) H
theorem sc_goals : FnScope ["self"] ["self"] (defScope c_Net_goals) := ⟨rfl, rfl, rfl, by decide +kernel, rfl, by decide +kernel, by decide +kernel⟩
theorem sc_dots : FnScope ["self"] ["self"] (defScope c_Net_nodes) := ⟨rfl, rfl, rfl, by decide +kernel, rfl, by decide +kernel, by decide +kernel⟩
theorem ok_goals {f C : Addr} {fd : FuncData} (F : Fun K "goals" "Net.goals" c_Net_goals f fd) (T : NetTxt K C) (mTup : mg "tuple" = none) : FnOk P w K mg base CX0 1 f fd ["self"] (spGoals C) := by
  refine F.ok sc_goals (fun vs H Q E h => ?_) (fun cdv A outer s H vs Q E hr h => ?_)
  · obtain ⟨m, ends, dots, ss, ps, o, n, rfl, _⟩ := h
    rfl
  · obtain ⟨m, ends, dots, ss, ps, o, n, rfl, N, few, k⟩ := h
    refine ⟨_, pss_one (ps_ret (pe_callTy (call_tupleD rfl) (by rfl) mTup (by decide +kernel) (pa_cons (pe_fld (pv 0) rfl) pa_nil))), ?_⟩
    obtain ⟨dx, T', N', S, Po, rows, h1, h2, h3, h4, h5, h6, h7⟩ := N.ex
    refine ⟨.ref m, rfl, m, C, dx, _, .ref T', rfl, h1, T.cl, T.nT, nflds_tables _ _ _ _, T', _, rfl, .inl h2, fun p hp => ?_⟩
    rw [tkv_keysV, h6]
    exact k p hp
theorem ok_dots {f C : Addr} {fd : FuncData} (F : Fun K "nodes" "Net.nodes" c_Net_nodes f fd) (T : NetTxt K C) : FnOk P w K mg base CX0 1 f fd ["self"] (spDots C) := by
  refine F.ok sc_dots (fun vs H Q E h => ?_) (fun cdv A outer s H vs Q E hr h => ?_)
  · obtain ⟨m, ends, dots, ss, ps, o, n, rfl, _⟩ := h
    rfl
  · obtain ⟨m, ends, dots, ss, ps, o, n, rfl, N, k⟩ := h
    refine ⟨_, pss_one (ps_ret (pe_fld (pv 0) rfl)), ?_⟩
    obtain ⟨dx, T', N', S, Po, rows, h1, h2, h3, h4, h5, h6, h7⟩ := N.ex
    exact ⟨.ref m, rfl, m, C, dx, _, .ref N', rfl, h1, T.cl, T.nN, nflds_nodes _ _ _ _, k N' h3⟩
/-! ### the checks -/
def spCheckGoal (C : Addr) : Sp := fun vs H Q _ => ∃ (m : Addr) (e : Str) (ends dots ss ps : List Str) (o n : Str → List (Str × V)), vs = [.ref m, .str e] ∧ NetAt C H m ends dots ss ps o n ∧ ends.length ≤ 100 ∧ e ∈ ends ∧ ∀ H', Evl.Ex H H' → Q .non H'
def spCheckDot (C : Addr) : Sp := fun vs H Q _ => ∃ (m : Addr) (z : Str) (ends dots ss ps : List Str) (o n : Str → List (Str × V)), vs = [.ref m, .str z] ∧ NetAt C H m ends dots ss ps o n ∧ z ∈ dots ∧ Q .non H
theorem sc_check_goal : FnScope ["net", "goal"] ["net", "goal"] (defScope p_check_goal) := ⟨rfl, rfl, rfl, by decide +kernel, rfl, by decide +kernel, by decide +kernel⟩
theorem sc_check_node : FnScope ["net", "node"] ["net", "node"] (defScope p_check_node) := ⟨rfl, rfl, rfl, by decide +kernel, rfl, by decide +kernel, by decide +kernel⟩
theorem ok_check_goal {f C : Addr} {fd : FuncData} (F : Fun K "check_goal" "check_goal" p_check_goal f fd) (T : NetTxt K C) (Pg : Prp P w K mg base C 1 "goals" (spGoals C)) : FnOk P w K mg base CX0 3 f fd ["net", "goal"] (spCheckGoal C) := by
  obtain ⟨p1, g1, fd1, at1, F1, b1⟩ := Pg.ex
  refine F.ok sc_check_goal (fun vs H Q E h => ?_) (fun cdv A outer s H vs Q E hr h => ?_)
  · obtain ⟨m, e, ends, dots, ss, ps, o, n, rfl, _⟩ := h
    rfl
  · obtain ⟨m, e, ends, dots, ss, ps, o, n, rfl, N, few, he, k⟩ := h
    refine ⟨_, pss_one (ps_if (pt_cmpR op_notIn_seq (pv 1) (pe_prop (pv 0) T.cl at1 F1 hr b1 .nil pass0 rfl) rfl) (pss_one ps_never) pss_nil), ?_⟩
    have N2 := N
    obtain ⟨dx, T', N', S, Po, rows, h1, h2, h3, h4, h5, h6, h7⟩ := N.ex
    refine ⟨.str e, rfl, .ref m, rfl, m, dx, _, rfl, h1, m, ends, dots, ss, ps, o, n, rfl, N2, few, fun p hp => ⟨p, ends.map V.str, rfl, .inr (Evl.st_of upd_same), rfl, flat_strs ends, ?_⟩⟩
    rw [inV_str, decide_eq_true he]
    exact ⟨false, rfl, k _ (Evl.Ex.new hp)⟩
theorem ok_check_node {f C : Addr} {fd : FuncData} (F : Fun K "check_node" "check_node" p_check_node f fd) (T : NetTxt K C) (Pg : Prp P w K mg base C 1 "nodes" (spDots C)) : FnOk P w K mg base CX0 3 f fd ["net", "node"] (spCheckDot C) := by
  obtain ⟨p1, g1, fd1, at1, F1, b1⟩ := Pg.ex
  refine F.ok sc_check_node (fun vs H Q E h => ?_) (fun cdv A outer s H vs Q E hr h => ?_)
  · obtain ⟨m, z, ends, dots, ss, ps, o, n, rfl, _⟩ := h
    rfl
  · obtain ⟨m, z, ends, dots, ss, ps, o, n, rfl, N, hz, k⟩ := h
    refine ⟨_, pss_one (ps_if (pt_cmpR op_notIn_seq (pv 1) (pe_prop (pv 0) T.cl at1 F1 hr b1 .nil pass0 rfl) rfl) (pss_one ps_never) pss_nil), ?_⟩
    have N2 := N
    obtain ⟨dx, T', N', S, Po, rows, h1, h2, h3, h4, h5, h6, h7⟩ := N.ex
    refine ⟨.str z, rfl, .ref m, rfl, m, dx, _, rfl, h1, m, ends, dots, ss, ps, o, n, rfl, N2, fun p hp => ⟨p, dots.map V.str, rfl, .inr (Evl.st_of hp), rfl, flat_strs dots, ?_⟩⟩
    rw [inV_str, decide_eq_true hz]
    exact ⟨false, rfl, k⟩
/-- what isinstance asks of the class -/
structure NetIsi (K : PySem.W.Frag) (C : Addr) : Prop where
  ha : PySem.W.findIn K (.ref C) "__class__" = some (some (.builtin "object.__class__"))
  hn : PySem.W.specialIn K (.builtin "object.__class__") "__get__" = some (some (.builtin "getset_descriptor.__get__"))
  hk : PySem.W.takesIn K (.builtin "object.__class__") = some true
  hm : PySem.W.mroIn K C (.type "object") = some true
  me : PySem.W.kitOne K (.ref C) (.ref C) = some true
def spCheckNet (C : Addr) : Sp := fun vs H Q _ => ∃ (m : Addr) (ends dots ss ps : List Str) (o n : Str → List (Str × V)), vs = [.ref m] ∧ NetAt C H m ends dots ss ps o n ∧ Q .non H
theorem sc_check_net : FnScope ["net"] ["net"] (defScope p_check_net) := ⟨rfl, rfl, rfl, by decide +kernel, rfl, by decide +kernel, by decide +kernel⟩
theorem ok_check_net {f C : Addr} {fd : FuncData} (F : Fun K "check_net" "check_net" p_check_net f fd) (T : NetTxt K C) (Is : NetIsi K C) (mIsi : mg "isinstance" = none) (mNet : mg "Net" = some (.ref C)) : FnOk P w K mg base CX0 1 f fd ["net"] (spCheckNet C) := by
  refine F.ok sc_check_net (fun vs H Q E h => ?_) (fun cdv A outer s H vs Q E hr h => ?_)
  · obtain ⟨m, ends, dots, ss, ps, o, n, rfl, _⟩ := h
    rfl
  · obtain ⟨m, ends, dots, ss, ps, o, n, rfl, N, k⟩ := h
    refine ⟨_, pss_one (ps_if (pt_not (pt_val (pe_callB call_isi (by rfl) mIsi (by decide +kernel) (pa_cons (pv 0) (pa_cons (pe_glob (v := .ref C) (by rfl) mNet rfl) pa_nil))))) (pss_one ps_never) pss_nil), ?_⟩
    obtain ⟨dx, T', N', S, Po, rows, h1, h2, h3, h4, h5, h6, h7⟩ := N.ex
    exact ⟨.ref m, rfl, .ref m, .ref C, _, _, true, rfl, .own C, .base (.ins h1 T.cl Is.ha Is.hn Is.hk Is.hm), Is.me, true, rfl, k⟩
end
end Rw
end T_N2

section T_N3
set_option Elab.async false
set_option linter.all false
set_option maxRecDepth 100000
set_option maxHeartbeats 4000000
namespace Rw
open PySem L2 PyProof.Rows
/-- the way of z by a table -/
def look (tb : List (Str × V)) (z : Str) : V := (valV (tkv tb) (Sum.inr z)).getD .non
/-- where old and new ways of z differ -/
def diffB (ends : List Str) (o n : Str → List (Str × V)) (z : Str) : List Bool := ends.map fun e => !decide (look (o e) z = look (n e) z)
/-- the nodes that change -/
def moving (ends dots : List Str) (o n : Str → List (Str × V)) : List Str := dots.filter fun z => (diffB ends o n z).any id
theorem look_ok {zs : List Str} {e z : Str} {tb : List (Str × V)} (h : TabOk zs e tb) (hz : z ∈ zs) : PlaceOk zs e z (look tb z) ∧ valV (tkv tb) (Sum.inr z) = some (look tb z) := by
  obtain ⟨v, h1, h2⟩ := tkv_some (tb := tb) (z := z) (h.ks.mem_iff.mpr hz)
  unfold look
  rw [h1]
  exact ⟨h.ps _ h2, rfl⟩
theorem look_canon {dots : List Str} {tb : List (Str × V)} {z : Str} (hz : z ∈ dots) : look (canon dots tb) z = look tb z := by
  unfold look
  rw [canon_get hz]
  rfl
theorem scal_place {zs ys : List Str} {e f z y : Str} {u v : V} (h1 : PlaceOk zs e z u) (h2 : PlaceOk ys f y v) : scal u v = true := by
  rcases h1 with rfl | rfl | ⟨_, _, _, rfl⟩ <;> rcases h2 with rfl | rfl | ⟨_, _, _, rfl⟩ <;> rfl
abbrev scOuter : Scope := { kind := .function, names := [(".0", .local), ("node", .cell), ("any", .globalImplicit), ("pairs", .cell)], isGenerator := false, isCoroutine := false }
theorem tkv_at : ∀ {rows : List (Str × V)} {ends : List Str} {i : Nat} {e : Str} {v : V}, rows.map (·.1) = ends → ends.Nodup → ends[i]? = some e → valV (tkv rows) (Sum.inr e) = some v → ((tkv rows).map (·.2))[i]? = some v := by
  intro rows ends i e v hk nd he hv
  have hi : i < rows.length := by
    have := (List.getElem?_eq_some_iff.mp he).1
    rw [← hk, List.length_map] at this
    exact this
  obtain ⟨u, hu, hm⟩ := tkv_some (tb := rows) (z := e) (by rw [hk]; exact List.mem_of_getElem? he)
  rw [hv] at hu
  obtain ⟨j, hj, hj'⟩ := List.getElem_of_mem hm
  have ej : ends[j]? = some e := by rw [← hk, List.getElem?_map, List.getElem?_eq_getElem hj, hj']; rfl
  have hie : i < ends.length := (List.getElem?_eq_some_iff.mp he).1
  have ij : i = j := (List.getElem?_inj hie nd).mp (he.trans ej.symm)
  subst ij
  unfold tkv
  rw [List.map_map, List.getElem?_map, List.getElem?_eq_getElem hj, hj', Option.some.inj hu]
  rfl
theorem diffB_snoc (l : List Str) (e : Str) (o n : Str → List (Str × V)) (z : Str) : diffB (l ++ [e]) o n z = diffB l o n z ++ [!decide (look (o e) z = look (n e) z)] := by
  unfold diffB
  rw [List.map_append]
  rfl
section
variable {P : Program} {w : World} {K : PySem.W.Frag} {mg : Str → Option Value} {base : Heap}
def spChanging (C : Addr) : Sp := fun vs H Q _ => ∃ (m : Addr) (ends dots ss ps : List Str) (o n : Str → List (Str × V)), vs = [.ref m] ∧ NetAt C H m ends dots ss ps o n ∧ ends.length ≤ 100 ∧ dots.length ≤ 100 ∧ ends.Nodup ∧
  ∀ p H', Evl.Ex H H' → H p = none → H' p = some (.tup ((moving ends dots o n).map V.str)) → Q (.ref p) H'
abbrev nChanging : List Str := ["self", "pairs", "node", "old", "new"]
theorem sc_changing : FnScope nChanging ["self"] (defScope c_Net_changing) := ⟨rfl, rfl, rfl, by decide +kernel, rfl, by decide +kernel, by decide +kernel⟩
theorem ok_changing {f C : Addr} {fd : FuncData} (F : Fun K "changing" "Net.changing" c_Net_changing f fd) (T : NetTxt K C) (mTup : mg "tuple" = none) (mList : mg "list" = none) (mAny : mg "any" = none) : FnOk P w K mg base CX0 2 f fd ["self"] (spChanging C) := by
  refine F.ok sc_changing (fun vs H Q E h => ?_) (fun cdv A outer s H vs Q E hr h => ?_)
  · obtain ⟨m, ends, dots, ss, ps, o, n, rfl, _⟩ := h
    rfl
  · obtain ⟨m, ends, dots, ss, ps, o, n, rfl, N, few, few2, en, k⟩ := h
    have nd := sc_changing.nd
    have hu := hu_of hr
    refine ⟨_, pss_cons (ps_set (i := 1) nd rfl (.inr rfl) (pe_listVals rfl (pe_fld (pv 0) rfl) (by rfl) mList))
      (pss_one (ps_ret (pe_callTy call_tuple_of (by rfl) mTup (by decide +kernel) (pa_cons
        (pe_lc (own := [("node", 2)]) (g := gName 2) (tt := tB (tCB (rAny K) (tCons (tLc (iList K (tVar 1)) (gTup K 2 (gCons (gName 3) (gCons (gName 4) gNil))) tYes (tOp rNe (tDGet (tVar 3) (tVar 2)) (tDGet (tVar 4) (tVar 2))) [3, 4]) tNil))) rfl nd (pi_tup (pe_fld (pv 0) rfl)) (blkOk_by (own := [("node", 2)]) (N := nChanging) (sc := defScope c_Net_changing) (by decide +kernel))
          (fun _ _ _ _ _ => pg_name (i := 2) nd rfl (Or.inr rfl))
          (fun _ _ _ _ _ => pts_one (pt_val (pe_callB (cr_any rfl) (by rfl) mAny (by decide +kernel) (pa_cons
            (pe_lc (own := [("old", 3), ("new", 4)]) (g := gTup K 2 (gCons (gName 3) (gCons (gName 4) gNil))) (tt := tYes) (te := tOp rNe (tDGet (tVar 3) (tVar 2)) (tDGet (tVar 4) (tVar 2))) rfl nd (pi_list (pv 1)) (by
              have q : ∀ {sc : Scope}, blkC nChanging scOuter sc [("old", 3), ("new", 4)] = true → BlkOk nChanging scOuter sc [("old", 3), ("new", 4)] := fun h => blkOk_by h
              refine q ?_
              decide +kernel)
              (fun _ _ _ _ _ => pg_tup rfl (pgs_cons (pg_name (i := 3) nd rfl (Or.inl rfl)) (pgs_cons (pg_name (i := 4) nd rfl (Or.inl rfl)) pgs_nil))) (fun _ _ _ _ _ => pts_nil) (fun _ _ _ _ _ => pe_cmpR op_ne (pe_dget hu (pv 3) (pv 2) (fun _ _ => rfl)) (pe_dget hu (pv 4) (pv 2) (fun _ _ => rfl)) (nomark _))) pa_nil))))
          (fun _ _ _ _ _ => pv 2)) pa_nil)))), ?_⟩
    obtain ⟨dx, T', N', S, Po, rows, h1, h2, h3, h4, h5, h6, h7⟩ := N.ex
    have rl : rows.length = ends.length := by rw [← h6, List.length_map]
    refine ⟨.ref m, rfl, m, C, dx, _, .ref T', rfl, h1, T.cl, T.nT, nflds_tables _ _ _ _, T', _, rfl, .inl h2, fun l hl => ?_⟩
    have x1 : Evl.Ex H (upd H l (.lst ((tkv rows).map (·.2)))) := Evl.Ex.new hl
    have el : (upd H l (.lst ((tkv rows).map (·.2)))) l = some (.lst ((tkv rows).map (·.2))) := upd_same
    generalize upd H l (.lst ((tkv rows).map (·.2))) = H1 at x1 el
    refine ⟨.ref m, rfl, m, C, dx, _, .ref N', rfl, x1 _ _ h1, T.cl, T.nN, nflds_nodes _ _ _ _, N', rfl, ⟨_, Evl.st_of (x1 _ _ h3)⟩, fun D hD => lc_tup (K := K) (a := N') (xs := dots.map V.str)
      (fun i H' => i ≤ dots.length ∧ Evl.Ex H1 H' ∧ H' D = some (.lst ((moving ends (dots.take i) o n).map V.str))) ⟨Nat.zero_le _, Evl.Ex.new hD, upd_same⟩ (fun i H' _ h => Evl.st_of (h.2.1 _ _ (x1 _ _ h3))) ?_ ?_⟩
    · rintro j x H3 hj ⟨_, x3, d3⟩
      obtain ⟨z, hz, rfl⟩ := str_at hj
      have hjl : j < dots.length := (List.getElem?_eq_some_iff.mp hz).1
      have zd := List.mem_of_getElem? hz
      have et : moving ends (dots.take (j + 1)) o n = moving ends (dots.take j) o n ++ if (diffB ends o n z).any id then [z] else [] := by
        unfold moving
        rw [List.take_add_one, hz, List.filter_append]
        show _ ++ List.filter _ [z] = _
        rw [List.filter_cons]
        rfl
      have dl : (moving ends (dots.take j) o n).length ≤ 100 := Nat.le_trans (List.length_filter_le _ _) (by rw [List.length_take]; omega)
      refine ⟨rfl, ?_⟩
      refine ⟨.ref l, rfl, l, rfl, ⟨_, Evl.sq_of (x3 _ _ el)⟩, fun D2 hD2 => lc_list (K := K) (a := l) (xs := (tkv rows).map (·.2))
        (fun i H' => i ≤ ends.length ∧ Evl.Ex H3 H' ∧ H' D2 = some (.lst ((diffB (ends.take i) o n z).map V.bl))) ⟨Nat.zero_le _, Evl.Ex.new hD2, upd_same⟩ (fun i H' _ h => Evl.sq_of (h.2.1 _ _ (x3 _ _ el))) ?_ ?_⟩
      · rintro i y H4 hi ⟨_, x4, d4⟩
        have hil : i < ends.length := by
          have := (List.getElem?_eq_some_iff.mp hi).1
          rw [List.length_map, tkv_len] at this
          omega
        have gi : ends[i]? = some ends[i] := List.getElem?_eq_getElem hil
        obtain ⟨p, po, pn, hv, pa⟩ := h7 ends[i] (List.getElem_mem hil)
        have ey : y = .ref p := Option.some.inj (hi.symm.trans (tkv_at h6 en gi hv))
        subst ey
        have pa4 := pa.ex (x1.trans (x3.trans x4))
        have c1 := (look_ok pa.o1 zd)
        have c2 := (look_ok pa.o2 zd)
        have g1 : DGet H4 po (.str z) (some (look (o ends[i]) z)) := by
          have q := DGet.k (k := Sum.inr z) pa4.ho
          rw [c1.2, look_canon zd] at q
          exact q
        have g2 : DGet H4 pn (.str z) (some (look (n ends[i]) z)) := by
          have q := DGet.k (k := Sum.inr z) pa4.hn
          rw [c2.2, look_canon zd] at q
          exact q
        have sc := scal_place c1.1 c2.1
        rw [look_canon zd, look_canon zd] at sc
        refine ⟨p, _, rfl, Evl.st_of pa4.hp, rfl, _, _, rfl, _, [], rfl, rfl, rfl, ?_⟩
        refine yes_if ?_
        refine ⟨.ref po, rfl, .str z, rfl, po, _, rfl, g1, .ref pn, rfl, .str z, rfl, pn, _, rfl, g2, sc, _, d4, ?_, hil, x4.mut hD2, ?_⟩
        · rw [List.length_map]
          unfold diffB
          rw [List.length_map, List.length_take]
          exact small1000 (by omega)
        · rw [upd_same, List.take_add_one, gi]
          show some (HO.lst _) = some (HO.lst (List.map V.bl (diffB (_ ++ [_]) o n z)))
          rw [diffB_snoc, List.map_append]
          rfl
      · rintro H4 ⟨_, x4, d4⟩
        rw [List.length_map, tkv_len, rl, List.take_length] at d4
        refine ⟨D2, _, rfl, Evl.sq_of d4, _, rfl, ?_⟩
        by_cases q : (diffB ends o n z).any id = true
        · rw [if_pos q] at et ⊢
          refine ⟨.str z, rfl, _, x4 _ _ d3, by rw [List.length_map]; exact small1000 (by omega), hjl, (x3.trans x4).mut hD, ?_⟩
          rw [upd_same, et, List.map_append]
          rfl
        · rw [if_neg q] at et ⊢
          refine ⟨hjl, x3.trans x4, ?_⟩
          rw [et, List.append_nil]
          exact x4 _ _ d3
    · rintro H3 ⟨_, x3, d3⟩
      rw [List.length_map, List.take_length] at d3
      refine ⟨D, _, rfl, .inl ⟨Evl.sq_of d3, fun p hp => k p _ ((x1.trans x3).trans (Evl.Ex.new hp)) ?_ upd_same⟩⟩
      cases q : H p with
      | none => rfl
      | some u => rw [(x1.trans x3) _ _ q] at hp; cases hp
end
end Rw
end T_N3

section T_N4
set_option Elab.async false
set_option linter.all false
set_option maxRecDepth 100000
set_option maxHeartbeats 4000000
namespace Rw
open PySem L2 PyProof.Rows
/-- a lot of these names stands at a -/
structure LotAt (H : Hp) (a : Addr) (zs ys : List Str) : Prop where
  ha : H a = some (.tup (zs.map V.str))
  sub : ∀ z ∈ zs, z ∈ ys
  nd : zs.Nodup
  so : sortedS zs = true
  nm : ∀ z ∈ zs, Nm z
  few : zs.length ≤ 60
theorem LotAt.ex {H H' : Hp} {a : Addr} {zs ys : List Str} (h : LotAt H a zs ys) (e : Evl.Ex H H') : LotAt H' a zs ys := ⟨e _ _ h.ha, h.sub, h.nd, h.so, h.nm, h.few⟩
theorem shaped_tup {ds : List PyData} (h1 : PyData.canLayAll0 ds = true) (h2 : PyData.depthAll ds ≤ 60) : SeqAt.shaped (.tuple ds) = true := by
  unfold SeqAt.shaped
  rw [show PyData.canLay0 (.tuple ds) = PyData.canLayAll0 ds from rfl, h1, show PyData.depth (.tuple ds) = PyData.depthAll ds + 1 from rfl]
  exact decide_eq_true (show PyData.depthAll ds + 1 ≤ 64 by omega)
theorem any_falses (n : Nat) : (List.replicate n false).any id = false := by
  induction n with
  | zero => rfl
  | succ n ih => rw [List.replicate_succ, List.any_cons, ih]; rfl
section
variable {P : Program} {w : World} {K : PySem.W.Frag} {mg : Str → Option Value} {base : Heap}
def spLotOf : Sp := fun vs H Q _ => ∃ (a b : Addr) (zs ys : List Str), vs = [.ref a, .ref b] ∧ LotAt H a zs ys ∧ H b = some (.tup (ys.map V.str)) ∧ ∀ H', Evl.Ex H H' → Q (.bl true) H'
abbrev nLotOf : List Str := ["value", "nodes", "node"]
theorem sc_lot_of : FnScope nLotOf ["value", "nodes"] (defScope p_is_lot_of) := ⟨rfl, rfl, rfl, by decide +kernel, rfl, by decide +kernel, by decide +kernel⟩
theorem ok_lot_of {f : Addr} {fd : FuncData} (F : Fun K "is_lot_of" "is_lot_of" p_is_lot_of f fd) (mIsi : mg "isinstance" = none) (mTup : mg "tuple" = none) (mAll : mg "all" = none) (mSorted : mg "sorted" = none) (mSet : mg "set" = none) : FnOk P w K mg base CX0 1 f fd ["value", "nodes"] spLotOf := by
  refine F.ok sc_lot_of (fun vs H Q E h => ?_) (fun cdv A outer s H vs Q E hr h => ?_)
  · obtain ⟨a, b, zs, ys, rfl, _⟩ := h
    rfl
  · obtain ⟨a, b, zs, ys, rfl, L, hb, k⟩ := h
    have nd := sc_lot_of.nd
    refine ⟨_, pss_cons (ps_if (PW.pt (pw_or (pt_not (pt_val (pe_callB call_isi (by rfl) mIsi (by decide +kernel) (pa_cons (pv 0) (pa_cons (pe_bltn (v := .ty "tuple") (by rfl) mTup (by decide +kernel) rfl) pa_nil)))))
          (pw_or1 (pt_not (pt_val (pe_callB (cr_all rfl) (by rfl) mAll (by decide +kernel) (pa_cons (pe_lc (own := [("node", 2)]) (g := gName 2) (tt := tYes) (te := tOp (rIn K false) (tVar 2) (tVar 1)) rfl nd (pi_tup (pv 0)) (blkOk_by (own := [("node", 2)]) (N := nLotOf) (sc := defScope p_is_lot_of) (by decide +kernel))
            (fun _ _ _ _ _ => pg_name (i := 2) nd rfl (Or.inl rfl)) (fun _ _ _ _ _ => pts_nil) (fun _ _ _ _ _ => pe_cmpR op_in_seq (pv 2) (pv 1) rfl)) pa_nil))))))) (pss_one (ps_ret pe_bl)) pss_nil)
      (pss_one (ps_ret (pe_cmpR (op_eqD hr.units) (pv 0) (pe_callTy call_tuple_of (by rfl) mTup (by decide +kernel) (pa_cons (pe_callB (cr_sortedX rfl) (by rfl) mSorted (by decide +kernel) (pa_cons (pe_callTy (cr_setX rfl) (by rfl) mSet (by decide +kernel) (pa_cons (pv 0) pa_nil)) pa_nil)) pa_nil)) (nomark _)))), ?_⟩
    have few := L.few
    refine ⟨.ref a, rfl, .ref a, .ty "tuple", _, _, true, rfl, .ty _, .base (.tup L.ha), kit_ty (by decide +kernel), true, rfl, ?_⟩
    refine ⟨.ref a, rfl, a, rfl, ⟨_, Evl.st_of L.ha⟩, fun D hD => lc_truesT (Evl.st_of L.ha) hD (by rw [List.length_map]; omega) (fun i x H1 Q1 R hi e1 go => ?_) (fun H1 e1 d1 => ?_)⟩
    · obtain ⟨z, hz, rfl⟩ := str_at hi
      refine ⟨rfl, ?_⟩
      refine yes_if ?_
      refine ⟨.str z, rfl, .ref b, rfl, b, ys.map V.str, rfl, .inr (Evl.st_of (e1 _ _ hb)), rfl, flat_strs ys, ?_⟩
      rw [inV_str, decide_eq_true (L.sub z (List.mem_of_getElem? hz))]
      exact go _ (Evl.Ex.refl _)
    · refine ⟨D, _, rfl, Evl.sq_of d1, ?_⟩
      rw [all_trues]
      refine ⟨true, rfl, ?_⟩
      -- value == tuple(sorted(set(value)))
      refine ⟨.ref a, rfl, .ref a, rfl, a, zs, rfl, .inr (Evl.st_of (e1 _ _ L.ha)), by omega, fun p hp => ?_⟩
      have e3 := Evl.Ex.new (o := SetXO w p (seen zs)) hp
      refine ⟨p, seen zs, rfl, upd_same, by rw [seen_len L.nd]; omega, fun ws l hws hso hl => ?_⟩
      have ew : ws = zs := sorted_uniq hso L.so (hws.trans (seen_perm L.nd))
      subst ew
      have e4 := Evl.Ex.new (o := HO.lst (ws.map V.str)) hl
      refine ⟨l, _, rfl, .inl ⟨Evl.sq_of upd_same, fun t ht => ?_⟩⟩
      have e5 := Evl.Ex.new (o := HO.tup (ws.map V.str)) ht
      have x := e1.trans (e3.trans (e4.trans e5))
      obtain ⟨ds, g1, g2, g3, _⟩ := data_all (K := K) (H := H) (ws.map V.str) fun v hv => by
        obtain ⟨z, hz, rfl⟩ := List.mem_map.mp hv
        exact strV_data (nm_ok (L.nm z hz))
      refine ⟨.tuple ds, .tuple ds, .tup (Evl.st_of (x _ _ L.ha)) (dpa_ex x ds _ g1), .tup (Evl.st_of upd_same) (dpa_ex x ds _ g1), shaped_tup g2 g3, shaped_tup g2 g3, ?_⟩
      rw [show PyData.eqv (.tuple ds) (.tuple ds) = true from PySem.SeqAt.eqv_refl _ g2]
      exact k _ x
/-! ### check_lot, check_round -/
def spCheckLot (C : Addr) : Sp := fun vs H Q _ => ∃ (m a : Addr) (t : V) (zs ends dots ss ps : List Str) (o n : Str → List (Str × V)), vs = [.ref m, .ref a, t] ∧ NetAt C H m ends dots ss ps o n ∧ ends.length ≤ 100 ∧ dots.length ≤ 100 ∧ ends.Nodup ∧ LotAt H a zs (moving ends dots o n) ∧ ∀ H', Evl.Ex H H' → Q .non H'
theorem sc_check_lot : FnScope ["net", "lot", "part"] ["net", "lot", "part"] (defScope p_check_lot) := ⟨rfl, rfl, rfl, by decide +kernel, rfl, by decide +kernel, by decide +kernel⟩
theorem ok_check_lot {f C : Addr} {fd : FuncData} (F : Fun K "check_lot" "check_lot" p_check_lot f fd) (T : NetTxt K C) (Pg : Prp P w K mg base C 2 "changing" (spChanging C)) (Cl : Cal P w K mg base 1 "is_lot_of" ["value", "nodes"] spLotOf) : FnOk P w K mg base CX0 4 f fd ["net", "lot", "part"] (spCheckLot C) := by
  obtain ⟨p1, g1, fd1, at1, F1, b1⟩ := Pg.ex
  obtain ⟨f2, fd2, F2, k2, b2, g2⟩ := Cl.ex
  refine F.ok sc_check_lot (fun vs H Q E h => ?_) (fun cdv A outer s H vs Q E hr h => ?_)
  · obtain ⟨m, a, t, zs, ends, dots, ss, ps, o, n, rfl, _⟩ := h
    rfl
  · obtain ⟨m, a, t, zs, ends, dots, ss, ps, o, n, rfl, N, l1, l2, en, L, k⟩ := h
    have hr1 : Room 1 _ := hr.mono (by decide)
    refine ⟨_, pss_one (ps_if (pt_not (pt_val (pe_call F2 hr1 rfl g2 k2 b2 .nil pass0 (pa_cons (pv 1) (pa_cons (pe_prop (pv 0) T.cl at1 F1 hr b1 .nil pass0 rfl) pa_nil))))) (pss_one ps_never) pss_nil), ?_⟩
    have N2 := N
    obtain ⟨dx, T', N', S, Po, rows, h1, h2, h3, h4, h5, h6, h7⟩ := N.ex
    refine ⟨.ref a, rfl, .ref m, rfl, m, dx, _, rfl, h1, m, ends, dots, ss, ps, o, n, rfl, N2, l1, l2, en, fun p H1 x1 hp hp1 => ?_⟩
    exact ⟨a, p, zs, _, rfl, L.ex x1, hp1, fun H2 x2 => ⟨true, rfl, k _ (x1.trans x2)⟩⟩
def spRound (C : Addr) : Sp := fun vs H Q _ => ∃ (m a b : Addr) (t : Str) (zs ys ends dots ss ps : List Str) (o n : Str → List (Str × V)), vs = [.ref m, .ref a, .ref b, .str t] ∧ NetAt C H m ends dots ss ps o n ∧ ends.length ≤ 100 ∧ dots.length ≤ 100 ∧ ends.Nodup ∧
  LotAt H a zs (moving ends dots o n) ∧ LotAt H b ys (moving ends dots o n) ∧ (∀ y ∈ ys, y ∉ zs) ∧ ∀ H', Evl.Ex H H' → Q .non H'
abbrev nRound : List Str := ["net", "done", "lot", "part", "node"]
theorem sc_round : FnScope nRound ["net", "done", "lot", "part"] (defScope p_check_round) := ⟨rfl, rfl, rfl, by decide +kernel, rfl, by decide +kernel, by decide +kernel⟩
theorem ok_check_round {f C : Addr} {fd : FuncData} (F : Fun K "check_round" "check_round" p_check_round f fd) (C1 : Cal P w K mg base 1 "check_net" ["net"] (spCheckNet C)) (C2 : Cal P w K mg base 4 "check_lot" ["net", "lot", "part"] (spCheckLot C)) (mAny : mg "any" = none) : FnOk P w K mg base CX0 5 f fd ["net", "done", "lot", "part"] (spRound C) := by
  obtain ⟨f1, fd1, F1, k1, b1, g1⟩ := C1.ex
  obtain ⟨f2, fd2, F2, k2, b2, g2⟩ := C2.ex
  refine F.ok sc_round (fun vs H Q E h => ?_) (fun cdv A outer s H vs Q E hr h => ?_)
  · obtain ⟨m, a, b, t, zs, ys, ends, dots, ss, ps, o, n, rfl, _⟩ := h
    rfl
  · obtain ⟨m, a, b, t, zs, ys, ends, dots, ss, ps, o, n, rfl, N, l1, l2, en, La, Lb, dis, k⟩ := h
    have nd := sc_round.nd
    have hr1 : Room 1 _ := hr.mono (by decide)
    refine ⟨_, pss_cons (ps_expr (pe_call F1 hr1 rfl g1 k1 b1 .nil pass0 (pa_cons (pv 0) pa_nil)))
      (pss_cons (ps_expr (pe_call F2 hr rfl g2 k2 b2 .nil pass0 (pa_cons (pv 0) (pa_cons (pv 1) (pa_cons pe_str pa_nil)))))
      (pss_cons (ps_expr (pe_call F2 hr rfl g2 k2 b2 .nil pass0 (pa_cons (pv 0) (pa_cons (pv 2) (pa_cons (pv 3) pa_nil)))))
      (pss_one (ps_if (pt_val (pe_callB (cr_any rfl) (by rfl) mAny (by decide +kernel) (pa_cons (pe_lc (own := [("node", 4)]) (g := gName 4) (tt := tYes) (te := tOp (rIn K false) (tVar 4) (tVar 1)) rfl nd (pi_tup (pv 2)) (blkOk_by (own := [("node", 4)]) (N := nRound) (sc := defScope p_check_round) (by decide +kernel))
            (fun _ _ _ _ _ => pg_name (i := 4) nd rfl (Or.inl rfl)) (fun _ _ _ _ _ => pts_nil) (fun _ _ _ _ _ => pe_cmpR op_in_seq (pv 4) (pv 1) rfl)) pa_nil))) (pss_one ps_never) pss_nil)))), ?_⟩
    have few := Lb.few
    refine ⟨.ref m, rfl, m, ends, dots, ss, ps, o, n, rfl, N, ?_⟩
    refine ⟨.ref m, rfl, .ref a, rfl, m, a, _, zs, ends, dots, ss, ps, o, n, rfl, N, l1, l2, en, La, fun H1 x1 => ?_⟩
    refine ⟨.ref m, rfl, .ref b, rfl, .str t, rfl, m, b, _, ys, ends, dots, ss, ps, o, n, rfl, N.to x1, l1, l2, en, Lb.ex x1, fun H2 x2 => ?_⟩
    have x12 := x1.trans x2
    refine ⟨.ref b, rfl, b, rfl, ⟨_, Evl.st_of (x12 _ _ Lb.ha)⟩, fun D hD => lc_tup (K := K) (a := b) (xs := ys.map V.str) (fun i H' => i ≤ ys.length ∧ Evl.Ex H2 H' ∧ H' D = some (.lst ((List.replicate i false).map V.bl)))
      ⟨Nat.zero_le _, Evl.Ex.new hD, upd_same⟩ (fun i H' _ h => Evl.st_of (h.2.1 _ _ (x12 _ _ Lb.ha))) ?_ ?_⟩
    · rintro i x H3 hi ⟨_, x3, d3⟩
      obtain ⟨y, hy, rfl⟩ := str_at hi
      have hil : i < ys.length := (List.getElem?_eq_some_iff.mp hy).1
      refine ⟨rfl, ?_⟩
      refine yes_if ?_
      refine ⟨.str y, rfl, .ref a, rfl, a, zs.map V.str, rfl, .inr (Evl.st_of ((x12.trans x3) _ _ La.ha)), rfl, flat_strs zs, _, d3, by rw [List.length_map, List.length_replicate]; exact small1000 (by omega), hil, x3.mut hD, ?_⟩
      rw [inV_str, decide_eq_false (dis y (List.mem_of_getElem? hy)), upd_same, List.replicate_succ', List.map_append]
      rfl
    · rintro H3 ⟨_, x3, d3⟩
      refine ⟨D, _, rfl, Evl.sq_of d3, ?_⟩
      rw [any_falses]
      exact ⟨false, rfl, k _ (x12.trans x3)⟩
end
end Rw
end T_N4

section T_W0
set_option Elab.async false
set_option linter.all false
set_option maxRecDepth 100000
set_option maxHeartbeats 4000000
namespace Rw
open PySem L2 PyProof.Rows
/-! ### the places that a table leads to -/
/-- zs behind, v the place: on, up to one that is no key or came before -/
def track (tb : List (Str × V)) : Nat → List Str → V → List V
  | 0, zs, v => zs.map V.str ++ [v]
  | k + 1, zs, v => match v with
    | .str z => match valV (tkv tb) (Sum.inr z) with
      | some u => if z ∈ zs then zs.map V.str ++ [v] else track tb k (zs ++ [z]) u
      | none => zs.map V.str ++ [v]
    | _ => zs.map V.str ++ [v]
def walkOf (tb : List (Str × V)) (n : Nat) (z : Str) : List V := track tb n [] (.str z)
theorem track_non {tb : List (Str × V)} {k : Nat} {zs : List Str} : track tb k zs .non = zs.map V.str ++ [.non] := by cases k <;> rfl
theorem track_out {tb : List (Str × V)} {k : Nat} {zs : List Str} {z : Str} (h : valV (tkv tb) (Sum.inr z) = none) : track tb k zs (.str z) = zs.map V.str ++ [.str z] := by
  cases k with
  | zero => rfl
  | succ k => show (match valV (tkv tb) (Sum.inr z) with | some u => _ | none => _) = _; rw [h]
theorem track_ring {tb : List (Str × V)} {k : Nat} {zs : List Str} {z : Str} (h : z ∈ zs) : track tb k zs (.str z) = zs.map V.str ++ [.str z] := by
  cases k with
  | zero => rfl
  | succ k =>
    show (match valV (tkv tb) (Sum.inr z) with | some u => if z ∈ zs then zs.map V.str ++ [V.str z] else track tb k (zs ++ [z]) u | none => zs.map V.str ++ [V.str z]) = _
    cases valV (tkv tb) (Sum.inr z) with
    | none => rfl
    | some u => show (if z ∈ zs then _ else _) = _; rw [if_pos h]
theorem track_on {tb : List (Str × V)} {k : Nat} {zs : List Str} {z : Str} {u : V} (h : valV (tkv tb) (Sum.inr z) = some u) (hz : z ∉ zs) : track tb (k + 1) zs (.str z) = track tb k (zs ++ [z]) u := by
  show (match valV (tkv tb) (Sum.inr z) with | some u => if z ∈ zs then zs.map V.str ++ [V.str z] else track tb k (zs ++ [z]) u | none => zs.map V.str ++ [V.str z]) = _
  rw [h]
  show (if z ∈ zs then _ else _) = _
  rw [if_neg hz]
theorem iteF {A B : Prop} (h : B) : if false = true then A else B := by
  rw [if_neg (by decide)]
  exact h
/-- a place that can stand in a walk -/
def Spot (v : V) : Prop := v = .non ∨ ∃ y : Str, v = .str y ∧ Nm y
theorem place_spot {zs : List Str} {e z : Str} {v : V} (h : PlaceOk zs e z v) (hz : ∀ y ∈ zs, Nm y) (he : Nm e) : Spot v := by
  rcases h with rfl | rfl | ⟨y, hy, _, rfl⟩
  · exact .inl rfl
  · exact .inr ⟨e, rfl, he⟩
  · exact .inr ⟨y, rfl, hz y hy⟩
theorem track_spots {tb : List (Str × V)} (h : ∀ q ∈ tb, Spot q.2) : ∀ (k : Nat) (zs : List Str) (v : V), (∀ z ∈ zs, Nm z) → Spot v → ∀ u ∈ track tb k zs v, Spot u := by
  intro k
  have base : ∀ (zs : List Str) (v : V), (∀ z ∈ zs, Nm z) → Spot v → ∀ u ∈ zs.map V.str ++ [v], Spot u := fun zs v hz hv u hu => by
    rcases List.mem_append.mp hu with hu | hu
    · obtain ⟨z, hz', rfl⟩ := List.mem_map.mp hu
      exact .inr ⟨z, rfl, hz z hz'⟩
    · rw [List.mem_singleton.mp hu]
      exact hv
  induction k with
  | zero => exact base
  | succ k ih =>
    intro zs v hz hv u hu
    rcases hv with rfl | ⟨y, rfl, hy⟩
    · rw [track_non] at hu
      exact base zs .non hz (.inl rfl) u hu
    · cases q : valV (tkv tb) (Sum.inr y) with
      | none =>
        rw [track_out q] at hu
        exact base zs _ hz (.inr ⟨y, rfl, hy⟩) u hu
      | some w =>
        by_cases m : y ∈ zs
        · rw [track_ring m] at hu
          exact base zs _ hz (.inr ⟨y, rfl, hy⟩) u hu
        · rw [track_on q m] at hu
          refine ih (zs ++ [y]) w (fun z hz' => ?_) ?_ u hu
          · rcases List.mem_append.mp hz' with hz' | hz'
            · exact hz z hz'
            · rw [List.mem_singleton.mp hz']; exact hy
          · have hk : y ∈ tb.map (·.1) := by
              by_cases hm : y ∈ tb.map (·.1)
              · exact hm
              · rw [tkv_none hm] at q; cases q
            obtain ⟨w', h1, h2⟩ := tkv_some hk
            rw [q] at h1
            rw [Option.some.inj h1]
            exact h _ h2
theorem track_len {tb : List (Str × V)} : ∀ (k : Nat) (zs : List Str) (v : V), (track tb k zs v).length ≤ zs.length + k + 1 := by
  intro k
  induction k with
  | zero => intro zs v; show (zs.map V.str ++ [v]).length ≤ _; simp
  | succ k ih =>
    intro zs v
    have b : ∀ v : V, (zs.map V.str ++ [v]).length ≤ zs.length + (k + 1) + 1 := fun v => by simp
    cases v with
    | str y =>
      cases q : valV (tkv tb) (Sum.inr y) with
      | none => rw [track_out q]; exact b _
      | some w =>
        by_cases m : y ∈ zs
        · rw [track_ring m]; exact b _
        · rw [track_on q m]
          have := ih (zs ++ [y]) w
          rw [List.length_append, List.length_singleton] at this
          omega
    | _ => exact b _
/-- a table that leads from these names to places -/
structure LeadOk (dots : List Str) (tb : List (Str × V)) : Prop where
  ks : tb.map (·.1) = dots
  sp : ∀ q ∈ tb, Spot q.2
  nm : ∀ z ∈ dots, Nm z
theorem LeadOk.get {dots : List Str} {tb : List (Str × V)} {z : Str} (h : LeadOk dots tb) (hz : z ∈ dots) : ∃ v, valV (tkv tb) (Sum.inr z) = some v ∧ Spot v := by
  obtain ⟨v, h1, h2⟩ := tkv_some (tb := tb) (z := z) (by rw [h.ks]; exact hz)
  exact ⟨v, h1, h.sp _ h2⟩
section
variable {P : Program} {w : World} {K : PySem.W.Frag} {mg : Str → Option Value} {base : Heap}
def spFollowed : Sp := fun vs H Q _ => ∃ (t : Addr) (z : Str) (dots : List Str) (tb : List (Str × V)), vs = [.ref t, .str z] ∧ H t = some (.dK (tkv tb)) ∧ LeadOk dots tb ∧ dots.length ≤ 100 ∧ Nm z ∧
  ∀ p H', Evl.Ex H H' → H p = none → H' p = some (.lst (walkOf tb (dots.length + 1) z)) → Q (.ref p) H'
abbrev nFollowed : List Str := ["table", "node", "places"]
theorem sc_followed : FnScope nFollowed ["table", "node"] (defScope p_followed) := ⟨rfl, rfl, rfl, by decide +kernel, rfl, by decide +kernel, by decide +kernel⟩
theorem ok_followed {f : Addr} {fd : FuncData} (F : Fun K "followed" "followed" p_followed f fd) : FnOk P w K mg base CX0 1 f fd ["table", "node"] spFollowed := by
  refine F.ok sc_followed (fun vs H Q E h => ?_) (fun cdv A outer s H vs Q E hr h => ?_)
  · obtain ⟨t, z, dots, tb, rfl, _⟩ := h
    rfl
  · obtain ⟨t, z, dots, tb, rfl, ht, L, few, hz, k⟩ := h
    have nd := sc_followed.nd
    have hu := hu_of hr
    refine ⟨_, pss_cons (ps_set (i := 2) nd rfl (.inl rfl) (pe_lst (pa_cons (pv 1) pa_nil)))
      (pss_cons (ps_while PassesOwn.never (PW.pt (pw_and (pt_cmp (pc_dinN hu (pe_ix ix_list (pv 2) (pe_un un_neg pe_int) (fun _ _ => rfl)) (pv 0)) rfl)
          (pw_and1 (pt_cmpR op_notIn_seq (pe_ix ix_list (pv 2) (pe_un un_neg pe_int) (fun _ _ => rfl)) (pe_slice sl_list (pv 2) po_none (po_some (pe_un un_neg pe_int))) rfl))))
        (pss_one (ps_expr (pe_bm PySem.F.plainAttrs_list PySem.F.slot_list_append PySem.F.type_list_append mt_append (pv 2)
          (pa_cons (pe_dget hu (pv 0) (pe_ix ix_list (pv 2) (pe_un un_neg pe_int) (fun _ _ => rfl)) (fun _ _ => rfl)) pa_nil)))))
      (pss_one (ps_ret (pv 2)))), ?_⟩
    refine ⟨.str z, rfl, by show 1 ≤ sizeLine; decide, fun p hp => ?_⟩
    refine ⟨fun m σ H' => ∃ (zs : List Str) (v : V), σ = [some (.ref t), some (.str z), some (.ref p)] ∧ H' p = some (.lst (zs.map V.str ++ [v])) ∧ Evl.Ex H H' ∧ zs.Nodup ∧ (∀ y ∈ zs, y ∈ dots) ∧ Spot v ∧
      track tb m zs v = walkOf tb (dots.length + 1) z ∧ m + zs.length = dots.length + 1, ⟨dots.length + 1, [], .str z, rfl, upd_same, Evl.Ex.new hp, List.nodup_nil, (fun y hy => by cases hy), .inr ⟨z, rfl, hz⟩, rfl, rfl⟩, ?_⟩
    rintro m σ H1 ⟨zs, v, rfl, p1, x1, znd, zd, hv, tr, hm⟩
    have zl := nodup_le zs dots znd zd
    have t1 := x1 _ _ ht
    refine ⟨.ref p, rfl, 1, rfl, p, _, -1, v, rfl, rfl, Evl.sq_of p1, atI_last _ _, .ref t, rfl, ?_⟩
    rcases hv with rfl | ⟨y, rfl, hy⟩
    · refine .inr ⟨t, _, rfl, rfl, .inl t1, false, rfl, ?_⟩
      rw [track_non] at tr
      refine iteF ?_
      refine iteF ?_
      exact ⟨.ref p, rfl, k p _ x1 hp (by rw [p1, tr])⟩
    · cases q : valV (tkv tb) (Sum.inr y) with
      | none =>
        have gt : DGet H1 t (.str y) none := by
          have z := DGet.k (k := Sum.inr y) t1
          rw [q] at z
          exact z
        refine .inl ⟨t, none, rfl, gt, false, rfl, ?_⟩
        rw [track_out q] at tr
        refine iteF ?_
        refine iteF ?_
        exact ⟨.ref p, rfl, k p _ x1 hp (by rw [p1, tr])⟩
      | some u =>
        have gt : ∀ {Hx : Hp}, Hx t = some (.dK (tkv tb)) → DGet Hx t (.str y) (some u) := fun {Hx} tx => by
          have z := DGet.k (k := Sum.inr y) tx
          rw [q] at z
          exact z
        have yd : y ∈ dots := by
          by_cases hm : y ∈ tb.map (·.1)
          · rw [← L.ks]; exact hm
          · rw [tkv_none hm] at q; cases q
        have su : Spot u := by
          obtain ⟨w', h1, h2⟩ := L.get yd
          rw [q] at h1
          rw [Option.some.inj h1]
          exact h2
        refine .inl ⟨t, some u, rfl, gt t1, true, rfl, ?_⟩
        refine iteT ?_
        refine ⟨.ref p, rfl, 1, rfl, p, _, -1, _, rfl, rfl, Evl.sq_of p1, atI_last _ _, .ref p, rfl, 1, rfl, _, rfl, p, _, rfl, Evl.sq_of p1, fun c hc => ?_⟩
        have ecut : cutV (zs.map V.str ++ [V.str y]) none (some (-1)) = zs.map V.str := by
          rw [cut_last]
          exact List.dropLast_concat
        rw [ecut]
        have x2 : Evl.Ex H1 (upd H1 c (.lst (zs.map V.str))) := Evl.Ex.new hc
        have nc : p ≠ c := ne_of_none p1 hc
        refine ⟨c, zs.map V.str, rfl, .inl (Evl.sq_of upd_same), rfl, flat_strs zs, ?_⟩
        generalize upd H1 c (.lst (zs.map V.str)) = H2 at x2
        have p2 := x2 _ _ p1
        have t2 := x2 _ _ t1
        rw [inV_str]
        by_cases mem : y ∈ zs
        · rw [decide_eq_true mem]
          rw [track_ring mem] at tr
          refine ⟨false, rfl, ?_⟩
          refine iteF ?_
          exact ⟨.ref p, rfl, k p _ (x1.trans x2) hp (by rw [p2, tr])⟩
        · rw [decide_eq_false mem]
          obtain ⟨m0, rfl⟩ : ∃ m0, m = m0 + 1 := ⟨m - 1, by omega⟩
          rw [track_on q mem] at tr
          refine ⟨true, rfl, ?_⟩
          refine iteT ?_
          refine ⟨_, fun _ _ h => h, ?_⟩
          refine ⟨.ref p, rfl, .inl ⟨rfl, _, Evl.sq_of p2⟩, .ref t, rfl, .ref p, rfl, 1, rfl, p, _, -1, _, rfl, rfl, Evl.sq_of p2, atI_last _ _, t, u, rfl, gt t2, p, _, u, rfl, rfl, p2, ?_, ?_⟩
          · rw [List.length_append, List.length_map, List.length_singleton]
            exact small1000 (by omega)
          · refine ⟨m0, Nat.lt_succ_self _, zs ++ [y], u, rfl, ?_, (x1.trans x2).mut hp, ?_, ?_, su, tr, ?_⟩
            · rw [upd_same, List.map_append]
              rfl
            · rw [List.nodup_append]
              exact ⟨znd, by simp, fun a ha b hb e => mem (by rw [List.mem_singleton.mp hb] at e; exact e ▸ ha)⟩
            · intro a ha
              rcases List.mem_append.mp ha with ha | ha
              · exact zd a ha
              · rw [List.mem_singleton.mp ha]; exact yd
            · rw [List.length_append, List.length_singleton]
              omega
end
end Rw
end T_W0

section T_W1
set_option Elab.async false
set_option linter.all false
set_option maxRecDepth 100000
set_option maxHeartbeats 4000000
namespace Rw
open PySem L2 PyProof.Rows
/-- the ways at a moment at which just the nodes of on have their new ones -/
def nowTab (dots : List Str) (o n : List (Str × V)) (on : List Str) : List (Str × V) := dots.map fun z => (z, look (if z ∈ on then n else o) z)
theorem nowTab_keys (dots : List Str) (o n : List (Str × V)) (on : List Str) : (nowTab dots o n on).map (·.1) = dots := by
  unfold nowTab
  rw [List.map_map]
  exact List.map_id _
theorem nowTab_snoc (l : List Str) (z : Str) (o n : List (Str × V)) (on : List Str) : nowTab (l ++ [z]) o n on = nowTab l o n on ++ [(z, look (if z ∈ on then n else o) z)] := by
  unfold nowTab
  rw [List.map_append]
  rfl
theorem nowTab_lead {dots : List Str} {e : Str} {o n : List (Str × V)} {on : List Str} (h1 : TabOk dots e o) (h2 : TabOk dots e n) (hz : ∀ y ∈ dots, Nm y) (he : Nm e) : LeadOk dots (nowTab dots o n on) := by
  refine ⟨nowTab_keys _ _ _ _, fun q hq => ?_, hz⟩
  obtain ⟨z, hzd, rfl⟩ := List.mem_map.mp hq
  show Spot (look (if z ∈ on then n else o) z)
  by_cases m : z ∈ on
  · rw [if_pos m]; exact place_spot (look_ok h2 hzd).1 hz he
  · rw [if_neg m]; exact place_spot (look_ok h1 hzd).1 hz he
section
variable {P : Program} {w : World} {K : PySem.W.Frag} {mg : Str → Option Value} {base : Heap}
def spWay (C : Addr) : Sp := fun vs H Q _ => ∃ (m : Addr) (e z : Str) (b : Bool) (ends dots ss ps : List Str) (o n : Str → List (Str × V)), vs = [.ref m, .str e, .str z, .bl b] ∧ NetAt C H m ends dots ss ps o n ∧ ends.length ≤ 100 ∧ e ∈ ends ∧ z ∈ dots ∧
  ∀ H', Evl.Ex H H' → Q (look (if b = true then n e else o e) z) H'
abbrev nWay : List Str := ["self", "goal", "node", "is_new", "old", "new"]
theorem sc_way : FnScope nWay ["self", "goal", "node", "is_new"] (defScope c_Net_way) := ⟨rfl, rfl, rfl, by decide +kernel, rfl, by decide +kernel, by decide +kernel⟩
theorem ok_way {f C : Addr} {fd : FuncData} (F : Fun K "way" "Net.way" c_Net_way f fd) (T : NetTxt K C) (C1 : Cal P w K mg base 3 "check_goal" ["net", "goal"] (spCheckGoal C)) (C2 : Cal P w K mg base 3 "check_node" ["net", "node"] (spCheckDot C)) : FnOk P w K mg base CX0 4 f fd ["self", "goal", "node", "is_new"] (spWay C) := by
  obtain ⟨f1, fd1, F1, k1, b1, g1⟩ := C1.ex
  obtain ⟨f2, fd2, F2, k2, b2, g2⟩ := C2.ex
  refine F.ok sc_way (fun vs H Q E h => ?_) (fun cdv A outer s H vs Q E hr h => ?_)
  · obtain ⟨m, e, z, b, ends, dots, ss, ps, o, n, rfl, _⟩ := h
    rfl
  · obtain ⟨m, e, z, b, ends, dots, ss, ps, o, n, rfl, N, few, he, hz, k⟩ := h
    have nd := sc_way.nd
    have hu := hu_of hr
    refine ⟨_, pss_cons (ps_expr (pe_call F1 hr rfl g1 k1 b1 .nil pass0 (pa_cons (pv 0) (pa_cons (pv 1) pa_nil))))
      (pss_cons (ps_expr (pe_call F2 hr rfl g2 k2 b2 .nil pass0 (pa_cons (pv 0) (pa_cons (pv 2) pa_nil))))
      (pss_cons (ps_asg (pe_dget hu (pe_fld (pv 0) rfl) (pv 1) (fun _ _ => rfl)) (pg_tup rfl (pgs_cons (pg_name (i := 4) nd rfl (.inl rfl)) (pgs_cons (pg_name (i := 5) nd rfl (.inl rfl)) pgs_nil))))
      (pss_one (ps_ret (pe_ifExp (pt_val (pv 3)) (pe_dget hu (pv 5) (pv 2) (fun _ _ => rfl)) (pe_dget hu (pv 4) (pv 2) (fun _ _ => rfl))))))), ?_⟩
    refine ⟨.ref m, rfl, .str e, rfl, m, e, ends, dots, ss, ps, o, n, rfl, N, few, he, fun H1 x1 => ?_⟩
    have N1 := N.to x1
    refine ⟨.ref m, rfl, .str z, rfl, m, z, ends, dots, ss, ps, o, n, rfl, N1, hz, ?_⟩
    obtain ⟨dx, T', N', S, Po, rows, h1, h2, h3, h4, h5, h6, h7⟩ := N1.ex
    obtain ⟨p, po, pn, hv, pa⟩ := h7 e he
    have ge : DGet H1 T' (.str e) (some (.ref p)) := by
      have q := DGet.k (k := Sum.inr e) h2
      rw [hv] at q
      exact q
    have c1 := (look_ok pa.o1 hz)
    have c2 := (look_ok pa.o2 hz)
    have go : DGet H1 po (.str z) (some (look (o e) z)) := by
      have q := DGet.k (k := Sum.inr z) pa.ho
      rw [c1.2, look_canon hz] at q
      exact q
    have gn : DGet H1 pn (.str z) (some (look (n e) z)) := by
      have q := DGet.k (k := Sum.inr z) pa.hn
      rw [c2.2, look_canon hz] at q
      exact q
    have kk := k H1 x1
    refine ⟨.ref m, rfl, m, C, dx, _, .ref T', rfl, h1, T.cl, T.nT, nflds_tables _ _ _ _, .str e, rfl, T', _, rfl, ge, p, _, rfl, Evl.st_of pa.hp, rfl, _, _, rfl, _, [], rfl, rfl, ?_⟩
    cases b with
    | true => exact ⟨.bl true, rfl, true, rfl, iteT ⟨.ref pn, rfl, .str z, rfl, pn, _, rfl, gn, kk⟩⟩
    | false => exact ⟨.bl false, rfl, false, rfl, iteF ⟨.ref po, rfl, .str z, rfl, po, _, rfl, go, kk⟩⟩
end
end Rw
end T_W1

section T_Y0
set_option Elab.async false
set_option linter.all false
set_option maxRecDepth 100000
set_option maxHeartbeats 4000000
namespace Rw
open PySem L2 PyProof.Rows
/-- a dict comprehension over any walk -/
theorem dc_it {J : It} {n : Nat} {G : Hp → Prop} {Y : Nat → Hp → V → Hp → Prop} (wk : Walk J n G Y) {g : TG} {tt : TT} {tk tv : TE} {vs : List Nat} {σ : L2.St} {H1 : Hp} {D : Addr} {Qd : Hp → Prop} (Pv : Nat → Hp → Prop) (start : Pv 0 (upd H1 D (.dK []))) (hG : ∀ i H, i ≤ n → Pv i H → G H)
    (turn : ∀ i x H H', i < n → Pv i H → Y i H x H' → g x (wipe σ vs) H' fun σ2 H2 => wipe σ2 vs = wipe σ vs ∧ tt σ2 H2 fun b H3 =>
      if b = true then tk σ2 H3 fun y H4 => tv σ2 H4 fun z H5 => ∃ kvs k, y = kV k ∧ H5 D = some (.dK kvs) ∧ kvs.length < sizeLine ∧ Pv (i + 1) (upd H5 D (.dK (putK kvs k z))) else Pv (i + 1) H3) (fin : ∀ H, Pv n H → Qd H) :
    ∃ W : Nat → Nat → Hp → Prop, (∃ m, W 0 m (upd H1 D (.dK []))) ∧ ∀ i m H, W i m H →
      (J.stop i H ∧ Qd H) ∨ (J.go i H ∧ ∃ Nx : Hp → Prop, (∀ H', Nx H' → ∃ m', m' < m ∧ W (i + 1) m' H') ∧ ∀ x H', J.yld i H x H' → g x (wipe σ vs) H' fun σ2 H2 => wipe σ2 vs = wipe σ vs ∧ tt σ2 H2 fun b H3 =>
        if b = true then tk σ2 H3 fun y H4 => tv σ2 H4 fun z H5 => ∃ kvs k, y = kV k ∧ H5 D = some (.dK kvs) ∧ kvs.length < sizeLine ∧ Nx (upd H5 D (.dK (putK kvs k z))) else Nx H3) := by
  refine ⟨fun i m H => m = n - i ∧ i ≤ n ∧ Pv i H, ⟨n, by simp, Nat.zero_le _, start⟩, ?_⟩
  rintro i m H ⟨rfl, hi, p⟩
  by_cases lt : i < n
  · exact .inr ⟨wk.goes i H lt (hG i H hi p), Pv (i + 1), fun H' p' => ⟨n - (i + 1), by omega, rfl, lt, p'⟩, fun x H' y => turn i x H H' lt p (wk.yields i H x H' lt (hG i H hi p) y)⟩
  · have e : i = n := by omega
    subst e
    exact .inl ⟨wk.stops H (hG _ H hi p), fin H p⟩
theorem RowsAt.ok {H : Hp} {ends dots : List Str} {rows : List (Str × V)} {o n : Str → List (Str × V)} (h : RowsAt H ends dots rows o n) (hk : rows.map (·.1) = ends) (nd : ends.Nodup) : RowsOk H dots rows := fun q hq => by
  obtain ⟨i, hi, rfl⟩ := List.getElem_of_mem hq
  have ge : ends[i]? = some rows[i].1 := by rw [← hk, List.getElem?_map, List.getElem?_eq_getElem hi]; rfl
  obtain ⟨p, po, pn, hv, pa⟩ := h rows[i].1 (List.mem_of_getElem? ge)
  have h1 := tkv_at hk nd ge hv
  unfold tkv at h1
  rw [List.map_map, List.getElem?_map, List.getElem?_eq_getElem hi] at h1
  exact ⟨p, po, pn, _, _, Option.some.inj h1, pa⟩
/-- new tables, told by their addresses: goal, pair, old, new -/
def tabRs (T : List (Str × Addr × Addr × Addr)) : List (Str × V) := T.map fun t => (t.1, V.ref t.2.1)
theorem tabRs_keys (T : List (Str × Addr × Addr × Addr)) : (tabRs T).map (·.1) = T.map (·.1) := by
  unfold tabRs
  rw [List.map_map]
  rfl
structure TabsAt (H0 H : Hp) (D : Addr) (T : List (Str × Addr × Addr × Addr)) (ends dots : List Str) (o n : Str → List (Str × V)) : Prop where
  hd : H D = some (.dK (tkv (tabRs T)))
  ks : T.map (·.1) = ends
  pa : ∀ t ∈ T, PairAt H dots t.1 t.2.1 t.2.2.1 t.2.2.2 (o t.1) (n t.1) ∧ H0 t.2.1 = none ∧ H0 t.2.2.1 = none ∧ H0 t.2.2.2 = none
  nd : (D :: T.flatMap fun t => [t.2.2.1, t.2.2.2]).Nodup
theorem TabsAt.get {H0 H : Hp} {D : Addr} {T : List (Str × Addr × Addr × Addr)} {ends dots : List Str} {o n : Str → List (Str × V)} (h : TabsAt H0 H D T ends dots o n) (en : ends.Nodup) {t : Str × Addr × Addr × Addr} (ht : t ∈ T) : valV (tkv (tabRs T)) (Sum.inr t.1) = some (.ref t.2.1) := by
  have ks := h.ks
  clear h
  induction T generalizing ends with
  | nil => cases ht
  | cons u T ih =>
    subst ks
    obtain ⟨h1, h2⟩ := List.nodup_cons.mp en
    show valV ((Sum.inr u.1, V.ref u.2.1) :: tkv (tabRs T)) (Sum.inr t.1) = _
    rcases List.mem_cons.mp ht with rfl | ht
    · exact valV_pos (p := ((Sum.inr t.1 : Key), V.ref t.2.1)) rfl
    · rw [valV_neg (fun e => h1 (by have e' : u.1 = t.1 := Sum.inr.inj e; show u.1 ∈ T.map (·.1); rw [e']; exact List.mem_map_of_mem ht))]
      exact ih h2 ht rfl
theorem TabsAt.rows {H0 H : Hp} {D : Addr} {T : List (Str × Addr × Addr × Addr)} {ends dots : List Str} {o n : Str → List (Str × V)} (h : TabsAt H0 H D T ends dots o n) (en : ends.Nodup) : RowsAt H ends dots (tabRs T) o n := fun e he => by
  rw [← h.ks] at he
  obtain ⟨t, ht, rfl⟩ := List.mem_map.mp he
  exact ⟨_, _, _, h.get en ht, (h.pa t ht).1⟩
section
variable {P : Program} {w : World} {K : PySem.W.Frag} {mg : Str → Option Value} {base : Heap}
def spTabs (C : Addr) : Sp := fun vs H Q _ => ∃ (m : Addr) (ends dots ss ps : List Str) (o n : Str → List (Str × V)), vs = [.ref m] ∧ NetAt C H m ends dots ss ps o n ∧ 0 < ends.length ∧ ends.length ≤ 100 ∧ ends.Nodup ∧
  ∀ D T H', Evl.Ex H H' → H D = none → TabsAt H H' D T ends dots (fun e => canon dots (o e)) (fun e => canon dots (n e)) → Q (.ref D) H'
abbrev nTabs : List Str := ["self", "goal", "old", "new"]
theorem sc_tabs : FnScope nTabs ["self"] (defScope c_Net_tables) := ⟨rfl, rfl, rfl, by decide +kernel, rfl, by decide +kernel, by decide +kernel⟩
theorem ok_tabs {f C : Addr} {fd : FuncData} (F : Fun K "tables" "Net.tables" c_Net_tables f fd) (T : NetTxt K C) (mDict : mg "dict" = none) : FnOk P w K mg base CX0 1 f fd ["self"] (spTabs C) := by
  refine F.ok sc_tabs (fun vs H Q E h => ?_) (fun cdv A outer s H vs Q E hr h => ?_)
  · obtain ⟨m, ends, dots, ss, ps, o, n, rfl, _⟩ := h
    rfl
  · obtain ⟨m, ends, dots, ss, ps, o, n, rfl, N, e0, few, en, k⟩ := h
    have nd := sc_tabs.nd
    refine ⟨_, pss_one (ps_ret (pe_lock (pe_dc (own := [("goal", 1), ("old", 2), ("new", 3)]) (g := gTup K 2 (gCons (gName 1) (gCons (gTup K 2 (gCons (gName 2) (gCons (gName 3) gNil))) gNil))) (tt := tYes) (tk := tVar 1) rfl nd (pi_items (pe_fld (pv 0) rfl))
      (blkOk_by (own := [("goal", 1), ("old", 2), ("new", 3)]) (N := nTabs) (sc := defScope c_Net_tables) (by decide +kernel))
      (fun _ _ _ _ _ => pg_tup rfl (pgs_cons (pg_name (i := 1) nd rfl (Or.inl rfl)) (pgs_cons (pg_tup rfl (pgs_cons (pg_name (i := 2) nd rfl (Or.inl rfl)) (pgs_cons (pg_name (i := 3) nd rfl (Or.inl rfl)) pgs_nil))) pgs_nil)))
      (fun _ _ _ _ _ => pts_nil) (fun _ _ _ _ _ => pv 1)
      (fun _ _ _ _ _ => pe_tup (pa_cons (pe_callTy call_dictD (by rfl) mDict (by decide +kernel) (pa_cons (pv 2) pa_nil)) (pa_cons (pe_callTy call_dictD (by rfl) mDict (by decide +kernel) (pa_cons (pv 3) pa_nil)) pa_nil)))))), ?_⟩
    obtain ⟨dx, T', N', S, Po, rows, h1, h2, h3, h4, h5, h6, h7⟩ := N.ex
    have rl : rows.length = ends.length := by rw [← h6, List.length_map]
    have rne : rows ≠ [] := fun z => by rw [z] at rl; simp at rl; omega
    have ro := h7.ok h6 en
    refine ⟨T', .dK (tkv rows), h2, trivial, fun od => ?_⟩
    have locked : (upd H T' (.frz od (.dK (tkv rows)))) T' = some (.frz od (.dK (tkv rows))) := upd_same
    have up : ∀ {a : Addr} {u : HO}, H a = some u → a ≠ T' → (upd H T' (.frz od (.dK (tkv rows)))) a = some u := fun {a u} h ne => by rw [upd_ne ne]; exact h
    have back : ∀ {H4 : Hp}, Evl.Ex (upd H T' (.frz od (.dK (tkv rows)))) H4 → Evl.Ex H (upd H4 T' (.dK (tkv rows))) := fun {H4} e a u h => by
      by_cases q : a = T'
      · subst q
        rw [upd_same, ← h2, h]
      · rw [upd_ne q]
        exact e _ _ (by rw [upd_ne q]; exact h)
    generalize upd H T' (.frz od (.dK (tkv rows))) = HL at locked up back
    refine ⟨.ref m, rfl, m, C, dx, _, .ref T', rfl, up h1 (ne_of h1 h2 (by intro z; cases z)), T.cl, T.nT, nflds_tables _ _ _ _, T', od, _, rfl, locked, fun D hD => dc_it walk_items
      (fun i H' => i ≤ ends.length ∧ Evl.Ex HL H' ∧ ∃ rs : List (Str × Addr × Addr × Addr), H' D = some (.dK (tkv (tabRs rs))) ∧ rs.map (·.1) = ends.take i ∧
        (∀ q ∈ rs, PairAt H' dots q.1 q.2.1 q.2.2.1 q.2.2.2 (canon dots (o q.1)) (canon dots (n q.1)) ∧ HL q.2.1 = none ∧ HL q.2.2.1 = none ∧ HL q.2.2.2 = none) ∧ (D :: rs.flatMap fun t => [t.2.2.1, t.2.2.2]).Nodup)
      ⟨Nat.zero_le _, Evl.Ex.new hD, [], upd_same, rfl, (fun q hq => by cases hq), List.nodup_cons.mpr ⟨by simp, List.nodup_nil⟩⟩ (fun i H' _ h => h.2.1 _ _ locked) ?_ ?_⟩
    · rintro i x H4 H4' hi ⟨_, x4, rs, d4, hk, hpr, hnd⟩ ⟨Tt, xk, xv, rfl, hTt, rfl, hxk, hxv⟩
      rw [tkv_len, rl] at hi
      have gi : ends[i]? = some ends[i] := List.getElem?_eq_getElem hi
      obtain ⟨p, po, pn, hv, pa⟩ := h7 ends[i] (List.getElem_mem hi)
      have ev : xv = .ref p := by
        have z := tkv_at h6 en gi hv
        rw [List.getElem?_map] at z
        exact Option.some.inj (hxv.symm.trans z)
      have ek : xk = .str ends[i] := by
        have z : ((tkv rows).map fun kv => kV kv.1)[i]? = some (.str ends[i]) := by rw [tkv_keysV, h6, List.getElem?_map, gi]; rfl
        rw [List.getElem?_map] at z
        exact Option.some.inj (hxk.symm.trans z)
      subst ev ek
      have n1 : p ≠ T' := ne_of pa.hp h2 (by intro z; cases z)
      have n2 : po ≠ T' := tab_ne h2 ro rne pa.ho pa.o1
      have n3 : pn ≠ T' := tab_ne h2 ro rne pa.hn pa.o2
      have y1 : Evl.Ex H4 (upd H4 Tt (.tup [.str ends[i], .ref p])) := Evl.Ex.new hTt
      have t1 : (upd H4 Tt (.tup [.str ends[i], .ref p])) Tt = some (.tup [.str ends[i], .ref p]) := upd_same
      generalize upd H4 Tt (.tup [.str ends[i], .ref p]) = H5 at y1 t1
      have x5 := x4.trans y1
      have zn : ends[i] ∉ ends.take i := fun hm => by
        have q1 : (ends.take (i + 1)).Nodup := en.sublist (List.take_sublist _ _)
        rw [List.take_add_one, gi] at q1
        exact (List.nodup_append.mp q1).2.2 _ hm _ (List.mem_singleton.mpr rfl) rfl
      refine ⟨Tt, _, rfl, Evl.st_of t1, rfl, _, _, rfl, _, [], rfl, p, _, rfl, Evl.st_of (x5 _ _ (up pa.hp n1)), rfl, _, _, rfl, _, [], rfl, rfl, rfl, rfl, ?_⟩
      refine yes_if ?_
      refine ⟨.str ends[i], rfl, .ref po, rfl, po, _, rfl, .inl (x5 _ _ (up pa.ho n2)), fun po' hpo' => ?_⟩
      have y2 : Evl.Ex H5 (upd H5 po' (.dK (tkv (canon dots (o ends[i]))))) := Evl.Ex.new hpo'
      have q2 : (upd H5 po' (.dK (tkv (canon dots (o ends[i]))))) po' = some (.dK (tkv (canon dots (o ends[i])))) := upd_same
      have f2 : H4 po' = none := by
        cases z : H4 po' with
        | none => rfl
        | some u => rw [y1 _ _ z] at hpo'; cases hpo'
      generalize upd H5 po' (.dK (tkv (canon dots (o ends[i])))) = H6 at y2 q2
      refine ⟨.ref pn, rfl, pn, _, rfl, .inl ((x5.trans y2) _ _ (up pa.hn n3)), fun pn' hpn' => ⟨by show 2 ≤ sizeLine; decide, fun p' hp' => ?_⟩⟩
      have y3 : Evl.Ex H6 (upd (upd H6 pn' (.dK (tkv (canon dots (n ends[i]))))) p' (.tup [.ref po', .ref pn'])) := (Evl.Ex.new hpn').trans (Evl.Ex.new hp')
      have q3 : (upd (upd H6 pn' (.dK (tkv (canon dots (n ends[i]))))) p' (.tup [.ref po', .ref pn'])) pn' = some (.dK (tkv (canon dots (n ends[i])))) := Evl.Ex.new hp' _ _ upd_same
      have q1 : (upd (upd H6 pn' (.dK (tkv (canon dots (n ends[i]))))) p' (.tup [.ref po', .ref pn'])) p' = some (.tup [.ref po', .ref pn']) := upd_same
      have f3 : H4 pn' = none := by
        cases z : H4 pn' with
        | none => rfl
        | some u => rw [(y1.trans y2) _ _ z] at hpn'; cases hpn'
      generalize upd (upd H6 pn' (.dK (tkv (canon dots (n ends[i]))))) p' (.tup [.ref po', .ref pn']) = H7 at y3 q3 q1
      have x7 := x5.trans (y2.trans y3)
      have d7 := (y1.trans (y2.trans y3)) _ _ d4
      have q2' := y3 _ _ q2
      have l4 := x4 _ _ locked
      have back4 : ∀ {a : Addr}, H4 a = none → HL a = none := fun {a} h => by
        cases z : HL a with
        | none => rfl
        | some u => rw [x4 _ _ z] at h; cases h
      have f1 : H4 p' = none := by
        cases z : H4 p' with
        | none => rfl
        | some u =>
          have w6 : Evl.Ex H4 (upd H6 pn' (.dK (tkv (canon dots (n ends[i]))))) := (y1.trans y2).trans (Evl.Ex.new hpn')
          rw [w6 _ _ z] at hp'
          cases hp'
      have rsl : rs.length ≤ 100 := by
        have := congrArg List.length hk
        rw [List.length_map, List.length_take] at this
        omega
      -- what was made stands apart
      have apart : ∀ a ∈ D :: rs.flatMap (fun t => [t.2.2.1, t.2.2.2]), (H4 a).isSome = true := fun a ha => by
        rcases List.mem_cons.mp ha with rfl | ha
        · rw [d4]; rfl
        · obtain ⟨t, ht, ha⟩ := List.mem_flatMap.mp ha
          have pt := (hpr t ht).1
          rcases List.mem_cons.mp ha with rfl | ha
          · rw [pt.ho]; rfl
          · rw [List.mem_singleton.mp ha, pt.hn]; rfl
      have no_po : po' ∉ D :: rs.flatMap fun t => [t.2.2.1, t.2.2.2] := fun m => by
        have := apart _ m
        rw [f2] at this
        cases this
      have no_pn : pn' ∉ D :: rs.flatMap fun t => [t.2.2.1, t.2.2.2] := fun m => by
        have := apart _ m
        rw [f3] at this
        cases this
      have n_on : po' ≠ pn' := ne_of_none q2 hpn'
      have m1 : p' ≠ D := ne_of q1 d7 (by intro z; cases z)
      have m2 : po' ≠ D := (ne_of_none d4 f2).symm
      have m3 : pn' ≠ D := (ne_of_none d4 f3).symm
      have et : tabRs (rs ++ [(ends[i], p', po', pn')]) = tabRs rs ++ [(ends[i], V.ref p')] := by unfold tabRs; rw [List.map_append]; rfl
      have lenR : (tkv (tabRs rs)).length ≤ 100 := by rw [tkv_len]; unfold tabRs; rw [List.length_map]; exact rsl
      refine ⟨_, Sum.inr ends[i], rfl, d7, small1000 (by omega), hi, x7.mut hD, rs ++ [(ends[i], p', po', pn')], ?_, ?_, ?_, ?_⟩
      · rw [upd_same, tkv_new (by rw [tabRs_keys, hk]; exact zn), et]
      · rw [List.map_append, hk, List.take_add_one, gi]
        rfl
      · have keep : ∀ {a : Addr} {u : HO}, H7 a = some u → a ≠ D → (upd H7 D (.dK (putK (tkv (tabRs rs)) (Sum.inr ends[i]) (V.ref p')))) a = some u := fun {a u} h ne => by rw [upd_ne ne]; exact h
        intro q hq
        rcases List.mem_append.mp hq with hq | hq
        · obtain ⟨pa1, z1, z2, z3⟩ := hpr q hq
          have pw := pa1.ex (y1.trans (y2.trans y3))
          have ne2 : q.2.2.1 ≠ D := fun e => (List.nodup_cons.mp hnd).1 (e ▸ List.mem_flatMap.mpr ⟨q, hq, List.mem_cons_self⟩)
          have ne3 : q.2.2.2 ≠ D := fun e => (List.nodup_cons.mp hnd).1 (e ▸ List.mem_flatMap.mpr ⟨q, hq, List.mem_cons_of_mem _ List.mem_cons_self⟩)
          exact ⟨⟨keep pw.hp (ne_of pw.hp d7 (by intro z; cases z)), keep pw.ho ne2, keep pw.hn ne3, pw.o1, pw.o2⟩, z1, z2, z3⟩
        · rw [List.mem_singleton.mp hq]
          exact ⟨⟨keep q1 m1, keep q2' m2, keep q3 m3, pa.o1, pa.o2⟩, back4 f1, back4 f2, back4 f3⟩
      · rw [List.flatMap_append]
        show ((D :: rs.flatMap _) ++ [po', pn']).Nodup
        refine List.nodup_append.mpr ⟨hnd, List.nodup_cons.mpr ⟨by simpa using n_on, List.nodup_cons.mpr ⟨by simp, List.nodup_nil⟩⟩, fun a ha b hb e => ?_⟩
        subst e
        rcases List.mem_cons.mp hb with rfl | hb
        · exact no_po ha
        · rw [List.mem_singleton.mp hb] at ha
          exact no_pn ha
    · rintro H4 ⟨_, x4, rs, d4, hk, hpr, hnd⟩
      rw [tkv_len, rl, List.take_length] at hk
      refine ⟨x4 _ _ locked, ?_⟩
      have nDT : D ≠ T' := (ne_of_none locked hD).symm
      have old : ∀ {a : Addr}, HL a = none → H a = none := fun {a} h => by
        by_cases e : a = T'
        · rw [e, locked] at h; cases h
        · cases z : H a with
          | none => rfl
          | some u => rw [up z e] at h; cases h
      have offT : ∀ {a : Addr}, HL a = none → a ≠ T' := fun {a} h e => by rw [e, locked] at h; cases h
      refine k D rs _ (back x4) (old hD) ⟨by rw [upd_ne nDT]; exact d4, hk, fun t ht => ?_, hnd⟩
      obtain ⟨pa1, z1, z2, z3⟩ := hpr t ht
      exact ⟨⟨by rw [upd_ne (offT z1)]; exact pa1.hp, by rw [upd_ne (offT z2)]; exact pa1.ho, by rw [upd_ne (offT z3)]; exact pa1.hn, pa1.o1, pa1.o2⟩, old z1, old z2, old z3⟩
end
end Rw
end T_Y0

section T_W3
set_option Elab.async false
set_option linter.all false
set_option maxRecDepth 100000
set_option maxHeartbeats 4000000
/-! ways_at as it stands from 57648cc on: by the tables themselves -/
namespace Rw
open PySem L2 PyProof.Rows
section
variable {P : Program} {w : World} {K : PySem.W.Frag} {mg : Str → Option Value} {base : Heap}
theorem dgK {H : Hp} {a : Addr} {kvs : List (Key × V)} {k : Key} {v : V} (h : H a = some (.dK kvs)) (hv : valV kvs k = some v) : DGet H a (kV k) (some v) := by
  have := DGet.k (k := k) h
  rw [hv] at this
  exact this
def spWaysAt (C : Addr) : Sp := fun vs H Q _ => ∃ (m a b : Addr) (e : Str) (zs ys ends dots ss ps : List Str) (o n : Str → List (Str × V)), vs = [.ref m, .ref a, .ref b, .str e] ∧ NetAt C H m ends dots ss ps o n ∧ ends.length ≤ 100 ∧ ends.Nodup ∧ dots.length ≤ 100 ∧ dots.Nodup ∧ e ∈ ends ∧
  SqT K H a (zs.map V.str) ∧ SqT K H b (ys.map V.str) ∧ ∀ D H', Evl.Ex H H' → H D = none → H' D = some (.dK (tkv (nowTab dots (o e) (n e) (zs ++ ys)))) → Q (.ref D) H'
abbrev nWaysAt : List Str := ["net", "done", "changed", "goal", "old", "new", "node"]
theorem sc_ways_at : FnScope nWaysAt ["net", "done", "changed", "goal"] (defScope p_ways_at) := ⟨rfl, rfl, rfl, by decide +kernel, rfl, by decide +kernel, by decide +kernel⟩
theorem ok_ways_at {f C : Addr} {fd : FuncData} (F : Fun K "ways_at" "ways_at" p_ways_at f fd) (T : NetTxt K C) (P1 : Prp P w K mg base C 1 "tables" (spTabs C)) (Pg : Prp P w K mg base C 1 "nodes" (spDots C)) :
    FnOk P w K mg base CX0 3 f fd ["net", "done", "changed", "goal"] (spWaysAt (K := K) C) := by
  obtain ⟨p1, g1, fd1, at1, F1, b1⟩ := P1.ex
  obtain ⟨p2, g2, fd2, at2, F2, b2⟩ := Pg.ex
  refine F.ok sc_ways_at (fun vs H Q E h => ?_) (fun cdv A outer s H vs Q E hr h => ?_)
  · obtain ⟨m, a, b, e, zs, ys, ends, dots, ss, ps, o, n, rfl, _⟩ := h
    rfl
  · obtain ⟨m, a, b, e, zs, ys, ends, dots, ss, ps, o, n, rfl, N, few, en, few2, dn, he, ha, hb, k⟩ := h
    have nd := sc_ways_at.nd
    have hu := hu_of hr
    refine ⟨_, pss_cons (ps_asg (pe_dget hu (pe_prop (pv 0) T.cl at1 F1 hr b1 .nil pass0 rfl) (pv 3) (fun _ _ => rfl)) (pg_tup rfl (pgs_cons (pg_name (i := 4) nd rfl (.inr rfl)) (pgs_cons (pg_name (i := 5) nd rfl (.inr rfl)) pgs_nil))))
      (pss_one (ps_ret (pe_dc (own := [("node", 6)]) (g := gName 6) (tt := tYes) (tk := tVar 6)
          (tv := tIf (tOr (tTest (tOp (rIn K false) (tVar 6) (tVar 1))) (tTest (tOp (rIn K false) (tVar 6) (tVar 2)))) (tDGet (tVar 5) (tVar 6)) (tDGet (tVar 4) (tVar 6))) rfl nd (pi_tup (pe_prop (pv 0) T.cl at2 F2 hr b2 .nil pass0 rfl)) (blkOk_by (own := [("node", 6)]) (N := nWaysAt) (sc := defScope p_ways_at) (by decide +kernel))
        (fun _ _ _ _ _ => pg_name (i := 6) nd rfl (Or.inl rfl)) (fun _ _ _ _ _ => pts_nil) (fun _ _ _ _ _ => pv 6)
        (fun _ _ _ _ _ => pe_ifExp (PW.pt (pw_or (pt_cmpR op_in_seq (pv 6) (pv 1) rfl) (pw_or1 (pt_cmpR op_in_seq (pv 6) (pv 2) rfl)))) (pe_dget hu (pv 5) (pv 6) (fun _ _ => rfl)) (pe_dget hu (pv 4) (pv 6) (fun _ _ => rfl)))))), ?_⟩
    have N2 := N
    obtain ⟨dx, T', N', S, Po, rows, h1, h2, h3, h4, h5, h6, h7⟩ := N.ex
    have e0 : 0 < ends.length := List.length_pos_of_mem he
    refine ⟨.ref m, rfl, m, dx, _, rfl, h1, m, ends, dots, ss, ps, o, n, rfl, N2, e0, few, en, fun D0 Tb H0 x0 hD0 TA => ?_⟩
    obtain ⟨t, ht, et⟩ : ∃ t ∈ Tb, t.1 = e := by
      rw [← TA.ks] at he
      obtain ⟨t, ht, e2⟩ := List.mem_map.mp he
      exact ⟨t, ht, e2⟩
    obtain ⟨pa, _⟩ := TA.pa t ht
    have hv := TA.get en ht
    rw [et] at pa hv
    refine ⟨.str e, rfl, D0, _, rfl, dgK (k := Sum.inr e) TA.hd hv, t.2.1, _, rfl, Evl.st_of pa.hp, rfl, _, _, rfl, _, [], rfl, rfl, ?_⟩
    refine ⟨.ref m, rfl, m, dx, _, rfl, x0 _ _ h1, m, ends, dots, ss, ps, o, n, rfl, N2.to x0, fun q hq => ⟨q, rfl, ⟨_, Evl.st_of hq⟩, fun D hD => dc_tup (K := K) (a := q) (xs := dots.map V.str)
      (fun i H' => i ≤ dots.length ∧ Evl.Ex H0 H' ∧ H' D = some (.dK (tkv (nowTab (dots.take i) (o e) (n e) (zs ++ ys))))) ⟨Nat.zero_le _, Evl.Ex.new hD, upd_same⟩ (fun i H' _ h => Evl.st_of (h.2.1 _ _ hq)) ?_ ?_⟩⟩
    · rintro i x H1 hi ⟨_, x1, d1⟩
      obtain ⟨z, hz, rfl⟩ := str_at hi
      have hil : i < dots.length := (List.getElem?_eq_some_iff.mp hz).1
      have zd := List.mem_of_getElem? hz
      have et : dots.take (i + 1) = dots.take i ++ [z] := by rw [List.take_add_one, hz]; rfl
      have zn : z ∉ dots.take i := fun hm => by
        have h1 : (dots.take (i + 1)).Nodup := dn.sublist (List.take_sublist _ _)
        rw [et] at h1
        exact (List.nodup_append.mp h1).2.2 z hm z (List.mem_singleton.mpr rfl) rfl
      have c1 := look_ok pa.o1 zd
      have c2 := look_ok pa.o2 zd
      have go : DGet H1 t.2.2.1 (.str z) (some (look (o e) z)) := by
        have := dgK (k := Sum.inr z) (x1 _ _ pa.ho) c1.2
        rw [look_canon zd] at this
        exact this
      have gn : DGet H1 t.2.2.2 (.str z) (some (look (n e) z)) := by
        have := dgK (k := Sum.inr z) (x1 _ _ pa.hn) c2.2
        rw [look_canon zd] at this
        exact this
      refine ⟨rfl, ?_⟩
      refine yes_if ?_
      refine ⟨.str z, rfl, ?_⟩
      have fin : ∀ v : V, v = look (if z ∈ zs ++ ys then n e else o e) z → ∃ kvs k, V.str z = kV k ∧ H1 D = some (.dK kvs) ∧ kvs.length < sizeLine ∧
          (i + 1 ≤ dots.length ∧ Evl.Ex H0 (upd H1 D (.dK (putK kvs k v))) ∧ (upd H1 D (.dK (putK kvs k v))) D = some (.dK (tkv (nowTab (dots.take (i + 1)) (o e) (n e) (zs ++ ys))))) := by
        rintro v rfl
        refine ⟨_, Sum.inr z, rfl, d1, ?_, hil, x1.mut hD, ?_⟩
        · rw [tkv_len]
          unfold nowTab
          rw [List.length_map, List.length_take]
          exact small1000 (by omega)
        · rw [upd_same, tkv_new (by rw [nowTab_keys]; exact zn), et, nowTab_snoc]
      refine ⟨.str z, rfl, .ref a, rfl, a, zs.map V.str, rfl, .inr (Evl.ex_t (x0.trans x1) ha), rfl, flat_strs zs, ?_⟩
      rw [inV_str]
      by_cases m1 : z ∈ zs
      · rw [decide_eq_true m1]
        refine ⟨true, rfl, iteT (iteT ?_)⟩
        exact ⟨.ref t.2.2.2, rfl, .str z, rfl, t.2.2.2, _, rfl, gn, fin _ (by rw [if_pos (List.mem_append_left _ m1)])⟩
      · rw [decide_eq_false m1]
        refine ⟨false, rfl, iteF ?_⟩
        refine ⟨.str z, rfl, .ref b, rfl, b, ys.map V.str, rfl, .inr (Evl.ex_t (x0.trans x1) hb), rfl, flat_strs ys, ?_⟩
        rw [inV_str]
        by_cases m2 : z ∈ ys
        · rw [decide_eq_true m2]
          refine ⟨true, rfl, iteT ?_⟩
          exact ⟨.ref t.2.2.2, rfl, .str z, rfl, t.2.2.2, _, rfl, gn, fin _ (by rw [if_pos (List.mem_append_right _ m2)])⟩
        · rw [decide_eq_false m2]
          refine ⟨false, rfl, iteF ?_⟩
          exact ⟨.ref t.2.2.1, rfl, .str z, rfl, t.2.2.1, _, rfl, go, fin _ (by rw [if_neg (fun h => (List.mem_append.mp h).elim m1 m2)])⟩
    · rintro H1 ⟨_, x1, d1⟩
      rw [List.length_map, List.take_length] at d1
      exact k D _ (x0.trans x1) (ex_none x0 hD) d1
end
end Rw
end T_W3

section T_P1
set_option Elab.async false
set_option linter.all false
set_option maxRecDepth 100000
set_option maxHeartbeats 4000000
namespace Rw
open PySem L2 PyProof.Rows
section
variable {P : Program} {w : World} {K : PySem.W.Frag} {mg : Str → Option Value} {base : Heap}
/-! ### is_list -/
def spIsList (K : PySem.W.Frag) : Sp := fun vs H Q _ => ∃ (a : Addr) (xs : List V), vs = [.ref a] ∧ (SqL K H a xs ∨ SqT K H a xs) ∧ ∀ H', Evl.Ex H H' → Q (.bl true) H'
theorem sc_is_list : FnScope ["value"] ["value"] (defScope p_is_list) := ⟨rfl, rfl, rfl, by decide +kernel, rfl, by decide +kernel, by decide +kernel⟩
theorem ok_is_list {f : Addr} {fd : FuncData} (F : Fun K "is_list" "is_list" p_is_list f fd) (mIsi : mg "isinstance" = none) (mList : mg "list" = none) (mTup : mg "tuple" = none) : FnOk P w K mg base CX0 1 f fd ["value"] (spIsList K) := by
  refine F.ok sc_is_list (fun vs H Q E h => ?_) (fun cdv A outer s H vs Q E hr h => ?_)
  · obtain ⟨a, zs, rfl, _⟩ := h
    rfl
  · obtain ⟨a, zs, rfl, hS, k⟩ := h
    refine ⟨_, pss_one (ps_ret (pe_callB call_isiT (by rfl) mIsi (by decide +kernel) (pa_cons (pv 0) (pa_cons (pe_tup (pa_cons (pe_bltn (v := .ty "list") (by rfl) mList (by decide +kernel) rfl) (pa_cons (pe_bltn (v := .ty "tuple") (by rfl) mTup (by decide +kernel) rfl) pa_nil))) pa_nil)))), ?_⟩
    refine ⟨.ref a, rfl, by show 2 ≤ sizeLine; decide, fun t ht => ?_⟩
    have e := Evl.Ex.new (o := .tup [.ty "list", .ty "tuple"]) ht
    rcases hS with hS | hS
    · exact ⟨.ref a, t, _, .type "list", _, true, rfl, upd_same, .cons (.ty _) (.cons (.ty _) .nil), ty_sl (Evl.ex_l e hS), kitAny_cons (b := true) (kit_ty (by decide +kernel)) (fun z => by cases z) (fun _ => rfl), k _ e⟩
    · exact ⟨.ref a, t, _, .type "tuple", _, true, rfl, upd_same, .cons (.ty _) (.cons (.ty _) .nil), ty_st (Evl.ex_t e hS), kitAny_cons (b := false) (kit_ty (by decide +kernel)) (fun _ => kitAny_cons (b := true) (kit_ty (by decide +kernel)) (fun z => by cases z) (fun _ => rfl)) (fun z => by cases z), k _ e⟩
/-! ### is_name -/
def spIsName : Sp := fun vs H Q _ => ∃ z : Str, vs = [.str z] ∧ Nm z ∧ ∀ H', Evl.Ex H H' → Q (.bl true) H'
abbrev nIsName : List Str := ["value", "sign"]
theorem sc_is_name : FnScope nIsName ["value"] (defScope p_is_name) := ⟨rfl, rfl, rfl, by decide +kernel, rfl, by decide +kernel, by decide +kernel⟩
theorem ok_is_name {f : Addr} {fd : FuncData} {tk : Tok} (F : Fun K "is_name" "is_name" p_is_name f fd) (mIsi : mg "isinstance" = none) (mStr : mg "str" = none) (mLen : mg "len" = none) (mAll : mg "all" = none) (mMost : mg "MOST_LETTERS" = some (.int 6 tk)) :
    FnOk P w K mg base CX0 1 f fd ["value"] spIsName := by
  refine F.ok sc_is_name (fun vs H Q E h => ?_) (fun cdv A outer s H vs Q E hr h => ?_)
  · obtain ⟨z, rfl, _⟩ := h
    rfl
  · obtain ⟨z, rfl, hz, k⟩ := h
    have nd := sc_is_name.nd
    refine ⟨_, pss_cons (ps_if (PW.pt (pw_or (pt_not (pt_val (pe_callB call_isi (by rfl) mIsi (by decide +kernel) (pa_cons (pv 0) (pa_cons (pe_bltn (v := .ty "str") (by rfl) mStr (by decide +kernel) rfl) pa_nil)))))
          (pw_or1 (pt_not (pt_chain op_le op_le pe_int (pe_callB call_len (by rfl) mLen PySem.boot_len (pa_cons (pv 0) pa_nil)) (pe_glob (v := .int 6) (by rfl) mMost ⟨_, rfl⟩))))))
        (pss_one (ps_ret pe_bl)) pss_nil)
      (pss_one (ps_ret (pe_callB (cr_all rfl) (by rfl) mAll (by decide +kernel) (pa_cons (pe_lc (own := [("sign", 1)]) (g := gName 1) (tt := tYes) rfl nd (pi_str (pv 0)) (blkOk_by (own := [("sign", 1)]) (N := nIsName) (sc := defScope p_is_name) (by decide +kernel))
        (fun _ _ _ _ _ => pg_name (i := 1) nd rfl (Or.inl rfl)) (fun _ _ _ _ _ => pts_nil) (fun _ _ _ _ _ => pe_chain op_le_str op_le_str pe_str (pv 1) pe_str)) pa_nil)))), ?_⟩
    obtain ⟨l, rfl, h1, h2, h3⟩ := hz
    have hl : (SX.S l).length = l.length := SX.S_len l
    refine ⟨.str (SX.S l), rfl, .str (SX.S l), .ty "str", _, _, true, rfl, .ty _, .base (.str _), kit_ty (by decide +kernel), true, rfl, ?_⟩
    refine ⟨.str (SX.S l), rfl, .str (SX.S l), l.length, rfl, ⟨Nat.le_of_lt (small1000 (by omega)), hl.symm⟩, 1, (l.length : Int), rfl, rfl, true, ?_, ?_⟩
    · exact congrArg V.bl (decide_eq_true (show (1 : Int) ≤ (l.length : Int) by omega))
    · refine ⟨_, 6, rfl, rfl, true, ?_, ?_⟩
      · exact congrArg V.bl (decide_eq_true (show (l.length : Int) ≤ 6 by omega))
      · refine ⟨.str (SX.S l), rfl, _, rfl, fun D hD => lc_it walk_str (fun i H' => i ≤ l.length ∧ H' = upd H D (.lst ((List.replicate i true).map V.bl))) ⟨Nat.zero_le _, rfl⟩ (fun _ _ _ _ => trivial) ?_ ?_⟩
        · rintro i x H1 H1' hi ⟨_, rfl⟩ ⟨rfl, ch, hch, rfl⟩
          have hil : i < l.length := by simpa using hi
          have hm : ch ∈ l := by
            have z : l[i]? = some ch := by simpa using hch
            exact List.mem_of_getElem? z
          refine ⟨rfl, ?_⟩
          refine yes_if ?_
          have hb := h3 ch hm
          refine ⟨_, rfl, _, _, rfl, rfl, true, congrArg V.bl (sign_le hb.1), ?_⟩
          refine ⟨_, _, rfl, rfl, ?_⟩
          have e2 : (V.bl (!decide (([122] : List Nat) < [ch]))) = .bl true := congrArg V.bl (sign_le hb.2)
          refine ⟨_, upd_same, by rw [List.length_map, List.length_replicate]; exact small1000 (by omega), hil, ?_⟩
          rw [upd_upd, List.replicate_succ', List.map_append]
          show upd H D (.lst (_ ++ [V.bl (!decide (([122] : List Nat) < [ch]))])) = _
          rw [e2]
          rfl
        · rintro H1 ⟨_, rfl⟩
          refine ⟨D, _, rfl, Evl.sq_of upd_same, ?_⟩
          rw [all_trues]
          exact k _ (Evl.Ex.new hD)
end
end Rw
end T_P1

section T_P2
set_option Elab.async false
set_option linter.all false
set_option maxRecDepth 100000
set_option maxHeartbeats 4000000
namespace Rw
open PySem L2 PyProof.Rows
section
variable {P : Program} {w : World} {K : PySem.W.Frag} {mg : Str → Option Value} {base : Heap}
/-! ### is_place -/
def spPlace (K : PySem.W.Frag) : Sp := fun vs H Q _ => ∃ (v : V) (z e : Str) (a : Addr) (zs : List Str), vs = [v, .str z, .ref a, .str e] ∧ SqS K H a zs ∧ PlaceOk zs e z v ∧ ∀ H', Evl.Ex H H' → Q (.bl true) H'
theorem sc_is_place : FnScope ["value", "node", "nodes", "goal"] ["value", "node", "nodes", "goal"] (defScope p_is_place) := ⟨rfl, rfl, rfl, by decide +kernel, rfl, by decide +kernel, by decide +kernel⟩
theorem ok_is_place {f : Addr} {fd : FuncData} (F : Fun K "is_place" "is_place" p_is_place f fd) : FnOk P w K mg base CX0 1 f fd ["value", "node", "nodes", "goal"] (spPlace K) := by
  refine F.ok sc_is_place (fun vs H Q E h => ?_) (fun cdv A outer s H vs Q E hr h => ?_)
  · obtain ⟨v, z, e, a, zs, rfl, _⟩ := h
    rfl
  · obtain ⟨v, z, e, a, zs, rfl, hS, hv, k⟩ := h
    have k0 := k H (Evl.Ex.refl H)
    refine ⟨_, pss_one (ps_ret (pe_or (pe_cmpR op_isN (pv 0) pe_non (nomark _)) (pe_or (pe_cmpR op_eq (pv 0) (pv 3) (nomark _)) (pe_one (pe_and (pe_cmpR op_in_seq (pv 0) (pv 2) rfl) (pe_one (pe_cmpR op_ne (pv 0) (pv 1) (nomark _)))))))), ?_⟩
    rcases hv with rfl | rfl | ⟨y, hy, hne, rfl⟩
    · exact ⟨.non, rfl, rfl, true, rfl, k0⟩
    · refine ⟨.str e, rfl, rfl, false, rfl, ?_⟩
      refine ⟨.str e, rfl, .str e, rfl, rfl, true, congrArg V.bl (decide_eq_true rfl), k0⟩
    · refine ⟨.str y, rfl, rfl, false, rfl, ?_⟩
      refine ⟨.str y, rfl, .str e, rfl, rfl, _, rfl, ite2 (fun _ => k0) (fun _ => ?_)⟩
      refine ⟨.str y, rfl, .ref a, rfl, a, zs.map V.str, rfl, (hS.sq : SqL K H a _ ∨ SqT K H a _), rfl, flat_strs zs, true, ?_, ?_⟩
      · rw [inV_str]
        exact congrArg V.bl (decide_eq_true hy)
      · refine ⟨.str y, rfl, .str z, rfl, rfl, ?_⟩
        have e1 : (!decide (V.str y = V.str z)) = true := by rw [decide_eq_false (fun q => hne (V.str.inj q))]; rfl
        rw [e1]
        exact k0
/-! ### is_table -/
def spTable : Sp := fun vs H Q _ => ∃ (t a : Addr) (e : Str) (zs : List Str) (tb : List (Str × V)), vs = [.ref t, .ref a, .str e] ∧ H t = some (.dK (tkv tb)) ∧ H a = some (.lst (zs.map V.str)) ∧ TabOk zs e tb ∧ zs.length ≤ 100 ∧ ∀ H', Evl.Ex H H' → Q (.bl true) H'
abbrev nIsTable : List Str := ["table", "nodes", "goal", "node"]
theorem sc_is_table : FnScope nIsTable ["table", "nodes", "goal"] (defScope p_is_table) := ⟨rfl, rfl, rfl, by decide +kernel, rfl, by decide +kernel, by decide +kernel⟩
theorem ok_is_table {f fI : Addr} {fd fdI : FuncData} (F : Fun K "is_table" "is_table" p_is_table f fd) (I_ : FnOk P w K mg base CX0 1 fI fdI ["value", "node", "nodes", "goal"] (spPlace K)) (kI : PySem.W.keepIn K (.ref fI) = true) (bI : Binds K fdI ["value", "node", "nodes", "goal"] []) (gI : mg "is_place" = some (.ref fI))
    (mLen : mg "len" = none) (mAll : mg "all" = none) : FnOk P w K mg base CX0 2 f fd ["table", "nodes", "goal"] spTable := by
  refine F.ok sc_is_table (fun vs H Q E h => ?_) (fun cdv A outer s H vs Q E hr h => ?_)
  · obtain ⟨t, a, e, zs, tb, rfl, _⟩ := h
    rfl
  · obtain ⟨t, a, e, zs, tb, rfl, ht, ha, hT, hzl, k⟩ := h
    have nd := sc_is_table.nd
    have hu := hu_of hr
    refine ⟨_, pss_cons (ps_if (pt_cmpR op_ne (pe_callB call_lenD (by rfl) mLen PySem.boot_len (pa_cons (pv 0) pa_nil)) (pe_callB call_len (by rfl) mLen PySem.boot_len (pa_cons (pv 1) pa_nil)) (nomark _)) (pss_one (ps_ret pe_bl)) pss_nil)
      (pss_one (ps_ret (pe_callB (cr_all rfl) (by rfl) mAll (by decide +kernel) (pa_cons (pe_lc (own := [("node", 3)]) (g := gName 3) (tt := tYes) (te := tAndV (tDIn (tVar 3) (tVar 0)) (tCall (spPlace K) [] E0 (tCons (tDGet (tVar 0) (tVar 3)) (tCons (tVar 3) (tCons (tVar 1) (tCons (tVar 2) tNil)))))) rfl nd (pi_list (pv 1)) (blkOk_by (own := [("node", 3)]) (N := nIsTable) (sc := defScope p_is_table) (by decide +kernel))
        (fun _ _ _ _ _ => pg_name (i := 3) nd rfl (Or.inl rfl)) (fun _ _ _ _ _ => pts_nil)
        (fun _ _ _ _ _ => pe_and (pe_cmp (pc_din hu (pv 3) (pv 0)) rfl) (pe_one (pe_call I_ hr rfl gI kI bI .nil pass0 (pa_cons (pe_dget hu (pv 0) (pv 3) (fun _ _ => rfl)) (pa_cons (pv 3) (pa_cons (pv 1) (pa_cons (pv 2) pa_nil)))))))) pa_nil)))), ?_⟩
    refine ⟨.ref t, rfl, t, _, rfl, ht, .ref a, rfl, .ref a, (zs.map V.str).length, rfl, .inl ⟨_, Evl.sq_of ha, rfl⟩, rfl, _, rfl, ?_⟩
    have el : (tkv tb).length = (zs.map V.str).length := by rw [tkv_len, List.length_map, ← hT.ks.length_eq, List.length_map]
    refine iteNS (by rw [el]) ?_
    refine ⟨.ref a, rfl, a, rfl, ⟨_, Evl.sq_of ha⟩, fun D hD => lc_trues (Evl.sq_of ha) hD (by rw [List.length_map]; omega) (fun i x H1 Q1 R hi e1 go => ?_) (fun H1 e1 d1 => ?_)⟩
    · obtain ⟨z, hz, rfl⟩ := str_at hi
      obtain ⟨v, hv1, hv2⟩ := tkv_some (tb := tb) (z := z) (hT.ks.mem_iff.mpr (List.mem_of_getElem? hz))
      refine ⟨rfl, ?_⟩
      refine yes_if ?_
      have gt : DGet H1 t (.str z) (some v) := by
        have q := DGet.k (k := Sum.inr z) (e1 _ _ ht)
        rw [hv1] at q
        exact q
      refine ⟨.str z, rfl, .ref t, rfl, t, some v, rfl, gt, true, rfl, ?_⟩
      refine ⟨.ref t, rfl, .str z, rfl, t, v, rfl, gt, .str z, rfl, .ref a, rfl, .str e, rfl, v, z, e, a, zs, rfl, .inl (Evl.sq_of (e1 _ _ ha)), hT.ps (z, v) hv2, fun H2 e2 => go H2 e2⟩
    · refine ⟨D, _, rfl, Evl.sq_of d1, ?_⟩
      rw [all_trues]
      exact k _ e1
end
end Rw
end T_P2

section T_S4
set_option Elab.async false
set_option linter.all false
set_option maxRecDepth 100000
set_option maxHeartbeats 4000000
namespace Rw
open PySem PySem.Spec L2 PyProof.Rows
/-! ### sorted(a tuple of texts) -/
section
variable {prog : Program} {w : World} {A : Around} {E : Value → Shared → Prop} {s : Shared}
theorem gather_tup {p : Addr} {us : List Value} {Q : List Value → Shared → Prop} (tup : IsTup s.heap p us.toArray) (fits : us.length ≤ sizeLine)
    (go : Q us { s with heap := (s.heap.push (seqObj "list" #[] 0)).update s.heap.objs.size (Obj.mapSeq fun x => x ++ us.toArray) }) : wpAny (model prog w) A (collect (.ref p)) Q E s := by
  obtain ⟨ob, at_p, is_t, k, dat⟩ := id tup
  unfold collect; refine wpAny_bind (wpAny_runValue (codeAny_builtin entry_proto_collect' ?_))
  show wpAny (model prog w) _ (do again (.builtin "list.__iadd__" ⟨[← newList [], .ref p], []⟩)) _ E s
  refine wpAny_bind (wpAny_newList (wpAny_pure (And.intro (Code.quiet_builtin _ (by decide +kernel)) (codeAny_builtin entry_list_iadd' ?_))))
  show wpAny (model prog w) _ (Builtin.List.listExtendWith (.ref s.heap.objs.size) (.ref p) (.ref s.heap.objs.size)) _ E { s with heap := s.heap.push (seqObj "list" #[] 0) }
  unfold Builtin.List.listExtendWith
  have at_p2 : (s.heap.push (seqObj "list" #[] 0)).get? p = some ob := Heap.get?_push_of_some _ at_p
  have at_new : (s.heap.push (seqObj "list" #[] 0)).get? s.heap.objs.size = some (seqObj "list" #[] 0) := Heap.get?_push_size _ rfl
  refine wpAny_bind (wpAny_typeOf (T := "tuple") ⟨ob, at_p2, is_t⟩ ?_)
  rw [if_pos (by rw [show (Value.type "tuple" == Value.type "tuple") = true by rfl]; simp)]
  refine wpAny_bind (listItems_at at_p2 dat (wpAny_bind (listItems_at (xs := #[]) (n := 0) at_new rfl ?_)))
  rw [if_neg (by simp)]
  refine wpAny_bind (listUpdate_at (xs := #[]) (n := 0) at_new rfl ?_ (Nat.zero_le _) (by show (#[] ++ us.toArray).size ≤ _; simp only [Array.size_append, List.size_toArray, List.length_nil]; omega))
  refine wpAny_pure (wpAny_bind (wpAny_load (get?_update_seq at_new _) ?_))
  show wpAny (model prog w) A (pure ((#[] : Array Value) ++ us.toArray).toList) Q E _
  rw [show ((#[] : Array Value) ++ us.toArray).toList = us by simp]
  exact wpAny_pure go
end
section
variable {X : Cx}
def rSortedU (K : PySem.W.Frag) : List V → Hp → VK → Prop := fun vs H Q => ∃ (a : Addr) (ks : List Str), vs = [.ref a] ∧ SqT K H a (ks.map V.str) ∧ ks.length < 64 ∧
  ∀ (ys : List Str) (p : Addr), ys.Perm ks → sortedS ys = true → H p = none → Q (.ref p) (upd H p (.lst (ys.map V.str)))
theorem cr_sortedU : CallR X (.builtin "sorted") (rSortedU X.K) := by
  intro pins s σ H vs us Q I r reading
  obtain ⟨a, ks, rfl, ha, h64, q⟩ := reading
  rw [Vals.ref1 r]
  obtain ⟨out, rel, tup, hz⟩ := I.tuple ha
  have texts : StrsAre out ks := Vals.strs rel
  have len : out.length = ks.length := texts.len_eq
  refine Calls.call_function_entry kind_sorted plain_sorted entry_sorted (args_sorted1 _) ?_
  unfold Builtin.«sorted»; refine wpAny_bind (m := checkCount "sorted" 1 1 _) (wpAny_pure ?_)
  refine wpAny_bind (gather_tup tup (by rw [len, sizeLine_eq]; omega) ?_)
  have grown : ((s.heap.push (seqObj "list" #[] 0)).update s.heap.objs.size (Obj.mapSeq fun x => x ++ out.toArray)).objs.size = s.heap.objs.size + 1 := by rw [Heap.size_update, size_push']
  have keep : ∀ b u, s.heap.get? b = some u → ((s.heap.push (seqObj "list" #[] 0)).update s.heap.objs.size (Obj.mapSeq fun x => x ++ out.toArray)).get? b = some u := fun b u e => by
    rw [Heap.get?_update_ne _ _ _ _ (Nat.ne_of_lt (Heap.lt_size e))]
    exact Heap.get?_push_of_some _ e
  generalize (s.heap.push (seqObj "list" #[] 0)).update s.heap.objs.size (Obj.mapSeq fun x => x ++ out.toArray) = h1 at grown keep
  refine wpAny_bind (wpAny_newList ?_ (by rw [len, sizeLine_eq]; omega))
  have at_l : (h1.push (seqObj "list" out.toArray 0)).get? h1.objs.size = some (seqObj "list" out.toArray 0) := Heap.get?_push_size _ rfl
  refine wpAny_bind (wpAny_holding (wpAny_call_entry slot_list_sort ⟨_, at_l, rfl⟩ entry_list_sort
    (list_sort_treeK strKind_oneLt (s := { s with heap := h1.push (seqObj "list" out.toArray 0) }) at_l texts.keysOf (fun v₁ v₂ rest e => keyKind_strs (by rw [← e]; exact texts)) (by rw [len]; exact h64) fun st' hp hs => ⟨_, rfl, ?_⟩)
    (args_list_sort _)))
  obtain ⟨ys, g1, g2, g3⟩ := sorted_out_str texts hp hs
  obtain ⟨c, at_out⟩ := sortedHeap_at (vs := out) (out := (arrOf st').map (·.2)) at_l
  have lenys : (ys.map V.str).length ≤ sizeLine := by rw [List.length_map, g2.length_eq, sizeLine_eq]; omega
  have keep2 : ∀ b u, s.heap.get? b = some u → (sortedHeap (h1.push (seqObj "list" out.toArray 0)) h1.objs.size out ((arrOf st').map (·.2))).get? b = some u := fun b u e => by
    have e1 := keep b u e
    have lt := Heap.lt_size e1
    rw [sortedHeap_old (Nat.ne_of_lt lt) (by rw [size_push']; exact Nat.lt_succ_of_lt lt)]
    exact Heap.get?_push_of_some _ e1
  have grow : s.heap.objs.size ≤ h1.objs.size := by omega
  have fresh : H h1.objs.size = none := I.hok.fresh grow
  exact wpAny_pure ⟨_, rfl, .ref h1.objs.size, upd H h1.objs.size (.lst (ys.map V.str)), I.laid (t' := s.toks) keep2 grow ⟨lenys, ((arrOf st').map (·.2)).toList, c, vals_of_strs g1, by rw [Array.toArray_toList]; exact at_out⟩, rfl, q ys _ g2 g3 fresh⟩
/-- of a list or a tuple -/
def rSortedLU (K : PySem.W.Frag) : List V → Hp → VK → Prop := fun vs H Q => ∃ (a : Addr) (ks : List Str), vs = [.ref a] ∧ (SqL K H a (ks.map V.str) ∨ SqT K H a (ks.map V.str)) ∧ ks.length < 64 ∧
  ∀ (ys : List Str) (p : Addr), ys.Perm ks → sortedS ys = true → H p = none → Q (.ref p) (upd H p (.lst (ys.map V.str)))
theorem cr_sortedLU : CallR X (.builtin "sorted") (rSortedLU X.K) := by
  intro pins s σ H vs us Q I r reading
  obtain ⟨a, ks, rfl, ha, h64, q⟩ := reading
  rcases ha with ha | ha
  · exact cr_sortedS pins s σ H _ us Q I r ⟨a, ks, rfl, ha, h64, q⟩
  · exact cr_sortedU pins s σ H _ us Q I r ⟨a, ks, rfl, ha, h64, q⟩
end
end Rw
end T_S4

section T_P3
set_option Elab.async false
set_option linter.all false
set_option maxRecDepth 100000
set_option maxHeartbeats 4000000
namespace Rw
open PySem L2 PyProof.Rows
section
variable {P : Program} {w : World} {K : PySem.W.Frag} {mg : Str → Option Value} {base : Heap}
/-! ### are_different, of a list -/
def spDiff (K : PySem.W.Frag) : Sp := fun vs H Q _ => ∃ (a n : Addr) (ss zs : List Str), vs = [.ref a, .ref n] ∧ SqS K H a ss ∧ SqS K H n zs ∧ ss.Nodup ∧ (∀ z ∈ ss, z ∈ zs) ∧ ss.length ≤ 100 ∧ ∀ H', Evl.Ex H H' → Q (.bl true) H'
abbrev nDiff : List Str := ["value", "nodes", "item"]
theorem sc_diff : FnScope nDiff ["value", "nodes"] (defScope p_are_different) := ⟨rfl, rfl, rfl, by decide +kernel, rfl, by decide +kernel, by decide +kernel⟩
theorem ok_diff {f fI : Addr} {fd fdI : FuncData} (F : Fun K "are_different" "are_different" p_are_different f fd) (I_ : FnOk P w K mg base CX0 1 fI fdI ["value"] (spIsList K)) (kI : PySem.W.keepIn K (.ref fI) = true) (bI : Binds K fdI ["value"] []) (gI : mg "is_list" = some (.ref fI))
    (mLen : mg "len" = none) (mAll : mg "all" = none) (mSet : mg "set" = none) : FnOk P w K mg base CX0 2 f fd ["value", "nodes"] (spDiff K) := by
  refine F.ok sc_diff (fun vs H Q E h => ?_) (fun cdv A outer s H vs Q E hr h => ?_)
  · obtain ⟨a, n, ss, zs, rfl, _⟩ := h
    rfl
  · obtain ⟨a, n, ss, zs, rfl, ha, hn, hnd, hsub, hl, k⟩ := h
    have nd := sc_diff.nd
    rcases ha with ha | ha
    · refine ⟨_, pss_one (ps_ret (pe_and (pe_call I_ hr rfl gI kI bI .nil pass0 (pa_cons (pv 0) pa_nil))
        (pe_and (pe_callB (cr_all rfl) (by rfl) mAll (by decide +kernel) (pa_cons (pe_lc (own := [("item", 2)]) (g := gName 2) (tt := tYes) (te := tOp (rIn K false) (tVar 2) (tVar 1)) rfl nd (pi_list (pv 0)) (blkOk_by (own := [("item", 2)]) (N := nDiff) (sc := defScope p_are_different) (by decide +kernel))
            (fun _ _ _ _ _ => pg_name (i := 2) nd rfl (Or.inl rfl)) (fun _ _ _ _ _ => pts_nil) (fun _ _ _ _ _ => pe_cmpR op_in_seq (pv 2) (pv 1) rfl)) pa_nil))
          (pe_one (pe_cmpR op_eq (pe_callB cr_lenX (by rfl) mLen PySem.boot_len (pa_cons (pe_callTy (cr_setX rfl) (by rfl) mSet (by decide +kernel) (pa_cons (pv 0) pa_nil)) pa_nil)) (pe_callB call_len (by rfl) mLen PySem.boot_len (pa_cons (pv 0) pa_nil)) (nomark _)))))), ?_⟩
      refine ⟨.ref a, rfl, a, _, rfl, .inl ha, fun H1 e1 => ⟨true, rfl, ?_⟩⟩
      refine iteT ?_
      refine ⟨.ref a, rfl, a, rfl, ⟨_, Evl.ex_l e1 ha⟩, fun D hD => lc_trues (Evl.ex_l e1 ha) hD (by rw [List.length_map]; omega) (fun i x H2 Q1 R hi e2 go => ?_) (fun H2 e2 d2 => ?_)⟩
      · obtain ⟨z, hz, rfl⟩ := str_at hi
        refine ⟨rfl, ?_⟩
        refine yes_if ?_
        refine ⟨.str z, rfl, .ref n, rfl, n, zs.map V.str, rfl, (hn.ex (e1.trans e2)).sq, rfl, flat_strs zs, ?_⟩
        rw [inV_str, decide_eq_true (hsub z (List.mem_of_getElem? hz))]
        exact go _ (Evl.Ex.refl _)
      · refine ⟨D, _, rfl, Evl.sq_of d2, ?_⟩
        rw [all_trues]
        refine ⟨true, rfl, ?_⟩
        refine iteT ?_
        have e12 := e1.trans e2
        refine ⟨.ref a, rfl, a, ss, rfl, .inl (Evl.ex_l e12 ha), by omega, fun p hp => ?_⟩
        have e3 := Evl.Ex.new (o := SetXO w p (seen ss)) hp
        refine ⟨p, seen ss, rfl, upd_same, .ref a, rfl, .ref a, (ss.map V.str).length, rfl, .inl ⟨_, Evl.ex_l (e12.trans e3) ha, rfl⟩, rfl, ?_⟩
        rw [seen_len hnd, List.length_map, decide_eq_true rfl]
        exact k _ (e12.trans e3)
    · refine ⟨_, pss_one (ps_ret (pe_and (pe_call I_ hr rfl gI kI bI .nil pass0 (pa_cons (pv 0) pa_nil))
        (pe_and (pe_callB (cr_all rfl) (by rfl) mAll (by decide +kernel) (pa_cons (pe_lc (own := [("item", 2)]) (g := gName 2) (tt := tYes) (te := tOp (rIn K false) (tVar 2) (tVar 1)) rfl nd (pi_tup (pv 0)) (blkOk_by (own := [("item", 2)]) (N := nDiff) (sc := defScope p_are_different) (by decide +kernel))
            (fun _ _ _ _ _ => pg_name (i := 2) nd rfl (Or.inl rfl)) (fun _ _ _ _ _ => pts_nil) (fun _ _ _ _ _ => pe_cmpR op_in_seq (pv 2) (pv 1) rfl)) pa_nil))
          (pe_one (pe_cmpR op_eq (pe_callB cr_lenX (by rfl) mLen PySem.boot_len (pa_cons (pe_callTy (cr_setX rfl) (by rfl) mSet (by decide +kernel) (pa_cons (pv 0) pa_nil)) pa_nil)) (pe_callB call_len (by rfl) mLen PySem.boot_len (pa_cons (pv 0) pa_nil)) (nomark _)))))), ?_⟩
      refine ⟨.ref a, rfl, a, _, rfl, .inr ha, fun H1 e1 => ⟨true, rfl, ?_⟩⟩
      refine iteT ?_
      refine ⟨.ref a, rfl, a, rfl, ⟨_, Evl.ex_t e1 ha⟩, fun D hD => lc_truesT (Evl.ex_t e1 ha) hD (by rw [List.length_map]; omega) (fun i x H2 Q1 R hi e2 go => ?_) (fun H2 e2 d2 => ?_)⟩
      · obtain ⟨z, hz, rfl⟩ := str_at hi
        refine ⟨rfl, ?_⟩
        refine yes_if ?_
        refine ⟨.str z, rfl, .ref n, rfl, n, zs.map V.str, rfl, (hn.ex (e1.trans e2)).sq, rfl, flat_strs zs, ?_⟩
        rw [inV_str, decide_eq_true (hsub z (List.mem_of_getElem? hz))]
        exact go _ (Evl.Ex.refl _)
      · refine ⟨D, _, rfl, Evl.sq_of d2, ?_⟩
        rw [all_trues]
        refine ⟨true, rfl, ?_⟩
        refine iteT ?_
        have e12 := e1.trans e2
        refine ⟨.ref a, rfl, a, ss, rfl, .inr (Evl.ex_t e12 ha), by omega, fun p hp => ?_⟩
        have e3 := Evl.Ex.new (o := SetXO w p (seen ss)) hp
        refine ⟨p, seen ss, rfl, upd_same, .ref a, rfl, .ref a, (ss.map V.str).length, rfl, .inr ⟨_, Evl.ex_t (e12.trans e3) ha, rfl⟩, rfl, ?_⟩
        rw [seen_len hnd, List.length_map, decide_eq_true rfl]
        exact k _ (e12.trans e3)
/-! ### are_nodes -/
def spNodes : Sp := fun vs H Q _ => ∃ (a b : Addr) (zs es : List Str), vs = [.ref a, .ref b] ∧ H a = some (.lst (zs.map V.str)) ∧ H b = some (.lst (es.map V.str)) ∧ 1 ≤ zs.length ∧ zs.length ≤ 6 ∧ (∀ z ∈ zs, Nm z ∧ z ∉ es) ∧ ∀ H', Evl.Ex H H' → Q (.bl true) H'
abbrev nNodes : List Str := ["names", "goals", "name"]
theorem sc_nodes : FnScope nNodes ["names", "goals"] (defScope p_are_nodes) := ⟨rfl, rfl, rfl, by decide +kernel, rfl, by decide +kernel, by decide +kernel⟩
theorem ok_nodes {f fI : Addr} {fd fdI : FuncData} {tk : Tok} (F : Fun K "are_nodes" "are_nodes" p_are_nodes f fd) (I_ : FnOk P w K mg base CX0 1 fI fdI ["value"] spIsName) (kI : PySem.W.keepIn K (.ref fI) = true) (bI : Binds K fdI ["value"] []) (gI : mg "is_name" = some (.ref fI))
    (mLen : mg "len" = none) (mAll : mg "all" = none) (mMost : mg "MOST_NODES" = some (.int 6 tk)) : FnOk P w K mg base CX0 2 f fd ["names", "goals"] spNodes := by
  refine F.ok sc_nodes (fun vs H Q E h => ?_) (fun cdv A outer s H vs Q E hr h => ?_)
  · obtain ⟨a, b, zs, es, rfl, _⟩ := h
    rfl
  · obtain ⟨a, b, zs, es, rfl, ha, hb, h1, h6, hz, k⟩ := h
    have nd := sc_nodes.nd
    refine ⟨_, pss_one (ps_ret (pe_and (pe_chain op_le op_le pe_int (pe_callB call_len (by rfl) mLen PySem.boot_len (pa_cons (pv 0) pa_nil)) (pe_glob (v := .int 6) (by rfl) mMost ⟨_, rfl⟩))
      (pe_one (pe_callB (cr_all rfl) (by rfl) mAll (by decide +kernel) (pa_cons (pe_lc (own := [("name", 2)]) (g := gName 2) (tt := tYes) (te := tAndV (tCall spIsName [] E0 (tCons (tVar 2) tNil)) (tOp (rIn K true) (tVar 2) (tVar 1))) rfl nd (pi_list (pv 0)) (blkOk_by (own := [("name", 2)]) (N := nNodes) (sc := defScope p_are_nodes) (by decide +kernel))
          (fun _ _ _ _ _ => pg_name (i := 2) nd rfl (Or.inl rfl)) (fun _ _ _ _ _ => pts_nil) (fun _ _ _ _ _ => pe_and (pe_call I_ hr rfl gI kI bI .nil pass0 (pa_cons (pv 2) pa_nil)) (pe_one (pe_cmpR op_notIn_seq (pv 2) (pv 1) rfl)))) pa_nil))))), ?_⟩
    refine ⟨.ref a, rfl, .ref a, (zs.map V.str).length, rfl, .inl ⟨_, Evl.sq_of ha, rfl⟩, 1, ((zs.map V.str).length : Int), rfl, rfl, true, congrArg V.bl (decide_eq_true (show (1 : Int) ≤ ((zs.map V.str).length : Int) by rw [List.length_map]; omega)), ?_⟩
    refine iteT ?_
    refine ⟨_, 6, rfl, rfl, true, congrArg V.bl (decide_eq_true (show ((zs.map V.str).length : Int) ≤ 6 by rw [List.length_map]; omega)), ?_⟩
    refine iteT ?_
    refine ⟨.ref a, rfl, a, rfl, ⟨_, Evl.sq_of ha⟩, fun D hD => lc_trues (Evl.sq_of ha) hD (by rw [List.length_map]; omega) (fun i x H2 Q1 R hi e2 go => ?_) (fun H2 e2 d2 => ?_)⟩
    · obtain ⟨z, hz', rfl⟩ := str_at hi
      have hh := hz z (List.mem_of_getElem? hz')
      refine ⟨rfl, ?_⟩
      refine yes_if ?_
      refine ⟨.str z, rfl, z, rfl, hh.1, fun H3 e3 => ⟨true, rfl, ?_⟩⟩
      refine iteT ?_
      refine ⟨.str z, rfl, .ref b, rfl, b, es.map V.str, rfl, .inl (Evl.sq_of ((e2.trans e3) _ _ hb)), rfl, flat_strs es, ?_⟩
      rw [inV_str, decide_eq_false hh.2]
      exact go _ e3
    · refine ⟨D, _, rfl, Evl.sq_of d2, ?_⟩
      rw [all_trues]
      exact k _ e2
/-! ### is_pair_of_dicts -/
def spPairD : Sp := fun vs H Q _ => ∃ (p po pn : Addr) (k1 k2 : List (Key × V)), vs = [.ref p] ∧ H p = some (.tup [.ref po, .ref pn]) ∧ H po = some (.dK k1) ∧ H pn = some (.dK k2) ∧ ∀ H', Evl.Ex H H' → Q (.bl true) H'
abbrev nPairD : List Str := ["value", "part"]
theorem sc_pairD : FnScope nPairD ["value"] (defScope p_is_pair_of_dicts) := ⟨rfl, rfl, rfl, by decide +kernel, rfl, by decide +kernel, by decide +kernel⟩
theorem ok_pairD {f : Addr} {fd : FuncData} (F : Fun K "is_pair_of_dicts" "is_pair_of_dicts" p_is_pair_of_dicts f fd) (mIsi : mg "isinstance" = none) (mTup : mg "tuple" = none) (mDict : mg "dict" = none) (mLen : mg "len" = none) (mAll : mg "all" = none) : FnOk P w K mg base CX0 1 f fd ["value"] spPairD := by
  refine F.ok sc_pairD (fun vs H Q E h => ?_) (fun cdv A outer s H vs Q E hr h => ?_)
  · obtain ⟨p, po, pn, k1, k2, rfl, _⟩ := h
    rfl
  · obtain ⟨p, po, pn, k1, k2, rfl, hp, ho, hn, k⟩ := h
    have nd := sc_pairD.nd
    refine ⟨_, pss_one (ps_ret (pe_and (pe_callB call_isi (by rfl) mIsi (by decide +kernel) (pa_cons (pv 0) (pa_cons (pe_bltn (v := .ty "tuple") (by rfl) mTup (by decide +kernel) rfl) pa_nil)))
      (pe_and (pe_cmpR op_eq (pe_callB call_len (by rfl) mLen PySem.boot_len (pa_cons (pv 0) pa_nil)) pe_int (nomark _))
        (pe_one (pe_callB (cr_all rfl) (by rfl) mAll (by decide +kernel) (pa_cons (pe_lc (own := [("part", 1)]) (g := gName 1) (tt := tYes) (te := tCB (rIsi K) (tCons (tVar 1) (tCons (tC (.ty "dict")) tNil))) rfl nd (pi_tup (pv 0)) (blkOk_by (own := [("part", 1)]) (N := nPairD) (sc := defScope p_is_pair_of_dicts) (by decide +kernel))
          (fun _ _ _ _ _ => pg_name (i := 1) nd rfl (Or.inl rfl)) (fun _ _ _ _ _ => pts_nil) (fun _ _ _ _ _ => pe_callB call_isi (by rfl) mIsi (by decide +kernel) (pa_cons (pv 1) (pa_cons (pe_bltn (v := .ty "dict") (by rfl) mDict (by decide +kernel) rfl) pa_nil)))) pa_nil)))))), ?_⟩
    refine ⟨.ref p, rfl, .ref p, .ty "tuple", _, _, true, rfl, .ty _, .base (.tup hp), kit_ty (by decide +kernel), true, rfl, ?_⟩
    refine iteT ?_
    refine ⟨.ref p, rfl, .ref p, 2, rfl, .inr ⟨_, Evl.st_of hp, rfl⟩, rfl, true, rfl, ?_⟩
    refine iteT ?_
    refine ⟨.ref p, rfl, p, rfl, ⟨_, Evl.st_of hp⟩, fun D hD => lc_truesT (Evl.st_of hp) hD (by show 2 < 1000; decide) (fun i x H2 Q1 R hi e2 go => ?_) (fun H2 e2 d2 => ?_)⟩
    · refine ⟨rfl, ?_⟩
      refine yes_if ?_
      match i, hi with
      | 0, hi =>
        cases hi
        exact ⟨.ref po, rfl, .ref po, .ty "dict", _, _, true, rfl, .ty _, .base (.dK (e2 _ _ ho)), kit_ty (by decide +kernel), go _ (Evl.Ex.refl _)⟩
      | 1, hi =>
        cases hi
        exact ⟨.ref pn, rfl, .ref pn, .ty "dict", _, _, true, rfl, .ty _, .base (.dK (e2 _ _ hn)), kit_ty (by decide +kernel), go _ (Evl.Ex.refl _)⟩
      | n + 2, hi => simp at hi
    · refine ⟨D, _, rfl, Evl.sq_of d2, ?_⟩
      rw [all_trues]
      exact k _ e2
end
end Rw
end T_P3

section T_P4
set_option Elab.async false
set_option linter.all false
set_option maxRecDepth 100000
set_option maxHeartbeats 4000000
namespace Rw
open PySem L2 PyProof.Rows
section
variable {P : Program} {w : World} {K : PySem.W.Frag} {mg : Str → Option Value} {base : Heap}
/-! ### are_tables -/
def spTables : Sp := fun vs H Q _ => ∃ (t : Addr) (ends dots : List Str) (rows : List (Str × V)), vs = [.ref t] ∧ H t = some (.dK (tkv rows)) ∧ rows.map (·.1) = ends ∧ RowsOk H dots rows ∧ 0 < ends.length ∧ ends.length ≤ 2 ∧ (∀ z ∈ ends, Nm z) ∧
  0 < dots.length ∧ dots.length ≤ 6 ∧ (∀ z ∈ dots, Nm z ∧ z ∉ ends) ∧ ∀ H', Evl.Ex H H' → Q (.bl true) H'
abbrev nTables : List Str := ["value", "goals", "nodes", "goal", "table"]
theorem sc_tables : FnScope nTables ["value"] (defScope p_are_tables) := ⟨rfl, rfl, rfl, by decide +kernel, rfl, by decide +kernel, by decide +kernel⟩
theorem ok_tables {f f1 f2 f3 f4 : Addr} {fd fd1 fd2 fd3 fd4 : FuncData} {tk : Tok} (F : Fun K "are_tables" "are_tables" p_are_tables f fd)
    (F1 : FnOk P w K mg base CX0 1 f1 fd1 ["value"] spIsName) (k1 : PySem.W.keepIn K (.ref f1) = true) (b1 : Binds K fd1 ["value"] []) (g1 : mg "is_name" = some (.ref f1))
    (F2 : FnOk P w K mg base CX0 1 f2 fd2 ["value"] spPairD) (k2 : PySem.W.keepIn K (.ref f2) = true) (b2 : Binds K fd2 ["value"] []) (g2 : mg "is_pair_of_dicts" = some (.ref f2))
    (F3 : FnOk P w K mg base CX0 2 f3 fd3 ["names", "goals"] spNodes) (k3 : PySem.W.keepIn K (.ref f3) = true) (b3 : Binds K fd3 ["names", "goals"] []) (g3 : mg "are_nodes" = some (.ref f3))
    (F4 : FnOk P w K mg base CX0 2 f4 fd4 ["table", "nodes", "goal"] spTable) (k4 : PySem.W.keepIn K (.ref f4) = true) (b4 : Binds K fd4 ["table", "nodes", "goal"] []) (g4 : mg "is_table" = some (.ref f4))
    (mIsi : mg "isinstance" = none) (mDict : mg "dict" = none) (mList : mg "list" = none) (mLen : mg "len" = none) (mAll : mg "all" = none) (mMost : mg "MOST_GOALS" = some (.int 2 tk)) :
    FnOk P w K mg base CX0 3 f fd ["value"] spTables := by
  refine F.ok sc_tables (fun vs H Q E h => ?_) (fun cdv A outer s H vs Q E hr h => ?_)
  · obtain ⟨t, ends, dots, rows, rfl, _⟩ := h
    rfl
  · obtain ⟨t, ends, dots, rows, rfl, ht, hk, hro, e0, e2, he, d0, d6, hd, k⟩ := h
    have nd := sc_tables.nd
    have hu := hu_of hr
    have hr1 : Room 1 _ := hr.mono (by decide)
    refine ⟨_, pss_cons (ps_if (PW.pt (pw_or (pt_not (pt_val (pe_callB call_isi (by rfl) mIsi (by decide +kernel) (pa_cons (pv 0) (pa_cons (pe_bltn (v := .ty "dict") (by rfl) mDict (by decide +kernel) rfl) pa_nil)))))
          (pw_or1 (pt_not (pt_chain op_le op_le pe_int (pe_callB call_lenD (by rfl) mLen PySem.boot_len (pa_cons (pv 0) pa_nil)) (pe_glob (v := .int 2) (by rfl) mMost ⟨_, rfl⟩)))))) (pss_one (ps_ret pe_bl)) pss_nil)
      (pss_cons (ps_if (pt_not (pt_val (pe_callB (cr_all rfl) (by rfl) mAll (by decide +kernel) (pa_cons (pe_lock (pe_lc (own := [("goal", 3)]) (g := gName 3) (tt := tYes) (te := tAndV (tCall spIsName [] E0 (tCons (tVar 3) tNil)) (tCall spPairD [] E0 (tCons (tDGet (tVar 0) (tVar 3)) tNil))) rfl nd (pi_keys (pv 0)) (blkOk_by (own := [("goal", 3)]) (N := nTables) (sc := defScope p_are_tables) (by decide +kernel))
          (fun _ _ _ _ _ => pg_name (i := 3) nd rfl (Or.inl rfl)) (fun _ _ _ _ _ => pts_nil) (fun _ _ _ _ _ => pe_and (pe_call F1 hr1 rfl g1 k1 b1 .nil pass0 (pa_cons (pv 3) pa_nil)) (pe_one (pe_call F2 hr1 rfl g2 k2 b2 .nil pass0 (pa_cons (pe_dget hu (pv 0) (pv 3) (fun _ _ => rfl)) pa_nil)))))) pa_nil)))) (pss_one (ps_ret pe_bl)) pss_nil)
      (pss_cons (ps_set (i := 1) nd rfl (.inl rfl) (pe_callTy (call_listD rfl) (by rfl) mList (by decide +kernel) (pa_cons (pv 0) pa_nil)))
      (pss_cons (ps_set (i := 2) nd rfl (.inr rfl) (pe_callTy (call_listD rfl) (by rfl) mList (by decide +kernel) (pa_cons (pe_ix ix_tup (pe_dget hu (pv 0) (pe_ix ix_list (pv 1) pe_int (fun _ _ => rfl)) (fun _ _ => rfl)) pe_int (fun _ _ => rfl)) pa_nil)))
      (pss_cons (ps_if (pt_not (pt_val (pe_call F3 hr rfl g3 k3 b3 .nil pass0 (pa_cons (pv 2) (pa_cons (pv 1) pa_nil))))) (pss_one (ps_ret pe_bl)) pss_nil)
      (pss_one (ps_ret (pe_callB (cr_all rfl) (by rfl) mAll (by decide +kernel) (pa_cons
        (pe_lc2 (own := [("goal", 3), ("table", 4)]) (vs1 := [4]) (g := gName 3) (tt := tYes) (g1 := gName 4) (tt1 := tYes) (wi1 := iTup K (tDGet (tVar 0) (tVar 3))) (te := tCall spTable [] E0 (tCons (tVar 4) (tCons (tVar 2) (tCons (tVar 3) tNil)))) rfl nd (pi_list (pv 1)) (blkOk_by (own := [("goal", 3), ("table", 4)]) (N := nTables) (sc := defScope p_are_tables) (by decide +kernel)) (by decide)
          (fun _ _ _ _ _ => pg_name (i := 3) nd rfl (Or.inl rfl)) (fun _ _ _ _ _ => pts_nil) (fun _ _ _ _ _ => pi_tup (pe_dget hu (pv 0) (pv 3) (fun _ _ => rfl))) (fun _ _ _ _ _ => pg_name (i := 4) nd rfl (Or.inl rfl)) (fun _ _ _ _ _ => pts_nil)
          (fun _ _ _ _ _ => pe_call F4 hr rfl g4 k4 b4 .nil pass0 (pa_cons (pv 4) (pa_cons (pv 2) (pa_cons (pv 3) pa_nil))))) pa_nil)))))))), ?_⟩
    have rl : rows.length = ends.length := by rw [← hk, List.length_map]
    have rne : rows ≠ [] := fun z => by rw [z] at rl; simp at rl; omega
    have tl : (tkv rows).length = ends.length := by rw [tkv_len, rl]
    -- a row by its goal, where t may be locked
    have row : ∀ z ∈ ends, ∃ (p po pn : Addr) (t1 t2 : List (Str × V)), valV (tkv rows) (Sum.inr z) = some (.ref p) ∧ PairAt H dots z p po pn t1 t2 ∧ p ≠ t ∧ po ≠ t ∧ pn ≠ t := fun z hz => by
      obtain ⟨v, hv1, hv2⟩ := tkv_some (tb := rows) (z := z) (by rw [hk]; exact hz)
      obtain ⟨p, po, pn, t1, t2, e1, pa⟩ := hro _ hv2
      have e1' : v = .ref p := e1
      subst e1'
      exact ⟨p, po, pn, t1, t2, hv1, pa, ne_of pa.hp ht (by intro z; cases z), tab_ne ht hro rne pa.ho pa.o1, tab_ne ht hro rne pa.hn pa.o2⟩
    -- if not isinstance(value, dict) or not ..
    refine ⟨.ref t, rfl, .ref t, .ty "dict", _, _, true, rfl, .ty _, .base (.dK ht), kit_ty (by decide +kernel), true, rfl, ?_⟩
    refine ⟨.ref t, rfl, t, _, rfl, ht, 1, ((tkv rows).length : Int), rfl, rfl, true, congrArg V.bl (decide_eq_true (show (1 : Int) ≤ ((tkv rows).length : Int) by omega)), ?_⟩
    refine ⟨_, 2, rfl, rfl, true, congrArg V.bl (decide_eq_true (show ((tkv rows).length : Int) ≤ 2 by omega)), ?_⟩
    -- if not all([.. for goal in value])
    refine ⟨t, .dK (tkv rows), ht, trivial, fun od => ⟨.ref t, rfl, t, od, rfl, .inl ⟨tkv rows, upd_same, fun D hD => lc_truesW (Yx := fun i x => ∃ k v, (tkv rows)[i]? = some (k, v) ∧ x = kV k) walk_keys (fun H1 e1 => e1 _ _ upd_same) hD (by omega) (fun i x H1 Q1 R hi hx e1 go => ?_) (fun H1 e1 d1 => ?_)⟩⟩⟩
    · obtain ⟨kk, v, hkv, rfl⟩ := hx
      obtain ⟨z, rfl, hz⟩ : ∃ z : Str, kk = Sum.inr z ∧ z ∈ ends := by
        unfold tkv at hkv
        rw [List.getElem?_map] at hkv
        cases q : rows[i]? with
        | none => rw [q] at hkv; cases hkv
        | some q' =>
          rw [q] at hkv
          have := congrArg Prod.fst (Option.some.inj hkv)
          refine ⟨q'.1, this.symm, ?_⟩
          rw [← hk]
          exact List.mem_map_of_mem (List.mem_of_getElem? q)
      obtain ⟨p, po, pn, t1, t2, hv, pa, n1, n2, n3⟩ := row z hz
      refine ⟨rfl, ?_⟩
      refine yes_if ?_
      refine ⟨.str z, rfl, z, rfl, he z hz, fun H2 e2' => ⟨true, rfl, ?_⟩⟩
      refine iteT ?_
      have e12 := e1.trans e2'
      have gt : DGet H2 t (.str z) (some (.ref p)) := .inl ⟨tkv rows, Sum.inr z, .inr ⟨od, e12 _ _ upd_same⟩, rfl, hv.symm⟩
      have up : ∀ {a : Addr} {o : HO}, H a = some o → a ≠ t → H2 a = some o := fun {a o} h ne => e12 _ _ (by rw [upd_ne ne]; exact h)
      exact ⟨.ref t, rfl, .str z, rfl, t, .ref p, rfl, gt, p, po, pn, _, _, rfl, up pa.hp n1, up pa.ho n2, up pa.hn n3, fun H3 e3 => go H3 (e2'.trans e3)⟩
    · have ft : H1 t = some (.frz od (.dK (tkv rows))) := e1 _ _ upd_same
      have nDt : D ≠ t := (ne_of_none (show (upd H t (.frz od (.dK (tkv rows)))) t = some _ from upd_same) hD).symm
      refine ⟨ft, ?_⟩
      have x1 : Evl.Ex H (upd H1 t (.dK (tkv rows))) := fun a o h => by
        by_cases e : a = t
        · subst e
          rw [upd_same, ← ht, h]
        · rw [upd_ne e]
          exact e1 _ _ (by rw [upd_ne e]; exact h)
      have d2 : (upd H1 t (.dK (tkv rows))) D = some (.lst ((List.replicate (tkv rows).length true).map V.bl)) := by rw [upd_ne nDt]; exact d1
      generalize upd H1 t (.dK (tkv rows)) = H2 at x1 d2
      refine ⟨D, _, rfl, Evl.sq_of d2, ?_⟩
      rw [all_trues]
      refine ⟨true, rfl, ?_⟩
      -- goals = list(value)
      refine ⟨.ref t, rfl, t, _, rfl, .inl (x1 _ _ ht), fun gl hgl => ?_⟩
      rw [tkv_keysV, hk]
      have x2 : Evl.Ex H (upd H2 gl (.lst (ends.map V.str))) := x1.trans (Evl.Ex.new hgl)
      have eg : (upd H2 gl (.lst (ends.map V.str))) gl = some (.lst (ends.map V.str)) := upd_same
      generalize upd H2 gl (.lst (ends.map V.str)) = H3 at x2 eg
      -- nodes = list(value[goals[0]][0])
      obtain ⟨z0, r0, ez0⟩ : ∃ z0 r0, ends = z0 :: r0 := by
        cases q : ends with
        | nil => rw [q] at e0; simp at e0
        | cons z0 r0 => exact ⟨z0, r0, rfl⟩
      obtain ⟨p, po, pn, t1, t2, hv, pa, n1, n2, n3⟩ := row z0 (by rw [ez0]; exact List.mem_cons_self)
      have at0 : (ends.map V.str)[0]? = some (.str z0) := by rw [ez0]; rfl
      have dg : ∀ {Hx : Hp} {z : Str} {p : Addr}, Evl.Ex H Hx → valV (tkv rows) (Sum.inr z) = some (.ref p) → DGet Hx t (.str z) (some (.ref p)) := fun {Hx z p} x hv => by
        have q := DGet.k (k := Sum.inr z) (x _ _ ht)
        rw [hv] at q
        exact q
      refine ⟨.ref t, rfl, .ref gl, rfl, gl, _, 0, .str z0, rfl, rfl, Evl.sq_of eg, atI_nat (j := 0) at0, t, .ref p, rfl, dg x2 hv, p, _, 0, .ref po, rfl, rfl, Evl.st_of (x2 _ _ pa.hp), atI_nat (j := 0) rfl, po, _, rfl, .inl (x2 _ _ pa.ho), fun nl hnl => ?_⟩
      rw [tkv_keysV]
      have x3 : Evl.Ex H3 (upd H3 nl (.lst ((t1.map (·.1)).map V.str))) := Evl.Ex.new hnl
      have en : (upd H3 nl (.lst ((t1.map (·.1)).map V.str))) nl = some (.lst ((t1.map (·.1)).map V.str)) := upd_same
      generalize upd H3 nl (.lst ((t1.map (·.1)).map V.str)) = H4 at x3 en
      have pk := pa.o1.ks
      -- if not are_nodes(nodes, goals)
      refine ⟨.ref nl, rfl, .ref gl, rfl, nl, gl, t1.map (·.1), ends, rfl, en, x3 _ _ eg, by rw [pk.length_eq]; omega, by rw [pk.length_eq]; exact d6, fun z hz => hd z (pk.subset hz), fun H5 x4 => ⟨true, rfl, ?_⟩⟩
      have x5 : Evl.Ex H H5 := (x2.trans x3).trans x4
      have en5 := x4 _ _ en
      have eg5 := (x3.trans x4) _ _ eg
      -- the tables
      refine ⟨.ref gl, rfl, gl, rfl, ⟨_, Evl.sq_of eg5⟩, fun D2 hD2 => ⟨fun i m H6 => m = ends.length - i ∧ i ≤ ends.length ∧ Evl.Ex H5 H6 ∧ ∃ n, n ≤ 2 * i ∧ H6 D2 = some (.lst ((List.replicate n true).map V.bl)), ⟨ends.length, rfl, Nat.zero_le _, Evl.Ex.new hD2, 0, Nat.le_refl _, upd_same⟩, ?_⟩⟩
      rintro i m H6 ⟨rfl, hi, x6, n, hn, d6'⟩
      by_cases hlt : i < ends.length
      · have gi : (ends.map V.str)[i]? = some (.str ends[i]) := by rw [List.getElem?_map, List.getElem?_eq_getElem hlt]; rfl
        refine .inr ⟨⟨_, _, Evl.sq_of (x6 _ _ eg5), gi⟩, fun H' => i + 1 ≤ ends.length ∧ Evl.Ex H5 H' ∧ ∃ n, n ≤ 2 * (i + 1) ∧ H' D2 = some (.lst ((List.replicate n true).map V.bl)), fun H' h => ⟨ends.length - (i + 1), by omega, rfl, h⟩, fun x H' hy => ?_⟩
        obtain ⟨rfl, fv⟩ := hy
        have ex : x = .str ends[i] := Option.some.inj ((fv _ (Evl.sq_of (x6 _ _ eg5))).symm.trans gi)
        subst ex
        obtain ⟨p2, po2, pn2, t3, t4, hv2, pa2, m1, m2, m3⟩ := row ends[i] (List.getElem_mem hlt)
        have pa6 := pa2.ex x5
        refine ⟨rfl, ?_⟩
        refine yes_if ?_
        refine ⟨.ref t, rfl, .str ends[i], rfl, t, .ref p2, rfl, dg (x5.trans x6) hv2, p2, rfl, ⟨_, Evl.st_of (x6 _ _ pa6.hp)⟩, fun j k' H7 => k' = 2 - j ∧ j ≤ 2 ∧ Evl.Ex H5 H7 ∧ ∃ n, n ≤ 2 * i + j ∧ H7 D2 = some (.lst ((List.replicate n true).map V.bl)), ⟨2, rfl, Nat.zero_le _, x6, n, hn, d6'⟩, ?_⟩
        rintro j k' H7 ⟨rfl, hj, x7, n', hn', d7⟩
        by_cases hjl : j < 2
        · obtain ⟨tt, tbx, gj, htx, otx⟩ : ∃ (tt : Addr) (tbx : List (Str × V)), ([V.ref po2, V.ref pn2] : List V)[j]? = some (.ref tt) ∧ H7 tt = some (.dK (tkv tbx)) ∧ TabOk dots ends[i] tbx := by
            match j, hjl with
            | 0, _ => exact ⟨po2, t3, rfl, x7 _ _ pa6.ho, pa6.o1⟩
            | 1, _ => exact ⟨pn2, t4, rfl, x7 _ _ pa6.hn, pa6.o2⟩
          refine .inr ⟨⟨_, _, Evl.st_of (x7 _ _ pa6.hp), gj⟩, fun H8 => j + 1 ≤ 2 ∧ Evl.Ex H5 H8 ∧ ∃ n, n ≤ 2 * i + (j + 1) ∧ H8 D2 = some (.lst ((List.replicate n true).map V.bl)), fun H8 h => ⟨2 - (j + 1), by omega, rfl, h⟩, fun x H8 hy => ?_⟩
          obtain ⟨rfl, fv2⟩ := hy
          have ex2 : x = .ref tt := Option.some.inj ((fv2 _ (Evl.st_of (x7 _ _ pa6.hp))).symm.trans gj)
          subst ex2
          refine ⟨rfl, ?_⟩
          refine yes_if ?_
          refine ⟨.ref tt, rfl, .ref nl, rfl, .str ends[i], rfl, tt, nl, ends[i], t1.map (·.1), tbx, rfl, htx, x7 _ _ en5, otx.perm pk.symm, by rw [pk.length_eq]; omega, fun H9 x9 => ?_⟩
          refine ⟨_, x9 _ _ d7, by rw [List.length_map, List.length_replicate]; exact small1000 (by omega), by omega, (x7.trans x9).mut hD2, n' + 1, by omega, ?_⟩
          · rw [upd_same, List.replicate_succ', List.map_append]
            rfl
        · refine .inl ⟨⟨_, Evl.st_of (x7 _ _ pa6.hp), by show 2 ≤ j; omega⟩, by omega, x7, n', by omega, d7⟩
      · refine .inl ⟨⟨_, Evl.sq_of (x6 _ _ eg5), by rw [List.length_map]; omega⟩, D2, _, rfl, Evl.sq_of d6', ?_⟩
        rw [all_trues]
        exact k _ (x5.trans x6)
end
end Rw
end T_P4

section T_N1
set_option Elab.async false
set_option linter.all false
set_option maxRecDepth 100000
set_option maxHeartbeats 4000000
namespace Rw
open PySem L2 PyProof.Rows
section
variable {P : Program} {w : World} {K : PySem.W.Frag} {mg : Str → Option Value} {base : Heap}
abbrev nInit : List Str := ["self", "tables", "sources", "posts", "first_old", "_", "nodes", "goal", "old", "new", "node"]
theorem sc_init : FnScope nInit ["self", "tables", "sources", "posts"] (defScope c_Net_init) := ⟨rfl, rfl, rfl, by decide +kernel, rfl, by decide +kernel, by decide +kernel⟩
theorem ok_init {f f1 f2 C : Addr} {fd fd1 fd2 : FuncData} {tk : Tok} {dvs : List V} (F : FunD K "__init__" "Net.__init__" (defArgs c_Net_init) (defBody c_Net_init) (defScope c_Net_init) dvs [] f fd) (T : NetTxt K C)
    (F1 : FnOk P w K mg base CX0 3 f1 fd1 ["value"] spTables) (k1 : PySem.W.keepIn K (.ref f1) = true) (b1 : Binds K fd1 ["value"] []) (g1 : mg "are_tables" = some (.ref f1))
    (F2 : FnOk P w K mg base CX0 2 f2 fd2 ["value", "nodes"] (spDiff K)) (k2 : PySem.W.keepIn K (.ref f2) = true) (b2 : Binds K fd2 ["value", "nodes"] []) (g2 : mg "are_different" = some (.ref f2))
    (mList : mg "list" = none) (mTup : mg "tuple" = none) (mSorted : mg "sorted" = none) (mLen : mg "len" = none) (mMost : mg "MOST_POSTS" = some (.int 2 tk)) :
    FnOk P w K mg base CX0 4 f fd ["self", "tables", "sources", "posts"] (spInit C) := by
  refine F.ok sc_init (fun vs H Q E h => ?_) (fun cdv A outer s H vs Q E hr h => ?_)
  · obtain ⟨Hb, m, dx, t, s, p, ends, dots, ss, ps, rows, o, n, rfl, _⟩ := h
    rfl
  · obtain ⟨Hb, m, dx, t, s', p, ends, dots, ss, ps, rows, o, n, rfl, hm0, x0, hm, ht, hk, hro, hra, hs, hp, ok, k⟩ := h
    have nd := sc_init.nd
    have hu := hu_of hr
    have hr2 : Room 2 _ := hr.mono (by decide)
    refine ⟨_, PSs.nox (pss_cons (ps_if (pt_not (pt_val (pe_call F1 hr rfl g1 k1 b1 .nil pass0 (pa_cons (pv 1) pa_nil)))) (pss_one ps_never) pss_nil)
      (pss_cons (ps_asg (pe_ix ix_list (pe_listVals rfl (pv 1) (by rfl) mList) pe_int (fun _ _ => rfl)) (pg_tup rfl (pgs_cons (pg_name (i := 4) nd rfl (.inl rfl)) (pgs_cons (pg_name (i := 5) nd rfl (.inl rfl)) pgs_nil))))
      (pss_cons (ps_set (i := 6) nd rfl (.inl rfl) (pe_callTy call_tuple_of (by rfl) mTup (by decide +kernel) (pa_cons (pe_callB (call_sortedD rfl) (by rfl) mSorted (by decide +kernel) (pa_cons (pv 4) pa_nil)) pa_nil)))
      (pss_cons (ps_if (pt_not (pt_val (pe_call F2 hr2 rfl g2 k2 b2 .nil pass0 (pa_cons (pv 2) (pa_cons (pv 6) pa_nil))))) (pss_one ps_never) pss_nil)
      (pss_cons (ps_if (PW.pt (pw_or (pt_not (pt_val (pe_call F2 hr2 rfl g2 k2 b2 .nil pass0 (pa_cons (pv 3) (pa_cons (pv 6) pa_nil))))) (pw_or1 (pt_cmpR op_gt (pe_callB call_len (by rfl) mLen PySem.boot_len (pa_cons (pv 3) pa_nil)) (pe_glob (v := .int 2) (by rfl) mMost ⟨_, rfl⟩) (nomark _))))) (pss_one ps_never) pss_nil)
      (pss_cons (ps_fld (pv 0) pe_dnewK rfl)
      (pss_cons (ps_for PassesOwn.never rfl (pi_list (pe_callB (call_sortedD rfl) (by rfl) mSorted (by decide +kernel) (pa_cons (pv 1) pa_nil))) (pg_name (i := 7) nd rfl (.inl rfl))
        (pss_cons (ps_asg (pe_dget hu (pv 1) (pv 7) (fun _ _ => rfl)) (pg_tup rfl (pgs_cons (pg_name (i := 8) nd rfl (.inr rfl)) (pgs_cons (pg_name (i := 9) nd rfl (.inr rfl)) pgs_nil))))
        (pss_one (ps_dput hu (pe_fld (pv 0) rfl) (pv 7) (pe_tup (pa_cons
            (pe_dc (own := [("node", 10)]) (g := gName 10) (tt := tYes) (tk := tVar 10) (tv := tDGet (tVar 8) (tVar 10)) rfl nd (pi_tup (pv 6)) (blkOk_by (own := [("node", 10)]) (N := nInit) (sc := defScope c_Net_init) (by decide +kernel)) (fun _ _ _ _ _ => pg_name (i := 10) nd rfl (Or.inl rfl)) (fun _ _ _ _ _ => pts_nil) (fun _ _ _ _ _ => pv 10) (fun _ _ _ _ _ => pe_dget hu (pv 8) (pv 10) (fun _ _ => rfl)))
            (pa_cons (pe_dc (own := [("node", 10)]) (g := gName 10) (tt := tYes) (tk := tVar 10) (tv := tDGet (tVar 9) (tVar 10)) rfl nd (pi_tup (pv 6)) (blkOk_by (own := [("node", 10)]) (N := nInit) (sc := defScope c_Net_init) (by decide +kernel)) (fun _ _ _ _ _ => pg_name (i := 10) nd rfl (Or.inl rfl)) (fun _ _ _ _ _ => pts_nil) (fun _ _ _ _ _ => pv 10) (fun _ _ _ _ _ => pe_dget hu (pv 9) (pv 10) (fun _ _ => rfl))) pa_nil))) rfl))))
      (pss_cons (ps_fld (pv 0) (pv 6) rfl)
      (pss_cons (ps_fld (pv 0) (pe_callTy call_tuple_of (by rfl) mTup (by decide +kernel) (pa_cons (pe_callB cr_sortedLU (by rfl) mSorted (by decide +kernel) (pa_cons (pv 2) pa_nil)) pa_nil)) rfl)
      (pss_one (ps_fld (pv 0) (pe_callTy call_tuple_of (by rfl) mTup (by decide +kernel) (pa_cons (pv 3) pa_nil)) rfl))))))))))), ?_⟩
    have rl : rows.length = ends.length := by rw [← hk.length_eq, List.length_map]
    have rne : rows ≠ [] := fun z => by
      have := ok.e0
      rw [z] at rl
      simp at rl
      omega
    have d6 := ok.d6
    have e2 := ok.e2
    -- if not are_tables(tables)
    refine ⟨.ref t, rfl, t, rows.map (·.1), dots, rows, rfl, x0 _ _ ht, rfl, hro.ex x0, by rw [hk.length_eq]; exact ok.e0, by rw [hk.length_eq]; exact ok.e2, fun z hz => ok.em z (hk.mem_iff.mp hz), ok.d0, ok.d6, fun z hz => ⟨ok.dm z hz, fun he => ok.ed z (hk.mem_iff.mp he) hz⟩, fun H1 x1 => ⟨true, rfl, ?_⟩⟩
    have y1 := x0.trans x1
    have hm1 := x1 _ _ hm
    -- first_old, _ = list(tables.values())[0]
    refine ⟨.ref t, rfl, t, tkv rows, rfl, .inl (y1 _ _ ht), fun l hl => ?_⟩
    obtain ⟨q0, r0, er⟩ : ∃ q0 r0, rows = q0 :: r0 := by
      cases q : rows with
      | nil => exact absurd q rne
      | cons q0 r0 => exact ⟨q0, r0, rfl⟩
    obtain ⟨p0, po0, pn0, t1, t2, eq0, pa0⟩ := hro q0 (by rw [er]; exact List.mem_cons_self)
    have at0 : ((tkv rows).map (·.2))[0]? = some (.ref p0) := by rw [er, ← eq0]; rfl
    have x2 : Evl.Ex H1 (upd H1 l (.lst ((tkv rows).map (·.2)))) := Evl.Ex.new hl
    have el : (upd H1 l (.lst ((tkv rows).map (·.2)))) l = some (.lst ((tkv rows).map (·.2))) := upd_same
    generalize upd H1 l (.lst ((tkv rows).map (·.2))) = H2 at x2 el
    have y2 := y1.trans x2
    refine ⟨l, _, 0, .ref p0, rfl, rfl, Evl.sq_of el, atI_nat (j := 0) at0, p0, _, rfl, Evl.st_of (y2 _ _ pa0.hp), rfl, _, _, rfl, _, [], rfl, rfl, ?_⟩
    -- nodes = tuple(sorted(first_old))
    refine ⟨.ref po0, rfl, po0, tkv t1, t1.map (·.1), rfl, .inl (y2 _ _ pa0.ho), ?_, ?_, fun ys sl hys hsort hsl => ⟨sl, ys.map V.str, rfl, .inl ⟨Evl.sq_of upd_same, fun N hN => ?_⟩⟩⟩
    · unfold tkv
      rw [List.map_map, List.map_map]
      rfl
    · rw [pa0.o1.ks.length_eq]
      omega
    have eys : ys = dots := sorted_uniq hsort ok.ds (hys.trans pa0.o1.ks)
    subst eys
    have x3 : Evl.Ex H2 (upd (upd H2 sl (.lst (ys.map V.str))) N (.tup (ys.map V.str))) := (Evl.Ex.new hsl).trans (Evl.Ex.new hN)
    have eN : (upd (upd H2 sl (.lst (ys.map V.str))) N (.tup (ys.map V.str))) N = some (.tup (ys.map V.str)) := upd_same
    have fN : Hb N = none := by
      cases q : Hb N with
      | none => rfl
      | some o => rw [Evl.Ex.new hsl _ _ (y2 _ _ q)] at hN; cases hN
    generalize upd (upd H2 sl (.lst (ys.map V.str))) N (.tup (ys.map V.str)) = H3 at x3 eN
    have y3 := y2.trans x3
    have lss : ss.length ≤ ys.length := nodup_le ss ys ok.sn ok.sd
    have lps : ps.length ≤ ys.length := nodup_le ps ys ok.pn ok.pd
    -- if not are_different(sources, nodes)
    refine ⟨.ref s', rfl, .ref N, rfl, s', N, ss, ys, rfl, (hs.ex y3).k, .inr (Evl.st_of eN), ok.sn, ok.sd, by omega, fun H4 x4 => ⟨true, rfl, ?_⟩⟩
    have y4 := y3.trans x4
    -- if not are_different(posts, nodes) or ..
    refine ⟨.ref p, rfl, .ref N, rfl, p, N, ps, ys, rfl, (hp.ex y4).k, .inr (Evl.st_of (x4 _ _ eN)), ok.pn, ok.pd, by omega, fun H5 x5 => ⟨true, rfl, ?_⟩⟩
    have y5 := y4.trans x5
    have hp2 := ok.p2
    refine ⟨.ref p, rfl, .ref p, (ps.map V.str).length, rfl, (hp.ex y5).elim (fun q => .inl ⟨_, Evl.sq_of q, rfl⟩) (fun q => .inr ⟨_, Evl.st_of q, rfl⟩), ((ps.map V.str).length : Int), 2, rfl, rfl, false, congrArg V.bl (decide_eq_false (show ¬ (2 : Int) < ((ps.map V.str).length : Int) by rw [List.length_map]; omega)), ?_⟩
    have hm5 : H5 m = some (.ins C dx []) := (((x2.trans x3).trans x4).trans x5) _ _ hm1
    have eN5 : H5 N = some (.tup (ys.map V.str)) := (x4.trans x5) _ _ eN
    -- self._tables = {}
    refine fun T' hT => ⟨.ref m, rfl, m, C, dx, [], rfl, Evl.Ex.new hT _ _ hm5, T.cl, T.nT, by decide, ?_⟩
    rw [nf1]
    have nTm : T' ≠ m := (ne_of_none hm5 hT).symm
    have nNm : N ≠ m := ne_of eN5 hm5 (by intro z; cases z)
    have fT : Hb T' = none := by
      cases q : Hb T' with
      | none => rfl
      | some o => rw [y5 _ _ q] at hT; cases hT
    have y6 : Evl.Ex Hb (upd (upd H5 T' (.dK [])) m (.ins C dx [("_tables", .ref T')])) := (y5.trans (Evl.Ex.new hT)).mut hm0
    have hm6 : (upd (upd H5 T' (.dK [])) m (.ins C dx [("_tables", .ref T')])) m = some (.ins C dx [("_tables", .ref T')]) := upd_same
    have hT6 : (upd (upd H5 T' (.dK [])) m (.ins C dx [("_tables", .ref T')])) T' = some (.dK (tkv [])) := by rw [upd_ne nTm, upd_same]; rfl
    have hN6 : (upd (upd H5 T' (.dK [])) m (.ins C dx [("_tables", .ref T')])) N = some (.tup (ys.map V.str)) := by rw [upd_ne nNm]; exact Evl.Ex.new hT _ _ eN5
    generalize upd (upd H5 T' (.dK [])) m (.ins C dx [("_tables", .ref T')]) = H6 at y6 hm6 hT6 hN6
    -- for goal in sorted(tables)
    refine ⟨.ref t, rfl, t, tkv rows, rows.map (·.1), rfl, .inl (y6 _ _ ht), ?_, by rw [hk.length_eq]; omega, fun ys2 gl hys2 hsort2 hgl => ⟨gl, rfl, ⟨_, Evl.sq_of upd_same⟩, ?_⟩⟩
    · unfold tkv
      rw [List.map_map, List.map_map]
      rfl
    have eys2 : ys2 = ends := sorted_uniq hsort2 ok.es (hys2.trans hk)
    subst eys2
    have x7 : Evl.Ex H6 (upd H6 gl (.lst (ys2.map V.str))) := Evl.Ex.new hgl
    refine for_list (K := K) (a := gl) (xs := ys2.map V.str)
      (fun i σ H' => ∃ (x7 x8 x9 : Option V) (nr : List (Str × V)), σ = [some (.ref m), some (.ref t), some (.ref s'), some (.ref p), some (.ref po0), some (.ref pn0), some (.ref N), x7, x8, x9, none] ∧ nr.map (·.1) = ys2.take i ∧
        (∀ e ∈ ys2.take i, ∃ q qo qn : Addr, valV (tkv nr) (Sum.inr e) = some (.ref q) ∧ PairAt H' ys e q qo qn (canon ys (o e)) (canon ys (n e)) ∧ Hb q = none ∧ Hb qo = none ∧ Hb qn = none ∧ qo ≠ T' ∧ qn ≠ T') ∧
        H' m = some (.ins C dx [("_tables", .ref T')]) ∧ H' T' = some (.dK (tkv nr)) ∧ H' N = some (.tup (ys.map V.str)) ∧ H' gl = some (.lst (ys2.map V.str)) ∧ Evl.Ex Hb H')
      ⟨none, none, none, [], rfl, rfl, (fun e he => by cases he), x7 _ _ hm6, x7 _ _ hT6, x7 _ _ hN6, upd_same, y6.trans x7⟩ (fun i σ H' _ ⟨_, _, _, _, _, _, _, _, _, _, h, _⟩ => Evl.sq_of h) ?_ ?_
    · rintro i x σ H7 hi ⟨x7', x8', x9', nr, rfl, hnr, hpr, hm7, hT7, hN7, hg7, y7⟩
      obtain ⟨z, hz, rfl⟩ := str_at hi
      have hil : i < ys2.length := (List.getElem?_eq_some_iff.mp hz).1
      have hzm := List.mem_of_getElem? hz
      have etake : ys2.take (i + 1) = ys2.take i ++ [z] := by rw [List.take_add_one, hz]; rfl
      have zn : z ∉ ys2.take i := fun hm => by
        have h1 : (ys2.take (i + 1)).Nodup := ok.en.sublist (List.take_sublist _ _)
        rw [etake] at h1
        exact (List.nodup_append.mp h1).2.2 z hm z (List.mem_singleton.mpr rfl) rfl
      obtain ⟨p1, po1, pn1, hv1, pa1⟩ := hra z hzm
      have gt : DGet H7 t (.str z) (some (.ref p1)) := by
        have q := DGet.k (k := Sum.inr z) (y7 _ _ ht)
        rw [hv1] at q
        exact q
      -- old, new = tables[goal]
      refine ⟨.ref t, rfl, .str z, rfl, t, .ref p1, rfl, gt, p1, _, rfl, Evl.st_of (y7 _ _ pa1.hp), rfl, _, _, rfl, _, [], rfl, rfl, ?_⟩
      -- the two new dicts
      refine ⟨.ref N, rfl, N, rfl, ⟨_, Evl.st_of hN7⟩, fun D1 hD1 => dc_canon (e := z) hN7 (y7 _ _ pa1.ho) pa1.o1 ok.dn (by omega) hD1 (fun _ => rfl) (fun _ => rfl) (fun _ => rfl) ?_⟩
      have w1 : Evl.Ex H7 (upd H7 D1 (.dK (tkv (canon ys (o z))))) := Evl.Ex.new hD1
      have d1 : (upd H7 D1 (.dK (tkv (canon ys (o z))))) D1 = some (.dK (tkv (canon ys (o z)))) := upd_same
      have fr : ∀ {a : Addr}, H7 a = none → Hb a = none := fun {a} h => by
        cases q : Hb a with
        | none => rfl
        | some o => rw [y7 _ _ q] at h; cases h
      have fD1 := fr hD1
      have nD1 : D1 ≠ T' := (ne_of_none hT7 hD1).symm
      generalize upd H7 D1 (.dK (tkv (canon ys (o z)))) = H8 at w1 d1
      refine ⟨.ref N, rfl, N, rfl, ⟨_, Evl.st_of (w1 _ _ hN7)⟩, fun D2 hD2 => dc_canon (e := z) (w1 _ _ hN7) (w1 _ _ (y7 _ _ pa1.hn)) pa1.o2 ok.dn (by omega) hD2 (fun _ => rfl) (fun _ => rfl) (fun _ => rfl) ?_⟩
      have w2 : Evl.Ex H8 (upd H8 D2 (.dK (tkv (canon ys (n z))))) := Evl.Ex.new hD2
      have d2 : (upd H8 D2 (.dK (tkv (canon ys (n z))))) D2 = some (.dK (tkv (canon ys (n z)))) := upd_same
      have fr8 : ∀ {a : Addr}, H8 a = none → Hb a = none := fun {a} h => by
        cases q : Hb a with
        | none => rfl
        | some o => rw [w1 _ _ (y7 _ _ q)] at h; cases h
      have fD2 := fr8 hD2
      have nD2 : D2 ≠ T' := (ne_of_none (w1 _ _ hT7) hD2).symm
      generalize upd H8 D2 (.dK (tkv (canon ys (n z)))) = H9 at w2 d2
      have w12 := w1.trans w2
      refine ⟨by show 2 ≤ sizeLine; decide, fun q hq => ?_⟩
      have w3 : Evl.Ex H9 (upd H9 q (.tup [.ref D1, .ref D2])) := Evl.Ex.new hq
      have d3 : (upd H9 q (.tup [.ref D1, .ref D2])) q = some (.tup [.ref D1, .ref D2]) := upd_same
      have fq : Hb q = none := by
        cases q' : Hb q with
        | none => rfl
        | some o => rw [w12 _ _ (y7 _ _ q')] at hq; cases hq
      generalize upd H9 q (.tup [.ref D1, .ref D2]) = H10 at w3 d3
      have w := w12.trans w3
      have hT10 := w _ _ hT7
      have nrl : nr.length ≤ 2 := by
        have := congrArg List.length hnr
        rw [List.length_map, List.length_take] at this
        omega
      refine ⟨.ref m, rfl, m, C, dx, _, _, rfl, w _ _ hm7, T.cl, T.nT, nf1_get T', .str z, rfl, T', _, rfl, DPut.k (k := Sum.inr z) hT10 (by rw [tkv_len]; exact small1000 (by omega)), ?_⟩
      rw [tkv_new (by rw [hnr]; exact zn)]
      have keep : ∀ {a : Addr} {u : HO}, H10 a = some u → a ≠ T' → (upd H10 T' (.dK (tkv (nr ++ [(z, V.ref q)])))) a = some u := fun {a u} h ne => by rw [upd_ne ne]; exact h
      have mT : m ≠ T' := nTm.symm
      have gT : gl ≠ T' := ne_of hg7 hT7 (by intro z; cases z)
      have NT : N ≠ T' := ne_of hN7 hT7 (by intro z; cases z)
      refine ⟨_, _, _, nr ++ [(z, .ref q)], rfl, ?_, ?_, keep (w _ _ hm7) mT, upd_same, keep (w _ _ hN7) NT, keep (w _ _ hg7) gT, (y7.trans w).mut fT⟩
      · rw [List.map_append, hnr, etake]
        rfl
      · intro e he
        rw [etake] at he
        have vget : ∀ e', valV (tkv (nr ++ [(z, V.ref q)])) (Sum.inr e') = if (Sum.inr e' : Key) = Sum.inr z then some (.ref q) else valV (tkv nr) (Sum.inr e') := fun e' => by
          have h1 := tkv_none (tb := nr) (z := z) (by rw [hnr]; exact zn)
          have h2 := valV_snoc (Sum.inr z : Key) (Sum.inr e') (V.ref q) (tkv nr) h1
          unfold tkv at h2 ⊢
          rw [List.map_append]
          exact h2
        rcases List.mem_append.mp he with he | he
        · obtain ⟨q', qo, qn, v1, pa, f1, f2, f3, n2, n3⟩ := hpr e he
          have ne : e ≠ z := fun w => zn (w ▸ he)
          have pw := pa.ex w
          refine ⟨q', qo, qn, by rw [vget, if_neg (fun w => ne (Sum.inr.inj w))]; exact v1, ⟨keep pw.hp (ne_of pw.hp hT10 (by intro z; cases z)), keep pw.ho n2, keep pw.hn n3, pw.o1, pw.o2⟩, f1, f2, f3, n2, n3⟩
        · rw [List.mem_singleton.mp he]
          refine ⟨q, D1, D2, by rw [vget, if_pos rfl], ⟨keep d3 (ne_of d3 hT10 (by intro z; cases z)), keep (w3 _ _ (w2 _ _ d1)) nD1, keep (w3 _ _ d2) nD2, canon_ok pa1.o1, canon_ok pa1.o2⟩, fq, fD1, fD2, nD1, nD2⟩
    · rintro σ H7 ⟨x7', x8', x9', nr, rfl, hnr, hpr, hm7, hT7, hN7, hg7, y7⟩
      rw [List.length_map, List.take_length] at hnr hpr
      -- self._nodes = nodes
      refine ⟨.ref N, rfl, .ref m, rfl, m, C, dx, _, rfl, hm7, T.cl, T.nN, by show 1 < 1000; decide, ?_⟩
      rw [nf2]
      have up : ∀ {Hx : Hp} {a : Addr} {u v : HO}, Hx a = some u → a ≠ m → (upd Hx m v) a = some u := fun {Hx a u v} h ne => by rw [upd_ne ne]; exact h
      have y8 : Evl.Ex Hb (upd H7 m (.ins C dx [("_tables", .ref T'), ("_nodes", .ref N)])) := y7.mut hm0
      -- self._sources = tuple(sorted(sources))
      refine ⟨.ref s', rfl, s', ss, rfl, (hs.ex y8).k, by omega, fun ys3 sl3 hys3 hsort3 hsl3 => ⟨sl3, ys3.map V.str, rfl, .inl ⟨Evl.sq_of upd_same, fun S hS => ?_⟩⟩⟩
      have eys3 : ys3 = ss := sorted_uniq hsort3 ok.sss hys3
      subst eys3
      have w4 : Evl.Ex (upd H7 m (.ins C dx [("_tables", .ref T'), ("_nodes", .ref N)])) (upd (upd (upd H7 m (.ins C dx [("_tables", .ref T'), ("_nodes", .ref N)])) sl3 (.lst (ys3.map V.str))) S (.tup (ys3.map V.str))) := (Evl.Ex.new hsl3).trans (Evl.Ex.new hS)
      have hS8 : (upd (upd (upd H7 m (.ins C dx [("_tables", .ref T'), ("_nodes", .ref N)])) sl3 (.lst (ys3.map V.str))) S (.tup (ys3.map V.str))) S = some (.tup (ys3.map V.str)) := upd_same
      have fS : Hb S = none := by
        cases q : Hb S with
        | none => rfl
        | some o => rw [Evl.Ex.new hsl3 _ _ (y8 _ _ q)] at hS; cases hS
      have hm8 := w4 _ _ upd_same
      have old8 : ∀ {a : Addr} {u : HO}, H7 a = some u → a ≠ m → (upd (upd (upd H7 m (.ins C dx [("_tables", .ref T'), ("_nodes", .ref N)])) sl3 (.lst (ys3.map V.str))) S (.tup (ys3.map V.str))) a = some u := fun {a u} h ne => w4 _ _ (up h ne)
      have y9 := y8.trans w4
      generalize upd (upd (upd H7 m (.ins C dx [("_tables", .ref T'), ("_nodes", .ref N)])) sl3 (.lst (ys3.map V.str))) S (.tup (ys3.map V.str)) = H9 at hS8 hm8 old8 y9
      have nSm : S ≠ m := ne_of hS8 hm8 (by intro z; cases z)
      refine ⟨.ref m, rfl, m, C, dx, _, rfl, hm8, T.cl, T.nS, by show 2 < 1000; decide, ?_⟩
      rw [nf3]
      have y10 : Evl.Ex Hb (upd H9 m (.ins C dx [("_tables", .ref T'), ("_nodes", .ref N), ("_sources", .ref S)])) := y9.mut hm0
      -- self._posts = tuple(posts)
      have last : ∀ (Po : Addr) (H11 : Hp), Evl.Ex (upd H9 m (.ins C dx [("_tables", .ref T'), ("_nodes", .ref N), ("_sources", .ref S)])) H11 → H11 Po = some (.tup (ps.map V.str)) → (Hb Po = none ∨ (Po = p ∧ Hb p = some (.tup (ps.map V.str)))) →
          H11 m = some (.ins C dx [("_tables", .ref T'), ("_nodes", .ref N), ("_sources", .ref S)]) ∧ Q .non (upd H11 m (.ins C dx (nflds T' N S Po))) := by
        intro Po H11 w5 hP10 src
        have hm10 := w5 _ _ upd_same
        have old10 : ∀ {a : Addr} {u : HO}, H9 a = some u → a ≠ m → H11 a = some u := fun {a u} h ne => w5 _ _ (up h ne)
        have y11 := y10.trans w5
        have nPm : Po ≠ m := ne_of hP10 hm10 (by intro z; cases z)
        refine ⟨hm10, ?_⟩
        have y12 : Evl.Ex Hb (upd H11 m (.ins C dx (nflds T' N S Po))) := y11.mut hm0
        have fin : ∀ {a : Addr} {u : HO}, H7 a = some u → a ≠ m → Hb a = none → rest Hb (upd H11 m (.ins C dx (nflds T' N S Po))) a = some u := fun {a u} h ne f => rest_of f (up (old10 (old8 h ne) ne) ne)
        refine k _ y12 fun Hz xz pz => ⟨dx, T', N, S, Po, nr, xz _ _ (rest_of hm0 upd_same), xz _ _ (fin hT7 nTm fT), xz _ _ (fin hN7 nNm fN), xz _ _ (rest_of fS (up (old10 hS8 nSm) nSm)), ?_, hnr, fun e he => ?_⟩
        · rcases src with f | ⟨rfl, f⟩
          · exact xz _ _ (rest_of f (up hP10 nPm))
          · exact pz f
        · obtain ⟨q, qo, qn, v1, pa, f1, f2, f3, n2, n3⟩ := hpr e he
          exact ⟨q, qo, qn, v1, ⟨xz _ _ (fin pa.hp (ne_of pa.hp hm7 (by intro z; cases z)) f1), xz _ _ (fin pa.ho (ne_of pa.ho hm7 (by intro z; cases z)) f2), xz _ _ (fin pa.hn (ne_of pa.hn hm7 (by intro z; cases z)) f3), pa.o1, pa.o2⟩⟩
      rcases hp with hp | hp
      · refine ⟨.ref p, rfl, p, ps.map V.str, rfl, .inl ⟨Evl.sq_of (y10 _ _ hp), fun Po hPo => ?_⟩⟩
        have fP : Hb Po = none := by
          cases q : Hb Po with
          | none => rfl
          | some o => rw [y10 _ _ q] at hPo; cases hPo
        obtain ⟨h1, h2⟩ := last Po _ (Evl.Ex.new hPo) upd_same (.inl fP)
        refine ⟨.ref m, rfl, m, C, dx, _, rfl, h1, T.cl, T.nP, by show 3 < 1000; decide, ?_⟩
        rw [nf4]
        exact h2
      · refine ⟨.ref p, rfl, p, ps.map V.str, rfl, .inr ⟨Evl.st_of (y10 _ _ hp), ?_⟩⟩
        obtain ⟨h1, h2⟩ := last p _ (Evl.Ex.refl _) (y10 _ _ hp) (.inr ⟨rfl, hp⟩)
        refine ⟨.ref m, rfl, m, C, dx, _, rfl, h1, T.cl, T.nP, by show 3 < 1000; decide, ?_⟩
        rw [nf4]
        exact h2
end
end Rw
end T_N1

section T_MA
set_option Elab.async false
set_option linter.all false
set_option maxRecDepth 100000
set_option maxHeartbeats 4000000
namespace Rw
open PySem L2 PyProof.Rows
/-! ### the models of the second stage's laws -/
def mkS (nb tb sb pb : Addr) : List (Key × V) := [(.inr "nodes", .ref nb), (.inr "tables", .ref tb), (.inr "starts", .ref sb), (.inr "marks", .ref pb)]
theorem mkS_nodes (nb tb sb pb : Addr) : valV (mkS nb tb sb pb) (.inr "nodes") = some (.ref nb) := by kernel_rfl
theorem mkS_tables (nb tb sb pb : Addr) : valV (mkS nb tb sb pb) (.inr "tables") = some (.ref tb) := by kernel_rfl
theorem mkS_starts (nb tb sb pb : Addr) : valV (mkS nb tb sb pb) (.inr "starts") = some (.ref sb) := by kernel_rfl
theorem mkS_marks (nb tb sb pb : Addr) : valV (mkS nb tb sb pb) (.inr "marks") = some (.ref pb) := by kernel_rfl
structure ModelS (H : Hp) (m nb tb sb pb : Addr) (ends dots ss ps : List Str) (rows : List (Str × V)) (o n : Str → List (Str × V)) : Prop where
  hm : H m = some (.dK (mkS nb tb sb pb))
  hn : H nb = some (.lst (dots.map V.str))
  ht : H tb = some (.dK (tkv rows))
  hs : H sb = some (.lst (ss.map V.str))
  hp : H pb = some (.lst (ps.map V.str))
  rk : (rows.map (·.1)).Perm ends
  ra : RowsAt H ends dots rows o n
  ok : ModelOk ends dots ss ps
theorem ModelS.to {H H' : Hp} {m nb tb sb pb : Addr} {ends dots ss ps : List Str} {rows : List (Str × V)} {o n : Str → List (Str × V)} (h : ModelS H m nb tb sb pb ends dots ss ps rows o n) (x : Evl.Ex H H') : ModelS H' m nb tb sb pb ends dots ss ps rows o n :=
  ⟨x _ _ h.hm, x _ _ h.hn, x _ _ h.ht, x _ _ h.hs, x _ _ h.hp, h.rk, h.ra.ex x, h.ok⟩
theorem RowsAt.okP {H : Hp} {ends dots : List Str} {rows : List (Str × V)} {o n : Str → List (Str × V)} (h : RowsAt H ends dots rows o n) (hk : (rows.map (·.1)).Perm ends) (nd : ends.Nodup) : RowsOk H dots rows := by
  have h' : RowsAt H (rows.map (·.1)) dots rows o n := fun e he => h e (hk.mem_iff.mp he)
  exact h'.ok rfl (hk.nodup_iff.mpr nd)
theorem rest_less2 {H Hb H' : Hp} (x : Evl.Ex H Hb) : Evl.Ex (rest Hb H') (rest H H') := fun a o h => by
  have h' := rest_ex Hb H' a o h
  refine rest_of ?_ h'
  cases q : H a with
  | none => rfl
  | some u =>
    have := x _ _ q
    unfold rest at h
    rw [this] at h
    cases h
section
variable {P : Program} {w : World} {K : PySem.W.Frag} {mg : Str → Option Value} {base : Heap}
def spMade (C : Addr) : Sp := fun vs H Q _ => ∃ (m nb tb sb pb : Addr) (ends dots ss ps : List Str) (rows : List (Str × V)) (o n : Str → List (Str × V)), vs = [.ref m] ∧ ModelS H m nb tb sb pb ends dots ss ps rows o n ∧
  ∀ x H', Evl.Ex H H' → H x = none → NetAt C (rest H H') x ends dots ss ps o n → Q (.ref x) H'
abbrev nMade : List Str := ["model", "tables", "target", "pair"]
theorem sc_made : FnScope nMade ["model"] (defScope s_made) := ⟨rfl, rfl, rfl, by decide +kernel, rfl, by decide +kernel, by decide +kernel⟩
theorem ok_made {f C fi : Addr} {fd fdi : FuncData} (F : Fun K "_law_made" "_law_made" s_made f fd) (M : Mk K C fi) (I_ : FnOk P w K mg base CX0 4 fi fdi ["self", "tables", "sources", "posts"] (spInit C)) (bi : Binds K fdi ["self", "tables", "sources", "posts"] []) (mNet : mg "Net" = some (.ref C))
    (mDict : mg "dict" = none) (mList : mg "list" = none) :
    FnOk P w K mg base CX0 6 f fd ["model"] (spMade C) := by
  refine F.ok sc_made (fun vs H Q E h => ?_) (fun cdv A outer s H vs Q E hr h => ?_)
  · obtain ⟨m, nb, tb, sb, pb, ends, dots, ss, ps, rows, o, n, rfl, _⟩ := h
    rfl
  · obtain ⟨m, nb, tb, sb, pb, ends, dots, ss, ps, rows, o, n, rfl, MS, k⟩ := h
    have hu := hu_of hr
    have nd := sc_made.nd
    refine ⟨_, pss_cons (ps_set (i := 1) nd rfl (.inl rfl) (pe_lock (pe_callTy (call_dictP rfl) (by rfl) mDict (by decide +kernel) (pa_cons
        (pe_lc (own := [("target", 2), ("pair", 3)]) (g := gTup K 2 (gCons (gName 2) (gCons (gName 3) gNil))) (tt := tYes) (te := tTup (tCons (tVar 2) (tCons (tTup (tCons (tCB (fun xs H Q => ∃ (a : Addr) (kvs : List (Key × V)), xs = [.ref a] ∧ Rd H a (.dK kvs) ∧ ∀ p, H p = none → Q (.ref p) (upd H p (.dK kvs))) (tCons (tOp (rIxT K) (tVar 3) (tC (.int 0))) tNil)) (tCons (tCB (fun xs H Q => ∃ (a : Addr) (kvs : List (Key × V)), xs = [.ref a] ∧ Rd H a (.dK kvs) ∧ ∀ p, H p = none → Q (.ref p) (upd H p (.dK kvs))) (tCons (tOp (rIxT K) (tVar 3) (tC (.int 1))) tNil)) tNil))) tNil))) rfl nd (pi_items (pe_dget hu (pv 0) pe_str (fun _ _ => rfl))) (blkOk_by (own := [("target", 2), ("pair", 3)]) (N := nMade) (sc := defScope s_made) (by decide +kernel))
          (fun _ _ _ _ _ => pg_tup rfl (pgs_cons (pg_name (i := 2) nd rfl (Or.inl rfl)) (pgs_cons (pg_name (i := 3) nd rfl (Or.inl rfl)) pgs_nil))) (fun _ _ _ _ _ => pts_nil)
          (fun _ _ _ _ _ => pe_tup (pa_cons (pv 2) (pa_cons (pe_tup (pa_cons (pe_callTy call_dictD (by rfl) mDict (by decide +kernel) (pa_cons (pe_ix ix_tup (pv 3) pe_int (fun _ _ => rfl)) pa_nil)) (pa_cons (pe_callTy call_dictD (by rfl) mDict (by decide +kernel) (pa_cons (pe_ix ix_tup (pv 3) pe_int (fun _ _ => rfl)) pa_nil)) pa_nil))) pa_nil)))) pa_nil))))
      (pss_one (ps_ret (pe_make M I_ hr rfl mNet bi .nil pass0 (pa_cons (pv 1) (pa_cons (pe_callTy call_list_of (by rfl) mList (by decide +kernel) (pa_cons (pe_dget hu (pv 0) pe_str (fun _ _ => rfl)) pa_nil)) (pa_cons (pe_callTy call_list_of (by rfl) mList (by decide +kernel) (pa_cons (pe_dget hu (pv 0) pe_str (fun _ _ => rfl)) pa_nil)) pa_nil)))))), ?_⟩
    have ok := MS.ok
    have en : (rows.map (·.1)).Nodup := MS.rk.nodup_iff.mpr ok.en
    have rl : rows.length ≤ 2 := by
      have := MS.rk.length_eq
      rw [List.length_map] at this
      have := ok.e2
      omega
    have ro := MS.ra.okP MS.rk ok.en
    have rne : rows ≠ [] := fun z => by
      have q := MS.rk.length_eq
      rw [z] at q
      have := ok.e0
      simp at q
      omega
    have h2 := MS.ht
    refine ⟨tb, .dK (tkv rows), h2, trivial, fun od => ?_⟩
    have locked : (upd H tb (.frz od (.dK (tkv rows)))) tb = some (.frz od (.dK (tkv rows))) := upd_same
    have up : ∀ {a : Addr} {u : HO}, H a = some u → a ≠ tb → (upd H tb (.frz od (.dK (tkv rows)))) a = some u := fun {a u} h ne => by rw [upd_ne ne]; exact h
    have back : ∀ {H4 : Hp}, Evl.Ex (upd H tb (.frz od (.dK (tkv rows)))) H4 → Evl.Ex H (upd H4 tb (.dK (tkv rows))) := fun {H4} e a u h => by
      by_cases q : a = tb
      · subst q
        rw [upd_same, ← h2, h]
      · rw [upd_ne q]
        exact e _ _ (by rw [upd_ne q]; exact h)
    have mne : m ≠ tb := fun z => by
      have q := MS.hm
      rw [z, h2] at q
      have q2 := HO.dK.inj (Option.some.inj q)
      have q3 := congrArg List.length q2
      rw [tkv_len] at q3
      have q4 : (mkS nb tb sb pb).length = 4 := rfl
      omega
    generalize upd H tb (.frz od (.dK (tkv rows))) = HL at locked up back
    refine ⟨.ref m, rfl, m, _, rfl, dgK (up MS.hm mne) (mkS_tables _ _ _ _), tb, od, _, rfl, locked, fun D hD => lc_it walk_items
      (fun i H' => i ≤ rows.length ∧ Evl.Ex HL H' ∧ ∃ (T : List (Str × Addr × Addr × Addr)) (as : List Addr), H' D = some (.lst (as.map V.ref)) ∧ Paired (fun p kv => H' p = some (.tup [kV kv.1, kv.2])) as (tkv (tabRs T)) ∧ T.map (·.1) = (rows.map (·.1)).take i ∧ ∀ t ∈ T, PairAt H' dots t.1 t.2.1 t.2.2.1 t.2.2.2 (o t.1) (n t.1))
      ⟨Nat.zero_le _, Evl.Ex.new hD, [], [], upd_same, .nil, rfl, fun t ht => nomatch ht⟩ (fun i H' _ h => h.2.1 _ _ locked) ?_ ?_⟩
    · rintro i x H4 H4' hi ⟨_, x4, T, as, d4, pr, hk, hpa⟩ ⟨Tt, xk, xv, rfl, hTt, rfl, hxk, hxv⟩
      rw [tkv_len] at hi
      have hi' : i < (rows.map (·.1)).length := by rw [List.length_map]; exact hi
      obtain ⟨e, he⟩ : ∃ e, e = (rows.map (·.1))[i] := ⟨_, rfl⟩
      have gi : (rows.map (·.1))[i]? = some e := by rw [he]; exact List.getElem?_eq_getElem hi'
      have em : e ∈ ends := MS.rk.mem_iff.mp (List.mem_of_getElem? gi)
      obtain ⟨p, po, pn, hv, pa⟩ := MS.ra e em
      have ev : xv = .ref p := by
        have z := tkv_at rfl en gi hv
        rw [List.getElem?_map] at z
        exact Option.some.inj (hxv.symm.trans z)
      have ek : xk = .str e := by
        have z : ((tkv rows).map fun kv => kV kv.1)[i]? = some (.str e) := by rw [tkv_keysV, List.getElem?_map, gi]; rfl
        rw [List.getElem?_map] at z
        exact Option.some.inj (hxk.symm.trans z)
      subst ev ek
      have n1 : p ≠ tb := ne_of pa.hp h2 (by intro z; cases z)
      have n2 : po ≠ tb := tab_ne h2 ro rne pa.ho pa.o1
      have n3 : pn ≠ tb := tab_ne h2 ro rne pa.hn pa.o2
      have y1 : Evl.Ex H4 (upd H4 Tt (.tup [.str e, .ref p])) := Evl.Ex.new hTt
      have t1 : (upd H4 Tt (.tup [.str e, .ref p])) Tt = some (.tup [.str e, .ref p]) := upd_same
      generalize upd H4 Tt (.tup [.str e, .ref p]) = H5 at y1 t1
      have x5 := x4.trans y1
      refine ⟨Tt, _, rfl, Evl.st_of t1, rfl, _, _, rfl, _, [], rfl, rfl, rfl, ?_⟩
      refine yes_if ?_
      refine ⟨.str e, rfl, .ref p, rfl, p, _, 0, .ref po, rfl, rfl, Evl.st_of (x5 _ _ (up pa.hp n1)), rfl, po, _, rfl, .inl (x5 _ _ (up pa.ho n2)), fun c1 hc1 => ?_⟩
      have y2 : Evl.Ex H5 (upd H5 c1 (.dK (tkv (o e)))) := Evl.Ex.new hc1
      have q2 : (upd H5 c1 (.dK (tkv (o e)))) c1 = some (.dK (tkv (o e))) := upd_same
      generalize upd H5 c1 (.dK (tkv (o e))) = H6 at y2 q2
      have x6 := x5.trans y2
      refine ⟨.ref p, rfl, p, _, 1, .ref pn, rfl, rfl, Evl.st_of (x6 _ _ (up pa.hp n1)), rfl, pn, _, rfl, .inl (x6 _ _ (up pa.hn n3)), fun c2 hc2 => ?_⟩
      have y3 : Evl.Ex H6 (upd H6 c2 (.dK (tkv (n e)))) := Evl.Ex.new hc2
      have q3 : (upd H6 c2 (.dK (tkv (n e)))) c2 = some (.dK (tkv (n e))) := upd_same
      generalize upd H6 c2 (.dK (tkv (n e))) = H7 at y3 q3
      refine ⟨by show 2 ≤ sizeLine; decide, fun c3 hc3 => ?_⟩
      have y4 : Evl.Ex H7 (upd H7 c3 (.tup [.ref c1, .ref c2])) := Evl.Ex.new hc3
      have q4 : (upd H7 c3 (.tup [.ref c1, .ref c2])) c3 = some (.tup [.ref c1, .ref c2]) := upd_same
      generalize upd H7 c3 (.tup [.ref c1, .ref c2]) = H8 at y4 q4
      refine ⟨by show 2 ≤ sizeLine; decide, fun c4 hc4 => ?_⟩
      have y5 : Evl.Ex H8 (upd H8 c4 (.tup [.str e, .ref c3])) := Evl.Ex.new hc4
      have q5 : (upd H8 c4 (.tup [.str e, .ref c3])) c4 = some (.tup [.str e, .ref c3]) := upd_same
      generalize upd H8 c4 (.tup [.str e, .ref c3]) = H9 at y5 q5
      have z59 := (y2.trans y3).trans (y4.trans y5)
      have z49 := y1.trans z59
      have x9 := x4.trans z49
      have d9 := z49 _ _ d4
      have asl : as.length ≤ 2 := by
        have h1 := congrArg List.length hk
        have h3 := pr.length
        rw [tkv_len] at h3
        unfold tabRs at h3
        rw [List.length_map] at h1 h3
        rw [List.length_take, List.length_map] at h1
        omega
      have d0 : HL D = none := hD
      have stay : ∀ {a : Addr} {u : HO}, H9 a = some u → (∀ xs, u ≠ .lst xs) → (upd H9 D (.lst (as.map V.ref ++ [.ref c4]))) a = some u := fun {a u} h ne => by
        rw [upd_ne (fun z => by rw [z, d9] at h; exact ne _ (Option.some.inj h).symm)]
        exact h
      refine ⟨as.map V.ref, d9, by rw [List.length_map]; exact small1000 (by omega), hi, x9.mut d0, T ++ [(e, c3, c1, c2)], as ++ [c4], ?_, ?_, ?_, ?_⟩
      · rw [upd_same, List.map_append]
        rfl
      · have e1 : tkv (tabRs (T ++ [(e, c3, c1, c2)])) = tkv (tabRs T) ++ [(.inr e, .ref c3)] := by
          unfold tabRs tkv
          rw [List.map_append, List.map_append]
          rfl
        rw [e1]
        refine Paired.snoc (L2.Paired.mapP pr fun a kv h => stay (z49 _ _ h) fun xs z => by cases z) ?_
        exact stay q5 fun xs z => by cases z
      · rw [List.map_append, hk, List.take_add_one, gi]
        rfl
      · intro t ht
        have move : ∀ {t : Str × Addr × Addr × Addr}, PairAt H9 dots t.1 t.2.1 t.2.2.1 t.2.2.2 (o t.1) (n t.1) → PairAt (upd H9 D (.lst (as.map V.ref ++ [.ref c4]))) dots t.1 t.2.1 t.2.2.1 t.2.2.2 (o t.1) (n t.1) := fun h =>
          ⟨stay h.hp fun xs z => (by cases z), stay h.ho fun xs z => (by cases z), stay h.hn fun xs z => (by cases z), h.o1, h.o2⟩
        rcases List.mem_append.mp ht with ht | ht
        · exact move ((hpa t ht).ex z49)
        · rw [List.mem_singleton.mp ht]
          exact move (t := (e, c3, c1, c2)) ⟨y5 _ _ q4, (y3.trans (y4.trans y5)) _ _ q2, (y4.trans y5) _ _ q3, pa.o1, pa.o2⟩
    · rintro H4 ⟨_, x4, T, as, d4, pr, hk, hpa⟩
      rw [tkv_len, List.take_of_length_le (by rw [List.length_map]; exact Nat.le_refl _)] at hk
      have tk : (tabRs T).map (·.1) = rows.map (·.1) := by rw [tabRs_keys, hk]
      refine ⟨D, as, tkv (tabRs T), rfl, Evl.sq_of d4, L2.Paired.mapP pr fun a kv h => Evl.st_of h, fun q hq => ?_⟩
      rw [merge_tkv (by rw [tk]; exact en)]
      have y1 : Evl.Ex H4 (upd H4 q (.dK (tkv (tabRs T)))) := Evl.Ex.new hq
      have q1 : (upd H4 q (.dK (tkv (tabRs T)))) q = some (.dK (tkv (tabRs T))) := upd_same
      generalize upd H4 q (.dK (tkv (tabRs T))) = H5 at y1 q1
      have x5 := x4.trans y1
      have qn : q ≠ tb := (ne_of_none (x4 _ _ locked) hq).symm
      refine ⟨x5 _ _ locked, ?_⟩
      have x6 := back x5
      have q6 : (upd H5 tb (.dK (tkv rows))) q = some (.dK (tkv (tabRs T))) := by rw [upd_ne qn]; exact q1
      have ra6 : RowsAt (upd H5 tb (.dK (tkv rows))) ends dots (tabRs T) o n := fun e he => by
        have hm : e ∈ T.map (·.1) := by rw [hk]; exact MS.rk.mem_iff.mpr he
        obtain ⟨t, ht, et⟩ := List.mem_map.mp hm
        subst et
        have pt := (hpa t ht).ex y1
        have lk := x5 _ _ locked
        refine ⟨t.2.1, t.2.2.1, t.2.2.2, tkv_val (by rw [tk]; exact en) (List.mem_map.mpr ⟨t, ht, rfl⟩), ?_, ?_, ?_, pt.o1, pt.o2⟩
        · rw [upd_ne (ne_of pt.hp lk (by intro z; cases z))]; exact pt.hp
        · rw [upd_ne (ne_of pt.ho lk (by intro z; cases z))]; exact pt.ho
        · rw [upd_ne (ne_of pt.hn lk (by intro z; cases z))]; exact pt.hn
      generalize upd H5 tb (.dK (tkv rows)) = HB at x6 q6 ra6
      have M6 := MS.to x6
      refine ⟨.ref q, rfl, .ref m, rfl, m, _, rfl, dgK M6.hm (mkS_starts _ _ _ _), sb, _, rfl, .inl (Evl.sq_of M6.hs), fun s1 hs1 => ?_⟩
      have y2 : Evl.Ex HB (upd HB s1 (.lst (ss.map V.str))) := Evl.Ex.new hs1
      have q2 : (upd HB s1 (.lst (ss.map V.str))) s1 = some (.lst (ss.map V.str)) := upd_same
      generalize upd HB s1 (.lst (ss.map V.str)) = HC at y2 q2
      refine ⟨.ref m, rfl, m, _, rfl, dgK (y2 _ _ M6.hm) (mkS_marks _ _ _ _), pb, _, rfl, .inl (Evl.sq_of (y2 _ _ M6.hp)), fun p1 hp1 => ?_⟩
      have y3 : Evl.Ex HC (upd HC p1 (.lst (ps.map V.str))) := Evl.Ex.new hp1
      have q3 : (upd HC p1 (.lst (ps.map V.str))) p1 = some (.lst (ps.map V.str)) := upd_same
      generalize upd HC p1 (.lst (ps.map V.str)) = HD at y3 q3
      have y23 := y2.trans y3
      have x9 := x6.trans y23
      refine fun x dx hx hdx ne => ?_
      have nb : (upd HD dx (.own x)) x = none := by rw [upd_ne ne.symm]; exact hx
      have xb : Evl.Ex HD (upd HD dx (.own x)) := Evl.Ex.new hdx
      have xa := x9.trans xb
      have ra9 : RowsAt (upd HD dx (.own x)) ends dots (tabRs T) o n := (ra6.ex y23).ex xb
      refine ⟨upd HD dx (.own x), x, dx, q, s1, p1, ends, dots, ss, ps, tabRs T, o, n, rfl, nb, Evl.Ex.new nb, upd_same, (y23.trans xb) _ _ q6, by rw [tk]; exact MS.rk, ra9.okP (by rw [tk]; exact MS.rk) ok.en, ra9, .inl ((y3.trans xb) _ _ q2), .inl (xb _ _ q3), ok, fun H' x' N => ⟨rfl, ?_⟩⟩
      have hx0 : H x = none := ex_none x9 hx
      exact k x H' (xa.trans x') hx0 (N _ (rest_less2 xa) fun z => by rw [xb _ _ q3] at z; cases z)
end
end Rw
end T_MA

section T_NA
set_option Elab.async false
set_option linter.all false
set_option maxRecDepth 100000
set_option maxHeartbeats 4000000
namespace Rw
open PySem L2 PyProof.Rows
def words8 : List Str := ["a", "b", "aa", "home", "lost", "round", "zzzzzz", "goal"]
theorem words8_nm : ∀ z ∈ words8, Nm z := fun z hz => by
  have h : ∀ z ∈ words8, decide (1 ≤ z.cps.toList.length ∧ z.cps.toList.length ≤ 6 ∧ ∀ x ∈ z.cps.toList, 97 ≤ x ∧ x ≤ 122) = true := by decide +kernel
  exact nm_by (h z hz)
/-- while names are made: those made at f -/
structure StN (H H' : Hp) (d g c f : Addr) (zs : List Str) : Prop where
  hf : H' f = some (.lst (zs.map V.str))
  dr : DrawAt H' d g c
  ex : Evl.Ex (off d g H) (off d g H')
  n1 : f ≠ d
  n2 : f ≠ g
theorem StN.call {H H1 H2 : Hp} {d g c f : Addr} {zs : List Str} (h : StN H H1 d g c f zs) (D : DrawAt H2 d g c) (e : Evl.Ex (off d g H1) (off d g H2)) : StN H H2 d g c f zs :=
  ⟨ex_off d g H2 _ _ (e _ _ (off_of h.hf h.n1 h.n2)), D, h.ex.trans e, h.n1, h.n2⟩
theorem StN.new {H H1 : Hp} {d g c f p : Addr} {o : HO} {zs : List Str} (h : StN H H1 d g c f zs) (hp : H1 p = none) : StN H (upd H1 p o) d g c f zs :=
  h.call (h.dr.new hp) (off_ex (Evl.Ex.new hp))
theorem StN.mut {H H1 : Hp} {d g c f p : Addr} {o : HO} {zs : List Str} (h : StN H H1 d g c f zs) (h0 : H p = none) (nf : p ≠ f) (nd : p ≠ d) (ng : p ≠ g) (nc : p ≠ c) : StN H (upd H1 p o) d g c f zs :=
  ⟨by rw [upd_ne nf.symm]; exact h.hf, h.dr.mut nd ng nc, off_mut h.ex (off_free h0), h.n1, h.n2⟩
theorem StN.free {H H1 : Hp} {d g c f p : Addr} {zs : List Str} (h : StN H H1 d g c f zs) (hp : H1 p = none) : H p = none ∧ p ≠ f ∧ p ≠ d ∧ p ≠ g ∧ p ≠ c := by
  obtain ⟨a1, a2, a3⟩ := h.dr.ned hp
  refine ⟨?_, (ne_of_none h.hf hp).symm, a1, a2, a3⟩
  cases e : H p with
  | none => rfl
  | some o =>
    have z := ex_off d g H1 _ _ (h.ex _ _ (off_of e a1 a2))
    rw [hp] at z
    cases z
section
variable {P : Program} {w : World} {K : PySem.W.Frag} {mg : Str → Option Value} {base : Heap}
abbrev nNames : List Str := ["draw", "size", "found", "letters", "k", "word", "near", "spot", "letter", "name"]
theorem sc_names : FnScope nNames ["draw", "size"] (defScope s_names) := ⟨rfl, rfl, rfl, by decide +kernel, rfl, by decide +kernel, by decide +kernel⟩
theorem ok_names {f fT fP : Addr} {fd fdT fdP : FuncData} (F : Fun K "_law_names" "_law_names" s_names f fd)
    (T : FnOk P w K mg base CX0 2 fT fdT ["draw", "size"] spTake) (kT : PySem.W.keepIn K (.ref fT) = true) (bT : Binds K fdT ["draw", "size"] []) (gT : mg "_law_take" = some (.ref fT))
    (PL : FnOk P w K mg base CX0 3 fP fdP ["draw", "some"] (spPickL K)) (PS_ : FnOk P w K mg base CX0 3 fP fdP ["draw", "some"] spPickS) (kP : PySem.W.keepIn K (.ref fP) = true) (bP : Binds K fdP ["draw", "some"] []) (gP : mg "_law_pick" = some (.ref fP))
    (mRange : mg "range" = none) :
    FnOk P w K mg base CX0 4 f fd ["draw", "size"] (spWords K) := by
  refine F.ok sc_names (fun vs H Q E h => ?_) (fun cdv A outer s H vs Q E hr h => ?_)
  · obtain ⟨d, g, c, n, rfl, _⟩ := h
    rfl
  · obtain ⟨d, g, c, n, rfl, D, hn, k⟩ := h
    have nd := sc_names.nd
    have hr2 : Room 2 _ := hr.mono (by decide)
    refine ⟨_, pss_cons (ps_asg (pe_tup (pa_cons (pe_lst pa_nil) (pa_cons pe_str pa_nil))) (pg_tup rfl (pgs_cons (pg_name (i := 2) nd rfl (.inr rfl)) (pgs_cons (pg_name (i := 3) nd rfl (.inr rfl)) pgs_nil))))
      (pss_cons (ps_for PassesOwn.never rfl (pi_range1 (by rfl) mRange (pa_cons (pv 1) pa_nil)) (pg_name (i := 4) nd rfl (.inl rfl))
        (pss_cons (ps_set (i := 5) nd rfl (.inr rfl) (pe_call PL hr rfl gP kP bP .nil pass0 (pa_cons (pv 0) (pa_cons (pe_lst (pa_cons pe_str (pa_cons pe_str (pa_cons pe_str (pa_cons pe_str (pa_cons pe_str (pa_cons pe_str (pa_cons pe_str (pa_cons pe_str pa_nil))))))))) pa_nil))))
        (C8.pss_cut (ps_if (pt_cmpR op_eq (pe_call T hr2 rfl gT kT bT .nil pass0 (pa_cons (pv 0) (pa_cons pe_int pa_nil))) pe_int (nomark _))
          (pss_one (ps_set (i := 5) nd rfl (.inr rfl) (pe_join pe_str
            (pe_lc (own := [("spot", 7)]) (g := gName 7) (tt := tYes) rfl nd (pi_range1 (by rfl) mRange (pa_cons (pe_op op_add pe_int (pe_call T hr2 rfl gT kT bT .nil pass0 (pa_cons (pv 0) (pa_cons pe_int pa_nil)))) pa_nil)) (blkOk_by (own := [("spot", 7)]) (N := nNames) (sc := defScope s_names) (by decide +kernel))
              (fun _ _ _ _ _ => pg_name (i := 7) nd rfl (Or.inl rfl)) (fun _ _ _ _ _ => pts_nil) (fun _ _ _ _ _ => pe_call PS_ hr rfl gP kP bP .nil pass0 (pa_cons (pv 0) (pa_cons (pv 3) pa_nil))))))) pss_nil)
        (pss_cons (ps_set (i := 6) nd rfl (.inl rfl) (pe_op op_cat (pe_lst (pa_cons (pv 5) pa_nil))
            (pe_lc (own := [("letter", 8)]) (g := gName 8) (tt := tYes) rfl nd (pi_str (pv 3)) (blkOk_by (own := [("letter", 8)]) (N := nNames) (sc := defScope s_names) (by decide +kernel))
              (fun _ _ _ _ _ => pg_name (i := 8) nd rfl (Or.inl rfl)) (fun _ _ _ _ _ => pts_nil) (fun _ _ _ _ _ => pe_op op_add_str (pe_slice sl_str (pv 5) po_none (po_some pe_int)) (pv 8)))))
        (pss_one (ps_expr (pe_bm PySem.F.plainAttrs_list PySem.F.slot_list_append PySem.F.type_list_append mt_append (pv 2)
          (pa_cons (pe_ix ix_list (pe_lc (own := [("name", 9)]) (g := gName 9) (tt := tTest (tOp (rIn K true) (tVar 9) (tVar 2))) rfl nd (pi_list (pv 6)) (blkOk_by (own := [("name", 9)]) (N := nNames) (sc := defScope s_names) (by decide +kernel))
              (fun _ _ _ _ _ => pg_name (i := 9) nd rfl (Or.inl rfl)) (fun _ _ _ _ _ => pts_one (pt_cmpR op_notIn_seq (pv 9) (pv 2) rfl)) (fun _ _ _ _ _ => pv 9)) pe_int (fun _ _ => rfl)) pa_nil))))))))
      (pss_one (ps_ret (pv 2)))), ?_⟩
    have hz26 : (Str.ofString "abcdefghijklmnopqrstuvwxyz") = z26 := rfl
    refine ⟨Nat.zero_le _, fun f hf => ⟨by show 2 ≤ sizeLine; decide, fun t ht => ⟨t, _, rfl, Evl.st_of upd_same, rfl, _, _, rfl, _, [], rfl, rfl, ?_⟩⟩⟩
    have nf := D.ned hf
    have D1 : DrawAt (upd (upd H f (.lst [])) t (.tup [.ref f, .str z26])) d g c := (D.new hf).new ht
    have S0 : StN H (upd (upd H f (.lst [])) t (.tup [.ref f, .str z26])) d g c f [] :=
      ⟨Evl.Ex.new ht _ _ upd_same, D1, (off_ex (Evl.Ex.new hf)).trans (off_ex (Evl.Ex.new ht)), nf.1, nf.2.1⟩
    -- for k in range(size)
    refine ⟨.int (n : Int), rfl, (n : Int), rfl, by omega, by omega, for_range (lo := 0) (n := (n : Int).toNat)
      (fun i σ H' => ∃ (x4 x5 x6 : Option V) (zs : List Str), σ = [some (.ref d), some (.int (n : Int)), some (.ref f), some (.str z26), x4, x5, x6, none, none, none] ∧ zs.length = i ∧ zs.Nodup ∧ (∀ z ∈ zs, Nm z) ∧ StN H H' d g c f zs)
      ⟨none, none, none, [], rfl, rfl, List.nodup_nil, (fun z hz => by cases hz), S0⟩ ?_ ?_⟩
    · rintro i σ H1 hi ⟨x4, x5, x6, zs, rfl, hlen, hnd, hnm, S1⟩
      rw [Int.toNat_natCast] at hi
      -- word = _law_pick(draw, [..])
      refine ⟨.ref d, rfl, by show 8 ≤ sizeLine; decide, fun sm hsm => ?_⟩
      have S1' := S1.new (o := .lst (words8.map V.str)) hsm
      have nsm := S1.dr.ned hsm
      have hs8 : off d g (upd H1 sm (.lst (words8.map V.str))) sm = some (.lst (words8.map V.str)) := off_of upd_same nsm.1 nsm.2.1
      refine ⟨d, g, c, sm, words8.map V.str, rfl, S1'.dr, Evl.sq_of hs8, by decide, by decide, fun i1 v H2 hv D2 e2 => ?_⟩
      have S2 := S1'.call D2 e2
      obtain ⟨w0, rfl, hw0⟩ : ∃ w0 : Str, v = V.str w0 ∧ Nm w0 := by
        obtain ⟨z, hz, e⟩ := List.mem_map.mp (List.mem_of_getElem? hv)
        exact ⟨z, e.symm, words8_nm z hz⟩
      -- if _law_take(draw, 2) == 0
      refine ⟨fun σ' H' => ∃ (w1 : Str), Nm w1 ∧ σ' = [some (.ref d), some (.int (n : Int)), some (.ref f), some (.str z26), some (.int (0 + (i : Int))), some (.str w1), x6, none, none, none] ∧ StN H H' d g c f zs, ?_, ?_⟩
      · refine ⟨.ref d, rfl, d, g, c, 2, rfl, by decide, by decide, D2, fun q H3 q0 q1 D3 e3 => ?_⟩
        have S3 := S2.call D3 e3
        refine ⟨rfl, _, rfl, ite2 (fun _ => ?_) (fun _ => ⟨w0, hw0, rfl, S3⟩)⟩
        -- word = ''.join([..])
        refine ⟨⟨_, rfl⟩, .ref d, rfl, d, g, c, 3, rfl, by decide, by decide, D3, fun r H6 r0 r1 D6 e6 => ?_⟩
        have S6 := S3.call D6 e6
        refine ⟨1, r, rfl, rfl, 1 + r, rfl, by omega, by omega, fun D hD => lc_range (lo := 0) (n := (1 + r).toNat)
          (fun j H' => ∃ cs : List Nat, cs.length = j ∧ (∀ x ∈ cs, 97 ≤ x ∧ x ≤ 122) ∧ H' D = some (.lst (cs.map fun x => V.str (SX.S [x]))) ∧ StN H H' d g c f zs) ⟨[], rfl, (fun x hx => by cases hx), upd_same, S6.new hD⟩ ?_ ?_⟩
        · rintro j H7 hj ⟨cs, hcl, hcs, hD7, S7⟩
          refine ⟨rfl, ?_⟩
          refine yes_if ?_
          refine ⟨.ref d, rfl, .str z26, rfl, d, g, c, z26, rfl, S7.dr, by decide +kernel, by decide +kernel, fun i3 ch H8 hch D8 e8 => ?_⟩
          have S8 := S7.call D8 e8
          have fD := S6.free hD
          have hD8 : H8 D = some (.lst (cs.map fun x => V.str (SX.S [x]))) := ex_off d g H8 _ _ (e8 _ _ (off_of hD7 fD.2.2.1 fD.2.2.2.1))
          refine ⟨_, hD8, by rw [List.length_map]; exact small1000 (by omega), cs ++ [ch], by simp [hcl], fun x hx => ?_, ?_, S8.mut fD.1 fD.2.1 fD.2.2.1 fD.2.2.2.1 fD.2.2.2.2⟩
          · rcases List.mem_append.mp hx with hx | hx
            · exact hcs x hx
            · rw [List.mem_singleton.mp hx]
              have z := List.mem_of_getElem? hch
              rw [z26_eq] at z
              obtain ⟨y, hy, rfl⟩ := List.mem_map.mp z
              have := List.mem_range.mp hy
              omega
          · rw [upd_same, List.map_append]
            rfl
        · rintro H7 ⟨cs, hcl, hcs, hD7, S7⟩
          have el : (cs.map fun x => V.str (SX.S [x])) = (cs.map fun x => SX.S [x]).map V.str := by rw [List.map_map]; rfl
          rw [el] at hD7
          have hsum : ((cs.map fun x => SX.S [x]).map (·.length)).sum = cs.length := by
            clear hD7 el hcs hcl S7
            induction cs with
            | nil => rfl
            | cons x r ih =>
              show (SX.S [x]).length + ((r.map fun x => SX.S [x]).map (·.length)).sum = r.length + 1
              rw [ih, SX.S_len]
              show 1 + r.length = r.length + 1
              omega
          refine ⟨_, D, cs.map fun x => SX.S [x], rfl, rfl, .inl (Evl.sq_of hD7), ?_, ?_⟩
          · rw [hsum, List.length_map]
            show cs.length + cs.length * 0 ≤ 16777216
            omega
          · rw [show Txt.join (Str.ofString "") (cs.map fun x => SX.S [x]) = SX.S cs from join_signs cs]
            exact ⟨SX.S cs, ⟨cs, rfl, by omega, by omega, hcs⟩, rfl, S7⟩
      · rintro σ' H3 ⟨w1, ⟨lw, rfl, hw1, hw2, hw3⟩, rfl, S3⟩
        have lenw : (SX.S lw).length ≤ 6 := by rw [SX.S_len]; exact hw2
        -- near = [word] + [..]
        refine ⟨.str (SX.S lw), rfl, by show 1 ≤ sizeLine; decide, fun q hq => ?_⟩
        have S4 := S3.new (o := .lst [.str (SX.S lw)]) hq
        have hq4 : (upd H3 q (.lst [.str (SX.S lw)])) q = some (.lst [.str (SX.S lw)]) := upd_same
        generalize upd H3 q (.lst [.str (SX.S lw)]) = H4 at S4 hq4
        refine ⟨.str z26, rfl, z26, rfl, fun D hD => lc_it walk_str (fun j H' => H' = upd H4 D (.lst ((((List.range 26).take j).map fun k => SX.S (lw.take 5 ++ [97 + k])).map V.str))) rfl (fun _ _ _ _ => trivial) ?_ ?_⟩
        · rintro j x H5 H5' hj rfl ⟨rfl, ch, hch, rfl⟩
          refine ⟨rfl, ?_⟩
          refine yes_if ?_
          have hj' : j < 26 := hj
          have ech : ch = 97 + j := by
            have z : z26.cps.toList[j]? = some ch := by rw [Array.getElem?_toList]; exact hch
            rw [z26_eq, List.getElem?_map, List.getElem?_range hj'] at z
            exact (Option.some.inj z).symm
          subst ech
          refine ⟨.str (SX.S lw), rfl, 5, rfl, SX.S lw, rfl, Nat.le_of_lt (small1000 (by omega)), .str (SX.S [97 + j]), rfl, cutS (SX.S lw) none (some 5), SX.S [97 + j], rfl, rfl, ?_, ?_⟩
          · rw [cut5, SX.S_len, SX.S_len, List.length_take]
            show min 5 lw.length + 1 ≤ sizeLine
            exact Nat.le_of_lt (small1000 (by omega))
          · rw [cut5, SX.S_cat]
            refine ⟨_, upd_same, ?_, ?_⟩
            · rw [List.length_map, List.length_map, List.length_take, List.length_range]
              exact small1000 (by omega)
            · show upd (upd H4 D _) D _ = _
              rw [upd_upd, List.take_add_one (i := j) (l := List.range 26), List.getElem?_range hj', List.map_append, List.map_append]
              rfl
        · rintro H5 rfl
          have hDq : q ≠ D := ne_of_none hq4 hD
          have S5 := S4.new (o := .lst ((((List.range 26).take z26.cps.size).map fun k => SX.S (lw.take 5 ++ [97 + k])).map V.str)) hD
          refine ⟨q, D, _, _, rfl, rfl, by rw [upd_ne hDq]; exact hq4, upd_same, ?_, fun p hp => ?_⟩
          · rw [List.length_map, List.length_map, List.length_take, List.length_range]
            show 1 + min z26.cps.size 26 ≤ sizeLine
            exact Nat.le_of_lt (small1000 (by omega))
          · have en : ([V.str (SX.S lw)] ++ (((List.range 26).take z26.cps.size).map fun k => SX.S (lw.take 5 ++ [97 + k])).map V.str) = (near lw).map V.str := by
              rw [show z26.cps.size = 26 by decide +kernel, show (List.range 26).take 26 = List.range 26 by decide]
              rfl
            rw [en]
            have S6 := S5.new (o := .lst ((near lw).map V.str)) hp
            have hp6 : (upd (upd H4 D (.lst ((((List.range 26).take z26.cps.size).map fun k => SX.S (lw.take 5 ++ [97 + k])).map V.str))) p (.lst ((near lw).map V.str))) p = some (.lst ((near lw).map V.str)) := upd_same
            generalize upd (upd H4 D (.lst ((((List.range 26).take z26.cps.size).map fun k => SX.S (lw.take 5 ++ [97 + k])).map V.str))) p (.lst ((near lw).map V.str)) = H6 at S6 hp6
            -- found.append([..][0])
            refine ⟨.ref f, rfl, .inl ⟨rfl, _, Evl.sq_of S6.hf⟩, .ref p, rfl, p, rfl, ⟨_, Evl.sq_of hp6⟩, fun D2 hD2 => lc_list (K := K) (a := p) (xs := (near lw).map V.str)
              (fun j H' => H' = upd H6 D2 (.lst ((((near lw).take j).filter fun z => decide (z ∉ zs)).map V.str))) rfl (fun j H' _ h => by rw [h]; exact Evl.ex_l (Evl.Ex.new hD2) (Evl.sq_of hp6)) ?_ ?_⟩
            · rintro j x H7 hj rfl
              obtain ⟨z, hz, rfl⟩ : ∃ z, (near lw)[j]? = some z ∧ x = V.str z := by
                rw [List.getElem?_map] at hj
                cases e : (near lw)[j]? with
                | none => rw [e] at hj; cases hj
                | some z => rw [e] at hj; exact ⟨z, rfl, (Option.some.inj hj).symm⟩
              have hjl : j < (near lw).length := (List.getElem?_eq_some_iff.mp hz).1
              have hnl : (near lw).length = 27 := by simp [near]
              refine ⟨rfl, _, rfl, .ref f, rfl, f, _, rfl, .inl (Evl.ex_l (Evl.Ex.new hD2) (Evl.sq_of S6.hf)), rfl, flat_strs zs, _, rfl, ?_⟩
              rw [inV_str]
              have etake : (near lw).take (j + 1) = (near lw).take j ++ [z] := by rw [List.take_add_one, hz]; rfl
              by_cases hin : z ∈ zs
              · rw [decide_eq_true hin]
                show upd H6 D2 _ = _
                rw [etake, List.filter_append, List.filter_cons_of_neg (by simp [hin]), List.filter_nil, List.append_nil]
              · rw [decide_eq_false hin]
                refine ⟨_, rfl, _, upd_same, ?_, ?_⟩
                · rw [List.length_map]
                  refine small1000 (Nat.le_trans (List.length_filter_le _ _) ?_)
                  rw [List.length_take]
                  omega
                · show upd (upd H6 D2 _) D2 _ = _
                  rw [upd_upd, etake, List.filter_append, List.filter_cons_of_pos (by simp [hin]), List.filter_nil, List.map_append]
                  rfl
            · rintro H7 rfl
              rw [List.length_map, List.take_length]
              obtain ⟨z, rest, ez⟩ := near_some lw zs (by omega)
              rw [ez]
              have hzm : z ∈ (near lw).filter fun z => decide (z ∉ zs) := by rw [ez]; exact List.mem_cons_self
              have hz1 := List.mem_filter.mp hzm
              have S7 := S6.new (o := .lst ((z :: rest).map V.str)) hD2
              refine ⟨D2, _, 0, .str z, rfl, rfl, Evl.sq_of upd_same, atI_nat (j := 0) rfl, f, _, .str z, rfl, rfl, S7.hf, ?_, ?_⟩
              · rw [List.length_map]
                exact small1000 (by omega)
              · have nf2 := nf
                refine ⟨_, _, _, zs ++ [z], rfl, by simp [hlen], ?_, fun y hy => ?_, ?_⟩
                · exact List.nodup_append.mpr ⟨hnd, (by simp), fun a ha b hb e => of_decide_eq_true hz1.2 (List.mem_singleton.mp hb ▸ e ▸ ha)⟩
                · rcases List.mem_append.mp hy with hy | hy
                  · exact hnm y hy
                  · rw [List.mem_singleton.mp hy]
                    exact near_nm hw1 hw2 hw3 z hz1.1
                · refine ⟨by rw [upd_same, List.map_append]; rfl, S7.dr.mut nf2.1 nf2.2.1 nf2.2.2, off_mut S7.ex (off_free hf), S7.n1, S7.n2⟩
    · rintro σ H1 ⟨x4, x5, x6, zs, rfl, hlen, hnd, hnm, S1⟩
      rw [Int.toNat_natCast] at hlen
      exact ⟨.ref f, rfl, k f zs H1 hlen hnd hnm S1.dr S1.ex hf (off_of S1.hf S1.n1 S1.n2)⟩
end
end Rw
end T_NA

section T_BB
set_option Elab.async false
set_option linter.all false
set_option maxRecDepth 100000
set_option maxHeartbeats 8000000
namespace Rw
open PySem L2 PyProof.Rows
/-! ### the model of the second stage's laws -/
theorem cut_take (xs : List V) (n : Nat) : cutV xs none (some (n : Int)) = xs.take n := by
  unfold cutV
  rw [show HT.sIx xs.length 0 none = 0 from rfl, HT.sIx_nat, List.drop_zero, Nat.sub_zero]
  by_cases h : n ≤ xs.length
  · rw [Nat.min_eq_left h]
  · rw [Nat.min_eq_right (by omega), List.take_length, List.take_of_length_le (by omega)]
theorem cut_drop (xs : List V) (n : Nat) : cutV xs (some (n : Int)) none = xs.drop n := by
  unfold cutV
  rw [HT.sIx_nat, HT.sIx_none]
  by_cases h : n ≤ xs.length
  · rw [Nat.min_eq_left h]
    exact List.take_of_length_le (by rw [List.length_drop]; exact Nat.le_refl _)
  · rw [Nat.min_eq_right (by omega), Nat.sub_self, List.take_zero, List.drop_of_length_le (by omega)]
theorem sorted_sub {l m : List Str} (h : l.Sublist m) (s : sortedS m = true) : sortedS l = true := by
  have h1 := (sorted_pair s).sublist h
  refine sortedS_of_pairwise _ (h1.imp fun {a b} hab => ?_)
  rw [ltCps_eq]
  exact decide_eq_false (List.not_lt.mpr hab)
section
variable {P : Program} {w : World} {K : PySem.W.Frag} {mg : Str → Option Value} {base : Heap}
def spModelS : Sp := fun vs H Q _ => ∃ (d g c : Addr) (many : Nat), vs = [.ref d, .int (many : Int)] ∧ DrawAt H d g c ∧ 2 ≤ many ∧ many ≤ 6 ∧
  ∀ (m nb tb sb pb : Addr) (ends dots ss ps : List Str) (rows : List (Str × V)) (o n : Str → List (Str × V)) (H' : Hp), DrawAt H' d g c → Evl.Ex (off d g H) (off d g H') → ModelS (off d g H') m nb tb sb pb ends dots ss ps rows o n → dots.length ≤ many → Q (.ref m) H'
abbrev nModelS : List Str := ["draw", "many", "words", "targets", "nodes", "tables", "target", "first", "later", "node", "starts_v", "marks"]
theorem sc_modelS : FnScope nModelS ["draw", "many"] (defScope s_model) := ⟨rfl, rfl, rfl, by decide +kernel, rfl, by decide +kernel, by decide +kernel⟩
theorem ok_modelS {f : Addr} {fd : FuncData} (F : Fun K "_law_model" "_law_model" s_model f fd)
    (CT : Cal P w K mg base 2 "_law_take" ["draw", "size"] spTake) (CP : Cal P w K mg base 3 "_law_pick" ["draw", "some"] (spPickL K)) (CM : Cal P w K mg base 3 "_law_mixed" ["draw", "some"] (spMixed K)) (CN : Cal P w K mg base 4 "_law_names" ["draw", "size"] (spWords K))
    (CB : Cal P w K mg base 4 "_law_table" ["draw", "nodes", "target", "way"] (spTableS K)) (mSorted : mg "sorted" = none) (mLen : mg "len" = none) : FnOk P w K mg base CX0 5 f fd ["draw", "many"] spModelS := by
  obtain ⟨fT, fdT, T, kT, bT, gT⟩ := CT.ex
  obtain ⟨fP, fdP, PL, kP, bP, gP⟩ := CP.ex
  obtain ⟨fM, fdM, M, kM, bM, gM⟩ := CM.ex
  obtain ⟨fN, fdN, NM, kN, bN, gN⟩ := CN.ex
  obtain ⟨fB, fdB, TB, kB, bB, gB⟩ := CB.ex
  refine F.ok sc_modelS (fun vs H Q E h => ?_) (fun cdv A outer s H vs Q E hr h => ?_)
  · obtain ⟨d, g, c, many, rfl, _⟩ := h
    rfl
  · obtain ⟨d, g, c, many, rfl, D, n2, n6, k⟩ := h
    have nd := sc_modelS.nd
    have hu := hu_of hr
    have hr2 : Room 2 _ := hr.mono (by decide)
    have hr3 : Room 3 _ := hr.mono (by decide)
    have hr4 : Room 4 _ := hr.mono (by decide)
    refine ⟨_, pss_cons (ps_set (i := 2) nd rfl (.inl rfl) (pe_call NM hr4 rfl gN kN bN .nil pass0 (pa_cons (pv 0) (pa_cons (pe_op op_add (pe_op op_add pe_int (pe_call T hr2 rfl gT kT bT .nil pass0 (pa_cons (pv 0) (pa_cons (pe_op op_sub (pv 1) pe_int) pa_nil))))
          (pe_call PL hr3 rfl gP kP bP .nil pass0 (pa_cons (pv 0) (pa_cons (pe_lst (pa_cons pe_int (pa_cons pe_int (pa_cons pe_int (pa_cons pe_int pa_nil))))) pa_nil)))) pa_nil))))
      (C8.pss_cut (ps_set (i := 3) nd rfl (.inl rfl) (pe_ifExp (PW.pt (pw_or (pt_cmpR op_lt (pe_callB call_len (by rfl) mLen PySem.boot_len (pa_cons (pv 2) pa_nil)) pe_int (nomark _)) (pw_or1 (pt_cmpR op_gt (pe_call T hr2 rfl gT kT bT .nil pass0 (pa_cons (pv 0) (pa_cons pe_int pa_nil))) pe_int (nomark _)))))
          (pe_slice sl_list (pv 2) po_none (po_some pe_int)) (pe_slice sl_list (pv 2) po_none (po_some pe_int))))
      (pss_cons (ps_par (i := 4) (j := 5) (by rfl) nd rfl rfl (by decide) rfl rfl (pa_cons (pe_callB cr_sortedS (by rfl) mSorted (by decide +kernel) (pa_cons (pe_slice sl_list (pe_slice sl_list (pv 2) (po_some (pe_callB call_len (by rfl) mLen PySem.boot_len (pa_cons (pv 3) pa_nil))) po_none) po_none (po_some (pv 1))) pa_nil)) (pa_cons pe_dnewK pa_nil)) (by rfl))
      (pss_cons (ps_for PassesOwn.never rfl (pi_list (pv 3)) (pg_name (i := 6) nd rfl (.inl rfl))
        (pss_cons (ps_set (i := 7) nd rfl (.inl rfl) (pe_call TB hr4 rfl gB kB bB .nil pass0 (pa_cons (pv 0) (pa_cons (pv 4) (pa_cons (pv 6) (pa_cons (pe_call PL hr3 rfl gP kP bP .nil pass0 (pa_cons (pv 0) (pa_cons (pe_lst (pa_cons pe_str (pa_cons pe_str (pa_cons pe_str (pa_cons pe_str pa_nil))))) pa_nil))) pa_nil))))))
        (pss_cons (ps_set (i := 8) nd rfl (.inl rfl) (pe_call TB hr4 rfl gB kB bB .nil pass0 (pa_cons (pv 0) (pa_cons (pv 4) (pa_cons (pv 6) (pa_cons (pe_call PL hr3 rfl gP kP bP .nil pass0 (pa_cons (pv 0) (pa_cons (pe_lst (pa_cons pe_str (pa_cons pe_str (pa_cons pe_str (pa_cons pe_str pa_nil))))) pa_nil))) pa_nil))))))
        (pss_cons (ps_for PassesOwn.never rfl (pi_list (pv 4)) (pg_name (i := 9) nd rfl (.inl rfl))
          (pss_one (ps_dput hu (pv 8) (pv 9) (pe_ifExp (pt_cmpR op_eq (pe_call T hr2 rfl gT kT bT .nil pass0 (pa_cons (pv 0) (pa_cons pe_int pa_nil))) pe_int (nomark _)) (pe_dget hu (pv 7) (pv 9) (fun _ _ => rfl)) (pe_dget hu (pv 8) (pv 9) (fun _ _ => rfl))) rfl)))
        (pss_one (ps_dput hu (pv 5) (pv 6) (pe_tup (pa_cons (pv 7) (pa_cons (pv 8) pa_nil))) rfl))))))
      (pss_cons (ps_setLc (i := 10) (own := [("node", 9)]) (g := gName 9) (tt := tTest (tOp rEq (tCall spTake [] E0 (tCons (tVar 0) (tCons (tC (.int 2)) tNil))) (tC (.int 0)))) (te := tVar 9) (by rfl) nd rfl rfl (sw_true rfl rfl rfl (by decide +kernel)) (pi_list (pv 4)) (blkOk_by (own := [("node", 9)]) (N := nModelS) (sc := defScope s_model) (by decide +kernel))
          (fun _ _ _ _ _ => pg_name (i := 9) nd rfl (Or.inl rfl)) (fun _ _ _ _ _ => pts_one (pt_cmpR op_eq (pe_call T hr2 rfl gT kT bT .nil pass0 (pa_cons (pv 0) (pa_cons pe_int pa_nil))) pe_int (nomark _))) (fun _ _ _ _ _ => pv 9))
      (pss_cons (ps_set (i := 11) nd rfl (.inl rfl) (pe_slice sl_list (pe_call M hr3 rfl gM kM bM .nil pass0 (pa_cons (pv 0) (pa_cons (pv 4) pa_nil))) po_none
          (po_some (pe_call PL hr3 rfl gP kP bP .nil pass0 (pa_cons (pv 0) (pa_cons (pe_lst (pa_cons pe_int (pa_cons pe_int (pa_cons pe_int (pa_cons pe_int pa_nil))))) pa_nil))))))
      (pss_one (ps_ret (pe_disp (pps_cons pe_str (pv 4) (pps_cons pe_str (pv 5) (pps_cons pe_str (pv 10) (pps_cons pe_str (pv 11) pps_nil)))) (by rfl) (by rfl) (fun z => by cases z) (by decide))))))))), ?_⟩
    -- words
    refine ⟨.ref d, rfl, .ref d, rfl, .int (many : Int), rfl, (many : Int), 1, rfl, rfl, d, g, c, (many : Int) - 1, rfl, by omega, by omega, D, fun t H1 t0 t1 D1 x1 => ⟨2, t, rfl, rfl, .ref d, rfl, by show 4 ≤ sizeLine; decide, fun p1 hp1 => ?_⟩⟩
    have y1 : Evl.Ex H1 (upd H1 p1 (.lst [.int 1, .int 1, .int 1, .int 2])) := Evl.Ex.new hp1
    have n1 := D1.ned hp1
    have q1 : off d g (upd H1 p1 (.lst [.int 1, .int 1, .int 1, .int 2])) p1 = some (.lst [.int 1, .int 1, .int 1, .int 2]) := off_of upd_same n1.1 n1.2.1
    have D1' := D1.ext y1
    have x1' := x1.trans (off_ex (d := d) (g := g) y1)
    generalize upd H1 p1 (.lst [.int 1, .int 1, .int 1, .int 2]) = H1' at y1 q1 D1' x1'
    refine ⟨d, g, c, p1, _, rfl, D1', Evl.sq_of q1, by decide, by decide, fun i v H2 hv D2 x2 => ?_⟩
    obtain ⟨u, rfl, u1, u2⟩ : ∃ u : Nat, v = .int (u : Int) ∧ 1 ≤ u ∧ u ≤ 2 := by
      have hm := List.mem_of_getElem? hv
      simp only [List.mem_cons, List.not_mem_nil, or_false] at hm
      rcases hm with rfl | rfl | rfl | rfl
      · exact ⟨1, rfl, by omega, by omega⟩
      · exact ⟨1, rfl, by omega, by omega⟩
      · exact ⟨1, rfl, by omega, by omega⟩
      · exact ⟨2, rfl, by omega, by omega⟩
    obtain ⟨t', rfl⟩ := Int.eq_ofNat_of_zero_le t0
    have x02 := x1'.trans x2
    have eN : (2 + (t' : Int) + (u : Int)) = ((2 + t' + u : Nat) : Int) := by omega
    refine ⟨2 + (t' : Int), (u : Int), rfl, rfl, d, g, c, 2 + t' + u, by show [V.ref d, V.int (2 + (t' : Int) + (u : Int))] = _; rw [eN], D2, by omega, fun wl ws H3 wlen wnd wnm D3 x3 _ hwl => ?_⟩
    have x03 := x02.trans x3
    have wlen3 : 3 ≤ ws.length := by omega
    have wlen8 : ws.length ≤ 8 := by omega
    -- targets
    refine ⟨fun σ' H' => ∃ (tl : Addr) (kk : Nat), σ' = [some (.ref d), some (.int (many : Int)), some (.ref wl), some (.ref tl), none, none, none, none, none, none, none, none] ∧ (kk = 1 ∨ (kk = 2 ∧ 4 ≤ ws.length)) ∧ DrawAt H' d g c ∧ Evl.Ex (off d g H3) (off d g H') ∧ off d g H' tl = some (.lst ((ws.take kk).map V.str)), ?_, ?_⟩
    · have slice : ∀ {Hx : Hp} (kk : Nat), (kk = 1 ∨ (kk = 2 ∧ 4 ≤ ws.length)) → DrawAt Hx d g c → Evl.Ex (off d g H3) (off d g Hx) → ∀ p, Hx p = none → ∃ (tl : Addr) (k2 : Nat), ([some (V.ref d), some (.int (many : Int)), some (.ref wl), none, none, none, none, none, none, none, none, none] : L2.St).set 3 (some (.ref p)) = [some (.ref d), some (.int (many : Int)), some (.ref wl), some (.ref tl), none, none, none, none, none, none, none, none] ∧ (k2 = 1 ∨ (k2 = 2 ∧ 4 ≤ ws.length)) ∧ DrawAt (upd Hx p (.lst (cutV (ws.map V.str) none (some ((kk : Nat) : Int))))) d g c ∧ Evl.Ex (off d g H3) (off d g (upd Hx p (.lst (cutV (ws.map V.str) none (some ((kk : Nat) : Int)))))) ∧ off d g (upd Hx p (.lst (cutV (ws.map V.str) none (some ((kk : Nat) : Int))))) tl = some (.lst ((ws.take k2).map V.str)) := fun {Hx} kk hk Dx xx p hp => by
        have np := Dx.ned hp
        refine ⟨p, kk, rfl, hk, Dx.new hp, xx.trans (off_ex (Evl.Ex.new hp)), off_of ?_ np.1 np.2.1⟩
        rw [upd_same, cut_take, ← List.map_take]
      have w3 := (off_some hwl).2.2
      refine ⟨.ref wl, rfl, .ref wl, ws.length, rfl, .inl ⟨_, Evl.sq_of w3, (List.length_map ..).symm⟩, (ws.length : Int), 4, rfl, rfl, _, rfl, ite2 (fun _ => ?_) (fun hq => ?_)⟩
      · exact ⟨.ref wl, rfl, 1, rfl, wl, _, rfl, Evl.sq_of w3, fun p hp => by
          obtain ⟨tl', kk', h1, h2, h3, h4, h5⟩ := slice 1 (.inl rfl) D3 (Evl.Ex.refl _) p hp
          exact ⟨tl', kk', h1, h2, h3, h4, h5⟩⟩
      · refine ⟨.ref d, rfl, d, g, c, 3, rfl, by decide, by decide, D3, fun t0 H4 t00 t01 D4 x4 => ⟨t0, 0, rfl, rfl, _, rfl, ite2 (fun _ => ?_) (fun _ => ?_)⟩⟩
        · have w4 := (off_some (x4 _ _ hwl)).2.2
          exact ⟨.ref wl, rfl, 1, rfl, wl, _, rfl, Evl.sq_of w4, fun p hp => by
          obtain ⟨tl', kk', h1, h2, h3, h4, h5⟩ := slice 1 (.inl rfl) D4 x4 p hp
          exact ⟨tl', kk', h1, h2, h3, h4, h5⟩⟩
        · have w4 := (off_some (x4 _ _ hwl)).2.2
          have h4 : 4 ≤ ws.length := by
            have : ¬ ((ws.length : Int) < 4) := fun h => hq (decide_eq_true h)
            omega
          exact ⟨.ref wl, rfl, 2, rfl, wl, _, rfl, Evl.sq_of w4, fun p hp => by
          obtain ⟨tl', kk', h1, h2, h3, h4, h5⟩ := slice 2 (.inr ⟨rfl, h4⟩) D4 x4 p hp
          exact ⟨tl', kk', h1, h2, h3, h4, h5⟩⟩
    rintro σ H4 ⟨tl, kk, rfl, hkk, D4, x4, htl⟩
    have x04 := x03.trans x4
    have kk2 : 1 ≤ kk ∧ kk ≤ 2 ∧ kk + 2 ≤ ws.length := by rcases hkk with h | h <;> omega
    have w4 := off_some (x4 _ _ hwl)
    have tlen : ((ws.take kk).map V.str).length = kk := by rw [List.length_map, List.length_take]; omega
    -- nodes, tables
    refine ⟨.ref wl, rfl, .ref tl, rfl, .ref tl, _, rfl, .inl ⟨_, Evl.sq_of (off_some htl).2.2, rfl⟩, _, rfl, wl, _, rfl, Evl.sq_of w4.2.2, fun p1 hp1 => ?_⟩
    rw [tlen, cut_drop, ← List.map_drop]
    obtain ⟨D5, x5, s5, _, _⟩ := off_new (o := .lst ((ws.drop kk).map V.str)) D4 x04 hp1
    have x45 := off_ex (d := d) (g := g) (Evl.Ex.new (o := .lst ((ws.drop kk).map V.str)) hp1)
    generalize upd H4 p1 (.lst ((ws.drop kk).map V.str)) = H5 at D5 x5 s5 x45
    refine ⟨.int (many : Int), rfl, _, rfl, p1, _, rfl, Evl.sq_of (off_some s5).2.2, fun p2 hp2 => ?_⟩
    rw [cut_take, ← List.map_take]
    obtain ⟨D6, x6, s6, _, x56⟩ := off_new (o := .lst (((ws.drop kk).take many).map V.str)) D5 x5 hp2
    generalize upd H5 p2 (.lst (((ws.drop kk).take many).map V.str)) = H6 at D6 x6 s6 x56
    have zl2 : ((ws.drop kk).take many).length ≤ 6 := by rw [List.length_take]; omega
    have zl1 : 0 < ((ws.drop kk).take many).length := by rw [List.length_take, List.length_drop]; omega
    refine ⟨p2, (ws.drop kk).take many, rfl, Evl.sq_of (off_some s6).2.2, by omega, fun dots db dperm dsort hdb tb htb => ⟨_, _, rfl, ?_⟩⟩
    obtain ⟨D7, x7, s7, _, x67⟩ := off_new (o := .lst (dots.map V.str)) D6 x6 hdb
    obtain ⟨D8, x8, s8, tb0, x78⟩ := off_new (o := .dK []) D7 x7 htb
    have q1 := x78 _ _ s7
    have q3 := ((x45.trans x56).trans (x67.trans x78)) _ _ htl
    generalize upd (upd H6 db (.lst (dots.map V.str))) tb (.dK []) = H8 at D8 x8 s8 q1 q3
    have dl : dots.length = ((ws.drop kk).take many).length := dperm.length_eq
    have dsub : ∀ z ∈ dots, z ∈ ws.drop kk := fun z hz => List.mem_of_mem_take (dperm.subset hz)
    have dnd : dots.Nodup := dperm.nodup_iff.mpr (wnd.sublist ((List.take_sublist _ _).trans (List.drop_sublist _ _)))
    have dnm : ∀ z ∈ dots, Nm z := fun z hz => wnm z (List.mem_of_mem_drop (dsub z hz))
    have tnd : (ws.take kk).Nodup := wnd.sublist (List.take_sublist _ _)
    have tnm : ∀ z ∈ ws.take kk, Nm z := fun z hz => wnm z (List.mem_of_mem_take hz)
    have tdis : ∀ z ∈ ws.take kk, z ∉ dots := fun z hz hd => by
      have h3 : (ws.take kk ++ ws.drop kk).Nodup := by rw [List.take_append_drop]; exact wnd
      exact (List.nodup_append.mp h3).2.2 z hz z (dsub z hd) rfl
    have tkl : (ws.take kk).length = kk := by rw [List.length_take]; omega
    generalize hends : ws.take kk = ends at tnd tnm tdis tkl q3 htl
    have dk10 : dots.length ≤ 6 := by omega
    have ntb := off_some s8
    have s8' : off d g H8 tb = some (.dK (tkv [])) := s8
    have ntd : tb ≠ db := fun z => by rw [z, q1] at s8; cases s8
    have ntl : tb ≠ tl := fun z => by rw [z, q3] at s8; cases s8
    -- for target in targets
    refine ⟨.ref tl, rfl, tl, rfl, ⟨_, Evl.sq_of (off_some q3).2.2⟩, for_list (K := K) (a := tl) (xs := ends.map V.str)
      (fun i σ H' => ∃ (x6 x7 x8 x9 : Option V) (rows : List (Str × V)), σ = [some (.ref d), some (.int (many : Int)), some (.ref wl), some (.ref tl), some (.ref db), some (.ref tb), x6, x7, x8, x9, none, none] ∧ rows.map (·.1) = ends.take i ∧
        (∀ q ∈ rows, ∃ (p po pn : Addr) (t1 t2 : List (Str × V)), q.2 = .ref p ∧ PairAt (off d g H') dots q.1 p po pn t1 t2 ∧ p ≠ tb ∧ po ≠ tb ∧ pn ≠ tb) ∧
        off d g H' tb = some (.dK (tkv rows)) ∧ off d g H' db = some (.lst (dots.map V.str)) ∧ off d g H' tl = some (.lst (ends.map V.str)) ∧ DrawAt H' d g c ∧ Evl.Ex (off d g H) (off d g H'))
      ⟨none, none, none, none, [], rfl, rfl, (fun q hq => by cases hq), s8', q1, q3, D8, x8⟩ (fun i σ H' _ ⟨_, _, _, _, _, _, _, _, _, _, h, _⟩ => Evl.sq_of (off_some h).2.2) ?_ ?_⟩
    · rintro i y σ H9 hi ⟨v6, v7, v8, v9, rows, rfl, hk, hro, f1, f2, f3, D9, x9⟩
      obtain ⟨e, he, rfl⟩ := str_at hi
      have etake : ends.take (i + 1) = ends.take i ++ [e] := by rw [List.take_add_one, he]; rfl
      have hem := List.mem_of_getElem? he
      have hen : e ∉ ends.take i := fun hm => by
        have h1 : (ends.take (i + 1)).Nodup := tnd.sublist (List.take_sublist _ _)
        rw [etake] at h1
        exact (List.nodup_append.mp h1).2.2 e hm e (List.mem_singleton.mpr rfl) rfl
      have rl : rows.length ≤ 2 := by
        have := congrArg List.length hk
        rw [List.length_map, List.length_take] at this
        omega
      -- first
      refine ⟨.ref d, rfl, .ref db, rfl, .str e, rfl, .ref d, rfl, by show 4 ≤ sizeLine; decide, fun p3 hp3 => ?_⟩
      obtain ⟨D10, x10, s10, _, y10⟩ := off_new (o := .lst [.str "tree", .str "tree", .str "path", .str "any"]) D9 (Evl.Ex.refl _) hp3
      generalize upd H9 p3 (.lst [.str "tree", .str "tree", .str "path", .str "any"]) = H10 at D10 x10 s10 y10
      have isw : ∀ {i : Nat} {v : V}, ([.str "tree", .str "tree", .str "path", .str "any"] : List V)[i]? = some v → ∃ way : Str, v = .str way := fun {i v} hv => by
        have hm := List.mem_of_getElem? hv
        simp only [List.mem_cons, List.not_mem_nil, or_false] at hm
        rcases hm with rfl | rfl | rfl | rfl <;> exact ⟨_, rfl⟩
      refine ⟨d, g, c, p3, _, rfl, D10, Evl.sq_of s10, by decide, by decide, fun i1 v1 H11 hv1 D11 x11 => ?_⟩
      obtain ⟨way1, rfl⟩ := isw hv1
      have y11 := x10.trans x11
      refine ⟨d, g, c, db, dots, e, way1, rfl, D11, Evl.sq_of (y11 _ _ f2), dnd, dnm, tnm e hem, tdis e hem, by omega, fun po t1 H12 ok1 D12 x12 po0 hpo => ?_⟩
      have y12 := y11.trans x12
      -- later
      refine ⟨.ref d, rfl, .ref db, rfl, .str e, rfl, .ref d, rfl, by show 4 ≤ sizeLine; decide, fun p4 hp4 => ?_⟩
      obtain ⟨D13, x13, s13, _, z13⟩ := off_new (o := .lst [.str "tree", .str "tree", .str "path", .str "any"]) D12 y12 hp4
      generalize upd H12 p4 (.lst [.str "tree", .str "tree", .str "path", .str "any"]) = H13 at D13 x13 s13 z13
      refine ⟨d, g, c, p4, _, rfl, D13, Evl.sq_of s13, by decide, by decide, fun i2 v2 H14 hv2 D14 x14 => ?_⟩
      obtain ⟨way2, rfl⟩ := isw hv2
      have y14 := x13.trans x14
      refine ⟨d, g, c, db, dots, e, way2, rfl, D14, Evl.sq_of (y14 _ _ f2), dnd, dnm, tnm e hem, tdis e hem, by omega, fun pn t2 H15 ok2 D15 x15 pn0 hpn => ?_⟩
      have y15 := y14.trans x15
      have hpo15 := ((z13.trans x14).trans x15) _ _ hpo
      have pne : po ≠ pn := fun z => by
        have h1 := (z13.trans x14) _ _ hpo
        rw [z] at h1
        rw [(off_some h1).2.2] at pn0
        cases pn0
      have pnF : off d g H9 pn = none := ex_none y14 (off_free pn0)
      have poF : off d g H9 po = none := ex_none y11 (off_free po0)
      have pnc : pn ≠ c := draw_c D15 hpn fun xs z => by cases z
      -- for node in nodes
      refine ⟨.ref db, rfl, db, rfl, ⟨_, Evl.sq_of (off_some (y15 _ _ f2)).2.2⟩, for_list (K := K) (a := db) (xs := dots.map V.str)
        (fun j σ H' => ∃ (u9 : Option V) (t : List (Str × V)), σ = [some (.ref d), some (.int (many : Int)), some (.ref wl), some (.ref tl), some (.ref db), some (.ref tb), some (.str e), some (.ref po), some (.ref pn), u9, none, none] ∧ TabOk dots e t ∧
          off d g H' po = some (.dK (tkv t1)) ∧ off d g H' pn = some (.dK (tkv t)) ∧ DrawAt H' d g c ∧ Evl.Ex (off d g H9) (off d g H'))
        ⟨v9, t2, rfl, ok2, hpo15, hpn, D15, y15⟩ (fun j σ H' _ ⟨_, _, _, _, _, _, _, h⟩ => Evl.sq_of (off_some (h _ _ f2)).2.2) ?_ ?_⟩
      · rintro j y σ H16 hj ⟨u9, t, rfl, okt, hpo16, hpn16, D16, x16⟩
        obtain ⟨z, hz, rfl⟩ := str_at hj
        have hzm := List.mem_of_getElem? hz
        have k1 : z ∈ t1.map (·.1) := ok1.ks.mem_iff.mpr hzm
        have k2 : z ∈ t.map (·.1) := okt.ks.mem_iff.mpr hzm
        refine ⟨.ref d, rfl, d, g, c, 6, rfl, by decide, by decide, D16, fun t0 H17 t00 t01 D17 x17 => ?_⟩
        have hpo17 := x17 _ _ hpo16
        have hpn17 := x17 _ _ hpn16
        have y17 := x16.trans x17
        have small : (tkv t).length < sizeLine := by
          rw [tkv_len]
          have := okt.ks.length_eq
          rw [List.length_map] at this
          exact small1000 (by omega)
        have fin : ∀ {v : V}, PlaceOk dots e z v → ∃ (u9 : Option V) (t' : List (Str × V)), [some (V.ref d), some (.int (many : Int)), some (.ref wl), some (.ref tl), some (.ref db), some (.ref tb), some (.str e), some (.ref po), some (.ref pn), some (.str z), none, none] = [some (.ref d), some (.int (many : Int)), some (.ref wl), some (.ref tl), some (.ref db), some (.ref tb), some (.str e), some (.ref po), some (.ref pn), u9, none, none] ∧ TabOk dots e t' ∧
          off d g (upd H17 pn (.dK (putK (tkv t) (Sum.inr z) v))) po = some (.dK (tkv t1)) ∧ off d g (upd H17 pn (.dK (putK (tkv t) (Sum.inr z) v))) pn = some (.dK (tkv t')) ∧ DrawAt (upd H17 pn (.dK (putK (tkv t) (Sum.inr z) v))) d g c ∧ Evl.Ex (off d g H9) (off d g (upd H17 pn (.dK (putK (tkv t) (Sum.inr z) v)))) := fun {v} hv => by
          rw [setV_put v k2]
          obtain ⟨D18, x18, s18⟩ := off_put (o := .dK (tkv (setV t z v))) D17 y17 pnF hpn17 pnc
          exact ⟨_, setV t z v, rfl, setV_ok okt hv, off_up hpo17 pne, s18, D18, x18⟩
        refine ⟨rfl, _, rfl, ite2 (fun _ => ?_) (fun _ => ?_)⟩
        · obtain ⟨v, hv1, hv2⟩ := tkv_some k1
          exact ⟨.ref po, rfl, .str z, rfl, po, _, rfl, dgK (off_some hpo17).2.2 hv1, .ref pn, rfl, .str z, rfl, pn, _, rfl, DPut.k (k := Sum.inr z) (off_some hpn17).2.2 small, fin (ok1.ps _ hv2)⟩
        · obtain ⟨v, hv1, hv2⟩ := tkv_some k2
          exact ⟨.ref pn, rfl, .str z, rfl, pn, _, rfl, dgK (off_some hpn17).2.2 hv1, .ref pn, rfl, .str z, rfl, pn, _, rfl, DPut.k (k := Sum.inr z) (off_some hpn17).2.2 small, fin (okt.ps _ hv2)⟩
      · rintro σ H16 ⟨u9, t, rfl, okt, hpo16, hpn16, D16, x16⟩
        refine ⟨.ref po, rfl, .ref pn, rfl, by show 2 ≤ sizeLine; decide, fun p hp => ?_⟩
        obtain ⟨D17, x17, s17, pF, y17⟩ := off_new (o := .tup [.ref po, .ref pn]) D16 x16 hp
        generalize upd H16 p (.tup [.ref po, .ref pn]) = H17 at D17 x17 s17 y17
        have g1 := x17 _ _ f1
        refine ⟨.ref tb, rfl, .str e, rfl, tb, _, rfl, DPut.k (k := Sum.inr e) (off_some g1).2.2 (by rw [tkv_len]; exact small1000 (by omega)), ?_⟩
        rw [tkv_new (by rw [hk]; exact hen)]
        have n1 : p ≠ tb := fun z => by rw [z, f1] at pF; cases pF
        have n2 : po ≠ tb := fun z => by rw [z, f1] at poF; cases poF
        have n3 : pn ≠ tb := fun z => by rw [z, f1] at pnF; cases pnF
        have tbc : tb ≠ c := draw_c D17 g1 fun xs z => by cases z
        obtain ⟨D18, x18, s18⟩ := off_put (o := .dK (tkv (rows ++ [(e, V.ref p)]))) D17 (x9.trans x17) tb0 g1 tbc
        refine ⟨_, _, _, _, rows ++ [(e, .ref p)], rfl, ?_, ?_, s18, off_up (x17 _ _ f2) ntd.symm, off_up (x17 _ _ f3) ntl.symm, D18, x18⟩
        · rw [List.map_append, hk, etake]
          rfl
        · intro q hq
          rcases List.mem_append.mp hq with hq | hq
          · obtain ⟨p', po', pn', t1', t2', e', pa, m1, m2, m3⟩ := hro q hq
            have pa' := pa.ex x17
            exact ⟨p', po', pn', t1', t2', e', ⟨off_up pa'.hp m1, off_up pa'.ho m2, off_up pa'.hn m3, pa'.o1, pa'.o2⟩, m1, m2, m3⟩
          · rw [List.mem_singleton.mp hq]
            exact ⟨p, po, pn, t1, t, rfl, ⟨off_up s17 n1, off_up (y17 _ _ hpo16) n2, off_up (y17 _ _ hpn16) n3, ok1, okt⟩, n1, n2, n3⟩
    · rintro σ H9 ⟨v6, v7, v8, v9, rows, rfl, hk, hro, f1, f2, f3, D9, x9⟩
      rw [List.length_map, List.take_length] at hk
      have hro' : RowsOk (off d g H9) dots rows := fun q hq => by
        obtain ⟨p', po', pn', t1', t2', e', pa, _⟩ := hro q hq
        exact ⟨p', po', pn', t1', t2', e', pa⟩
      -- starts
      refine ⟨.ref db, rfl, db, rfl, ⟨_, Evl.sq_of (off_some f2).2.2⟩, fun sb hsb => ?_⟩
      obtain ⟨DA, xA, sA, sbF, yA⟩ := off_new (o := .lst []) D9 (Evl.Ex.refl _) hsb
      have sbc := (D9.ned hsb).2.2
      refine lc_list (K := K) (a := db) (xs := dots.map V.str)
        (fun j H' => ∃ (l : List Str), l.Sublist (dots.take j) ∧ off d g H' sb = some (.lst (l.map V.str)) ∧ DrawAt H' d g c ∧ Evl.Ex (off d g H9) (off d g H')) ⟨[], List.nil_sublist _, sA, DA, xA⟩ (fun j H' _ ⟨_, _, _, _, h⟩ => Evl.sq_of (off_some (h _ _ f2)).2.2) ?_ ?_
      · rintro j x HB hj ⟨l, hl, sB, DB, xB⟩
        obtain ⟨z, hz, rfl⟩ := str_at hj
        have et : dots.take (j + 1) = dots.take j ++ [z] := by rw [List.take_add_one, hz]; rfl
        refine ⟨rfl, .ref d, rfl, d, g, c, 2, rfl, by decide, by decide, DB, fun t0 HC t00 t01 DC xC => ?_⟩
        have sC := xC _ _ sB
        have yC := xB.trans xC
        refine ⟨rfl, _, rfl, ?_⟩
        by_cases q : t0 = 0
        · subst q
          refine iteT ?_
          have ll : l.length ≤ 6 := Nat.le_trans hl.length_le (by rw [List.length_take]; omega)
          obtain ⟨DD, xD, sD⟩ := off_put (o := .lst (l.map V.str ++ [V.str z])) DC yC sbF sC sbc
          refine ⟨.str z, rfl, _, (off_some sC).2.2, by rw [List.length_map]; exact small1000 (by omega), l ++ [z], ?_, ?_, DD, xD⟩
          · rw [et]
            exact hl.append (List.Sublist.refl _)
          · rw [List.map_append]
            exact sD
        · have hq : decide (V.int t0 = V.int 0) = false := decide_eq_false fun w => q (V.int.inj w)
          rw [hq]
          refine iteF ?_
          exact ⟨l, by rw [et]; exact hl.trans (List.sublist_append_left _ _), sC, DC, yC⟩
      · rintro HB ⟨ss, hss, sB, DB, xB⟩
        rw [List.length_map, List.take_length] at hss
        -- marks
        have ddat : ∀ {Hx : Hp}, ∀ v ∈ dots.map V.str, DataV K Hx v := fun {Hx} v hv => by
          obtain ⟨z, hz, rfl⟩ := List.mem_map.mp hv
          exact nm_data (dnm z hz)
        have f2B := xB _ _ f2
        refine ⟨.ref d, rfl, .ref db, rfl, d, g, c, db, dots.map V.str, rfl, DB, .inl (Evl.sq_of f2B), by rw [List.length_map]; omega, ddat, fun ml ys HC mperm DC xC _ hml => ?_⟩
        obtain ⟨vs, rfl, hvs⟩ := perm_strs mperm
        refine ⟨.ref d, rfl, by show 4 ≤ sizeLine; decide, fun p5 hp5 => ?_⟩
        obtain ⟨DD, xD, sD, _, yD⟩ := off_new (o := .lst [.int 0, .int 1, .int 1, .int 2]) DC (xB.trans xC) hp5
        generalize upd HC p5 (.lst [.int 0, .int 1, .int 1, .int 2]) = HD at DD xD sD yD
        refine ⟨d, g, c, p5, _, rfl, DD, Evl.sq_of sD, by decide, by decide, fun i5 v5 HE hv5 DE xE => ?_⟩
        obtain ⟨t5, rfl, ht5⟩ : ∃ t5 : Nat, v5 = .int (t5 : Int) ∧ t5 ≤ 2 := by
          have hm := List.mem_of_getElem? hv5
          simp only [List.mem_cons, List.not_mem_nil, or_false] at hm
          rcases hm with rfl | rfl | rfl | rfl
          · exact ⟨0, rfl, by omega⟩
          · exact ⟨1, rfl, by omega⟩
          · exact ⟨1, rfl, by omega⟩
          · exact ⟨2, rfl, by omega⟩
        have ml5 := (yD.trans xE) _ _ hml
        refine ⟨_, rfl, ml, _, rfl, Evl.sq_of (off_some ml5).2.2, fun pb hpb => ?_⟩
        rw [cut_take, ← List.map_take]
        obtain ⟨DF, xF, sF, _, yF⟩ := off_new (o := .lst ((vs.take t5).map V.str)) DE (xD.trans xE) hpb
        generalize upd HE pb (.lst ((vs.take t5).map V.str)) = HF at DF xF sF yF
        have zBF := ((xC.trans yD).trans xE).trans yF
        intro m hm
        have sBF := zBF _ _ sB
        obtain ⟨DG, xG, sG, _, yG⟩ := off_new (o := .dK (mkS db tb sb pb)) DF xF hm
        refine ⟨.ref db, rfl, .ref tb, rfl, .ref sb, rfl, .ref pb, rfl, upd_same, mkS db tb sb pb, rfl, by show 4 ≤ 15; decide, ?_⟩
        rw [upd_upd, show mergeK [] (mkS db tb sb pb) = mkS db tb sb pb by kernel_rfl]
        obtain ⟨es, eperm, esort⟩ := sort_ex ends
        obtain ⟨o, n, ra⟩ := RowsAt.of (hro'.ex (xG)) hk
        have hkp : (rows.map (·.1)).Perm es := by rw [hk]; exact eperm.symm
        have vnd : vs.Nodup := hvs.nodup_iff.mpr dnd
        refine k m db tb sb pb es dots ss (vs.take t5) rows o n _ DG (x9.trans xG) ⟨sG, xG _ _ f2, xG _ _ f1, yG _ _ sBF, yG _ _ sF, hkp, fun e he => ra e (eperm.mem_iff.mp he), ?_⟩ (by rw [dl, List.length_take]; exact Nat.min_le_left _ _)
        exact { e0 := (by rw [eperm.length_eq]; omega), e2 := (by rw [eperm.length_eq]; omega), en := eperm.nodup_iff.mpr tnd, es := esort, em := fun z hz => tnm z (eperm.mem_iff.mp hz), d0 := (by omega), d6 := (by omega), dn := dnd, ds := dsort, dm := dnm, ed := fun z hz => tdis z (eperm.mem_iff.mp hz), sn := dnd.sublist hss, sss := sorted_sub hss dsort, sd := fun z hz => hss.subset hz, pn := vnd.sublist (List.take_sublist _ _), p2 := (by rw [List.length_take]; omega), pd := fun z hz => hvs.subset (List.mem_of_mem_take hz) }
end
end Rw
end T_BB

section T_BC
set_option Elab.async false
set_option linter.all false
set_option maxRecDepth 100000
set_option maxHeartbeats 8000000
namespace Rw
open PySem L2 PyProof.Rows
/-! ### the nodes that change, as the law tells them -/
section
variable {P : Program} {w : World} {K : PySem.W.Frag} {mg : Str → Option Value} {base : Heap}
def spMovedS : Sp := fun vs H Q _ => ∃ (m nb tb sb pb : Addr) (ends dots ss ps : List Str) (rows : List (Str × V)) (o n : Str → List (Str × V)), vs = [.ref m] ∧ ModelS H m nb tb sb pb ends dots ss ps rows o n ∧
  ∀ p H', Evl.Ex H H' → H p = none → H' p = some (.lst ((moving ends dots o n).map V.str)) → Q (.ref p) H'
abbrev nMovedS : List Str := ["model", "pairs", "target", "node", "first", "later"]
abbrev scMovedO : Scope := { kind := .function, names := [(".0", .local), ("node", .cell), ("pairs", .cell)], isGenerator := false, isCoroutine := false }
theorem sc_movedS : FnScope nMovedS ["model"] (defScope s_moved) := ⟨rfl, rfl, rfl, by decide +kernel, rfl, by decide +kernel, by decide +kernel⟩
theorem ok_movedS {f : Addr} {fd : FuncData} (F : Fun K "_law_moved" "_law_moved" s_moved f fd) (mSorted : mg "sorted" = none) : FnOk P w K mg base CX0 1 f fd ["model"] spMovedS := by
  refine F.ok sc_movedS (fun vs H Q E h => ?_) (fun cdv A outer s H vs Q E hr h => ?_)
  · obtain ⟨m, nb, tb, sb, pb, ends, dots, ss, ps, rows, o, n, rfl, _⟩ := h
    rfl
  · obtain ⟨m, nb, tb, sb, pb, ends, dots, ss, ps, rows, o, n, rfl, MS, k⟩ := h
    have nd := sc_movedS.nd
    have hu := hu_of hr
    refine ⟨_, pss_cons (ps_set (i := 1) nd rfl (.inr rfl) (pe_lc (own := [("target", 2)]) (g := gName 2) (tt := tYes) (te := tDGet (tDGet (tVar 0) (tC (.str "tables"))) (tVar 2)) rfl nd (pi_list (pe_callB (call_sortedD rfl) (by rfl) mSorted (by decide +kernel) (pa_cons (pe_dget hu (pv 0) pe_str (fun _ _ => rfl)) pa_nil))) (blkOk_by (own := [("target", 2)]) (N := nMovedS) (sc := defScope s_moved) (by decide +kernel))
          (fun _ _ _ _ _ => pg_name (i := 2) nd rfl (Or.inl rfl)) (fun _ _ _ _ _ => pts_nil) (fun _ _ _ _ _ => pe_dget hu (pe_dget hu (pv 0) pe_str (fun _ _ => rfl)) (pv 2) (fun _ _ => rfl))))
      (pss_one (ps_ret (pe_lc (own := [("node", 3)]) (g := gName 3) (tt := tTest (tOp (rNeD K) (tLc (iList K (tVar 1)) (gTup K 2 (gCons (gName 4) (gCons (gName 5) gNil))) (tTest (tOp rNe (tDGet (tVar 4) (tVar 3)) (tDGet (tVar 5) (tVar 3)))) (tC (.int 1)) [4, 5]) (tLst tNil))) (te := tVar 3) rfl nd (pi_list (pe_dget hu (pv 0) pe_str (fun _ _ => rfl))) (blkOk_by (own := [("node", 3)]) (N := nMovedS) (sc := defScope s_moved) (by decide +kernel))
          (fun _ _ _ _ _ => pg_name (i := 3) nd rfl (Or.inr rfl))
          (fun _ _ _ _ _ => pts_one (pt_cmpR (op_neD hr.units) (pe_lc (own := [("first", 4), ("later", 5)]) (g := gTup K 2 (gCons (gName 4) (gCons (gName 5) gNil))) (tt := tTest (tOp rNe (tDGet (tVar 4) (tVar 3)) (tDGet (tVar 5) (tVar 3)))) (te := tC (.int 1)) rfl nd (pi_list (pv 1)) (by
              have q : ∀ {sc : Scope}, blkC nMovedS scMovedO sc [("first", 4), ("later", 5)] = true → BlkOk nMovedS scMovedO sc [("first", 4), ("later", 5)] := fun h => blkOk_by h
              refine q ?_
              decide +kernel)
              (fun _ _ _ _ _ => pg_tup rfl (pgs_cons (pg_name (i := 4) nd rfl (Or.inl rfl)) (pgs_cons (pg_name (i := 5) nd rfl (Or.inl rfl)) pgs_nil))) (fun _ _ _ _ _ => pts_one (pt_cmpR op_ne (pe_dget hu (pv 4) (pv 3) (fun _ _ => rfl)) (pe_dget hu (pv 5) (pv 3) (fun _ _ => rfl)) (nomark _))) (fun _ _ _ _ _ => pe_int)) (pe_lst pa_nil) (nomark _)))
          (fun _ _ _ _ _ => pv 3)))), ?_⟩
    have ok := MS.ok
    have e2 := ok.e2
    have d6 := ok.d6
    have rl : rows.length = ends.length := by
      have := MS.rk.length_eq
      rwa [List.length_map] at this
    have en : (rows.map (·.1)).Nodup := MS.rk.nodup_iff.mpr ok.en
    -- the pairs
    obtain ⟨pr, hpr⟩ : ∃ pr : Str → V, ∀ e ∈ ends, valV (tkv rows) (Sum.inr e) = some (pr e) ∧ ∃ p po pn : Addr, pr e = .ref p ∧ PairAt H dots e p po pn (o e) (n e) :=
      ⟨fun e => (valV (tkv rows) (Sum.inr e)).getD .non, fun e he => by
        obtain ⟨p, po, pn, hv, pa⟩ := MS.ra e he
        have ev : (valV (tkv rows) (Sum.inr e)).getD .non = .ref p := by rw [hv]; rfl
        exact ⟨hv.trans (congrArg some ev.symm), p, po, pn, ev, pa⟩⟩
    refine ⟨.ref m, rfl, m, _, rfl, dgK MS.hm (mkS_tables _ _ _ _), tb, _, rows.map (·.1), rfl, .inl MS.ht, tkv_keys rows, by rw [List.length_map]; omega, fun es sl hes hsort hsl => ?_⟩
    have ees : es = ends := sorted_uniq hsort ok.es (hes.trans MS.rk)
    subst ees
    have x1 : Evl.Ex H (upd H sl (.lst (es.map V.str))) := Evl.Ex.new hsl
    have s1 : (upd H sl (.lst (es.map V.str))) sl = some (.lst (es.map V.str)) := upd_same
    generalize upd H sl (.lst (es.map V.str)) = H1 at x1 s1
    refine ⟨sl, rfl, ⟨_, Evl.sq_of s1⟩, fun D hD => lc_list (K := K) (a := sl) (xs := es.map V.str)
      (fun i H' => Evl.Ex H1 H' ∧ H' D = some (.lst ((es.take i).map pr))) ⟨Evl.Ex.new hD, upd_same⟩ (fun i H' _ h => Evl.sq_of (h.1 _ _ s1)) ?_ ?_⟩
    · rintro i y H2 hi ⟨x2, d2⟩
      obtain ⟨e, he, rfl⟩ := str_at hi
      have hil := (List.getElem?_eq_some_iff.mp he).1
      obtain ⟨hv, p, po, pn, ep, pa⟩ := hpr e (List.mem_of_getElem? he)
      refine ⟨rfl, yes_if ?_⟩
      refine ⟨.ref m, rfl, m, _, rfl, dgK (x2 _ _ (x1 _ _ MS.hm)) (mkS_tables _ _ _ _), .str e, rfl, tb, _, rfl, dgK (k := Sum.inr e) (x2 _ _ (x1 _ _ MS.ht)) hv, _, d2, by rw [List.length_map, List.length_take]; exact small1000 (by omega), x2.mut hD, ?_⟩
      rw [upd_same, List.take_add_one, he, List.map_append]
      rfl
    rintro H2 ⟨x2, d2⟩
    rw [List.length_map, List.take_length] at d2
    have x02 := x1.trans x2
    -- the nodes
    refine ⟨.ref m, rfl, m, _, rfl, dgK (x02 _ _ MS.hm) (mkS_nodes _ _ _ _), nb, rfl, ⟨_, Evl.sq_of (x02 _ _ MS.hn)⟩, fun L hL => lc_list (K := K) (a := nb) (xs := dots.map V.str)
      (fun i H' => Evl.Ex H2 H' ∧ H' L = some (.lst ((moving es (dots.take i) o n).map V.str))) ⟨Evl.Ex.new hL, upd_same⟩ (fun i H' _ h => Evl.sq_of (h.1 _ _ (x02 _ _ MS.hn))) ?_ ?_⟩
    · rintro i y H3 hi ⟨x3, l3⟩
      obtain ⟨z, hz, rfl⟩ := str_at hi
      have zd := List.mem_of_getElem? hz
      have et : moving es (dots.take (i + 1)) o n = moving es (dots.take i) o n ++ if (diffB es o n z).any id then [z] else [] := by
        unfold moving
        rw [List.take_add_one, hz, List.filter_append]
        show _ ++ List.filter _ [z] = _
        rw [List.filter_cons]
        rfl
      have dl : (moving es (dots.take i) o n).length ≤ 100 := Nat.le_trans (List.length_filter_le _ _) (by rw [List.length_take]; omega)
      have x03 := x02.trans x3
      refine ⟨rfl, .ref D, rfl, D, rfl, ⟨_, Evl.sq_of (x3 _ _ d2)⟩, fun B hB => lc_list (K := K) (a := D) (xs := es.map pr)
        (fun j H' => Evl.Ex H3 H' ∧ ∃ ns : List Int, H' B = some (.lst (ns.map V.int)) ∧ ns.length ≤ j ∧ ns.isEmpty = !(diffB (es.take j) o n z).any id) ⟨Evl.Ex.new hB, [], upd_same, Nat.le_refl _, rfl⟩ (fun j H' _ h => Evl.sq_of (h.1 _ _ (x3 _ _ d2))) ?_ ?_⟩
      · rintro j y H4 hj ⟨x4, ns, b4, nl, ne4⟩
        rw [List.getElem?_map] at hj
        cases q : es[j]? with
        | none => rw [q] at hj; cases hj
        | some e =>
          rw [q] at hj
          cases hj
          have hjl := (List.getElem?_eq_some_iff.mp q).1
          obtain ⟨hv, p, po, pn, ep, pa⟩ := hpr e (List.mem_of_getElem? q)
          have pa4 := pa.ex (x03.trans x4)
          have c1 := look_ok pa4.o1 zd
          have c2 := look_ok pa4.o2 zd
          have et2 : diffB (es.take (j + 1)) o n z = diffB (es.take j) o n z ++ [!decide (look (o e) z = look (n e) z)] := by
            rw [List.take_add_one, q]
            exact diffB_snoc _ _ _ _ _
          rw [ep]
          refine ⟨p, _, rfl, Evl.st_of pa4.hp, rfl, _, _, rfl, _, [], rfl, rfl, rfl, ?_⟩
          refine ⟨.ref po, rfl, .str z, rfl, po, _, rfl, dgK (k := Sum.inr z) pa4.ho c1.2, .ref pn, rfl, .str z, rfl, pn, _, rfl, dgK (k := Sum.inr z) pa4.hn c2.2, scal_place c1.1 c2.1, _, rfl, ?_⟩
          by_cases q : look (o e) z = look (n e) z
          · rw [decide_eq_true q] at et2 ⊢
            refine iteF ⟨x4, ns, b4, by omega, ?_⟩
            rw [et2, ne4, List.any_append]
            simp
          · rw [decide_eq_false q] at et2 ⊢
            refine iteT ⟨_, b4, by rw [List.length_map]; exact small1000 (by omega), x4.mut hB, ns ++ [1], ?_, by simp; omega, ?_⟩
            · rw [upd_same, List.map_append]
              rfl
            · rw [et2, List.any_append]
              simp
      · rintro H4 ⟨x4, ns, b4, nl, ne4⟩
        rw [List.length_map, List.take_length] at ne4
        rw [List.length_map] at nl
        refine ⟨Nat.zero_le _, fun p hp => ?_⟩
        have x5 : Evl.Ex H4 (upd H4 p (.lst [])) := Evl.Ex.new hp
        obtain ⟨dd, g1, g2, g3⟩ := data_list (K := K) (Evl.sq_of (x5 _ _ b4)) fun v hv => by
          obtain ⟨i, _, rfl⟩ := List.mem_map.mp hv
          exact ⟨.int i, .int i, rfl, Nat.zero_le _⟩
        refine ⟨dd, .list [], g1, .lst (Evl.sq_of upd_same) .nil, g2, by rfl, _, rfl, ?_⟩
        rw [g3, show (ns.map V.int).isEmpty = ns.isEmpty by cases ns <;> rfl, ne4, Bool.not_not]
        have x45 := x4.trans x5
        have l5 := x45 _ _ l3
        generalize upd H4 p (.lst []) = H5 at x45 l5
        by_cases q : (diffB es o n z).any id = true
        · rw [q] at et ⊢
          refine iteT ?_
          refine ⟨.str z, rfl, _, l5, by rw [List.length_map]; exact small1000 (by omega), (x3.trans x45).mut hL, ?_⟩
          rw [upd_same, et, List.map_append]
          rfl
        · have q' : (diffB es o n z).any id = false := by cases h : (diffB es o n z).any id with | true => exact absurd h q | false => rfl
          rw [q'] at et ⊢
          refine iteF ⟨x3.trans x45, ?_⟩
          rw [l5, et]
          simp
    · rintro H3 ⟨x3, l3⟩
      rw [List.length_map, List.take_length] at l3
      exact k L H3 (x02.trans x3) (ex_none x02 hL) l3
end
end Rw
end T_BC

section T_JO
set_option Elab.async false
set_option linter.all false
set_option maxRecDepth 100000
set_option maxHeartbeats 4000000
namespace Rw
open PySem L2 PyProof.Rows
section
variable {P : Program} {w : World} {K : PySem.W.Frag} {mg : Str → Option Value} {base : Heap}
/-! ### joined -/
def spJoined : Sp := fun vs H Q _ => ∃ (a b : Addr) (zs ys : List Str), vs = [.ref a, .ref b] ∧ SqT K H a (zs.map V.str) ∧ SqT K H b (ys.map V.str) ∧ zs.length + ys.length ≤ 60 ∧
  ∀ (p : Addr) (H' : Hp) (js : List Str), Evl.Ex H H' → H p = none → H' p = some (.tup (js.map V.str)) → js.Perm (zs ++ ys) → sortedS js = true → Q (.ref p) H'
abbrev nJoined : List Str := ["lot", "other"]
end
end Rw
end T_JO

section T_S3
set_option Elab.async false
set_option linter.all false
set_option maxRecDepth 100000
set_option maxHeartbeats 4000000
namespace Rw
open PySem PySem.Spec PyProof.Rows
/-! ### rows of texts, one ahead of another -/
def lexS : List Str → List Str → Bool
  | [], [] => false
  | [], _ :: _ => true
  | _ :: _, [] => false
  | x :: r, y :: q => if x = y then lexS r q else decide (x.cps.toList < y.cps.toList)
theorem lexS_step (x y : Str) (r q : List Str) : lexS (x :: r) (y :: q) = if x = y then lexS r q else decide (x.cps.toList < y.cps.toList) := rfl
theorem txt_anti {x y : Str} (h1 : ¬ x.cps.toList < y.cps.toList) (h2 : ¬ y.cps.toList < x.cps.toList) : x = y := by
  have e : x.cps.toList = y.cps.toList := List.le_antisymm h2 h1
  cases x
  cases y
  exact congrArg Str.mk (Array.toList_inj.mp e)
theorem lexS_self : ∀ r : List Str, lexS r r = false
  | [] => rfl
  | x :: r => by rw [lexS_step, if_pos rfl]; exact lexS_self r
theorem lexS_no : ∀ {r q : List Str}, lexS r q = true → lexS q r = false
  | [], [], h => nomatch h
  | [], _ :: _, _ => rfl
  | _ :: _, [], h => nomatch h
  | x :: r, y :: q, h => by
    rw [lexS_step] at h ⊢
    by_cases e : x = y
    · rw [if_pos e] at h
      rw [if_pos e.symm]
      exact lexS_no h
    · rw [if_neg e, decide_eq_true_eq] at h
      rw [if_neg (fun z => e z.symm)]
      exact decide_eq_false fun z => List.lt_irrefl _ (List.lt_trans h z)
theorem lexS_tr : ∀ {r q p : List Str}, lexS q r = false → lexS p q = false → lexS p r = false
  | [], [], [], _, _ => rfl
  | [], [], _ :: _, _, _ => rfl
  | [], _ :: _, [], _, h => nomatch h
  | [], _ :: _, _ :: _, _, _ => rfl
  | _ :: _, [], _, h, _ => nomatch h
  | _ :: _, _ :: _, [], _, h => nomatch h
  | x :: r, y :: q, z :: p, h1, h2 => by
    rw [lexS_step] at h1 h2 ⊢
    by_cases e1 : y = x
    · subst e1
      rw [if_pos rfl] at h1
      by_cases e2 : z = y
      · subst e2
        rw [if_pos rfl] at h2 ⊢
        exact lexS_tr h1 h2
      · rw [if_neg e2] at h2 ⊢
        exact h2
    · rw [if_neg e1, decide_eq_false_iff_not] at h1
      by_cases e2 : z = y
      · subst e2
        rw [if_neg e1]
        exact decide_eq_false h1
      · rw [if_neg e2, decide_eq_false_iff_not] at h2
        by_cases e3 : z = x
        · subst e3
          exact absurd (txt_anti h1 h2) e1
        · rw [if_neg e3]
          exact decide_eq_false fun h3 => List.le_trans (show x.cps.toList ≤ y.cps.toList from h1) (show y.cps.toList ≤ z.cps.toList from h2) h3
theorem lexS_tot : ∀ {r q : List Str}, lexS r q = false → lexS q r = false → r = q
  | [], [], _, _ => rfl
  | [], _ :: _, h, _ => nomatch h
  | _ :: _, [], _, h => nomatch h
  | x :: r, y :: q, h1, h2 => by
    rw [lexS_step] at h1 h2
    by_cases e : x = y
    · subst e
      rw [if_pos rfl] at h1 h2
      rw [lexS_tot h1 h2]
    · rw [if_neg e, decide_eq_false_iff_not] at h1
      rw [if_neg (fun z => e z.symm), decide_eq_false_iff_not] at h2
      exact absurd (txt_anti h1 h2) e
/-- first by the number, then by the row -/
def numRow (p q : Int × List Str) : Bool := if p.1 = q.1 then lexS p.2 q.2 else decide (p.1 < q.1)
theorem numRow_swo {α : Type} (k : α → Int × List Str) : SrtO.Swo fun a b => numRow (k a) (k b) := by
  refine ⟨fun a b h => ?_, fun a b c h1 h2 => ?_⟩
  · unfold numRow at h ⊢
    by_cases e : (k a).1 = (k b).1
    · rw [if_pos e] at h
      rw [if_pos e.symm]
      exact lexS_no h
    · rw [if_neg e, decide_eq_true_eq] at h
      rw [if_neg (fun z => e z.symm)]
      exact decide_eq_false (by omega)
  · unfold numRow at h1 h2 ⊢
    by_cases e1 : (k b).1 = (k a).1
    · rw [if_pos e1] at h1
      by_cases e2 : (k c).1 = (k b).1
      · rw [if_pos e2] at h2
        rw [if_pos (e2.trans e1)]
        exact lexS_tr h1 h2
      · rw [if_neg e2, decide_eq_false_iff_not] at h2
        rw [if_neg (fun z => e2 (z.trans e1.symm))]
        exact decide_eq_false (by omega)
    · rw [if_neg e1, decide_eq_false_iff_not] at h1
      by_cases e2 : (k c).1 = (k b).1
      · rw [if_neg (fun z => e1 (e2.symm.trans z))]
        exact decide_eq_false (by omega)
      · rw [if_neg e2, decide_eq_false_iff_not] at h2
        rw [if_neg (by omega)]
        exact decide_eq_false (by omega)
/-! ### tuples of texts: < -/
section
open PySem.SeqAt
open PySem.AutoSeq1 (wpAny_loadPart')
open PySem.MeetsSeq PySem.MeetsSeq2 PySem.MeetsSeq3
theorem tupS_lt (p q : Addr) (us vs : Array Value) (k1 k2 : Nat) (d1 d2 : Option Addr) (z1 z2 : Array (Option Value)) (xs ys : List Str) (hx : StrsAre us.toList xs) (hy : StrsAre vs.toList ys) :
    Meets (Builtin.«tuple.__lt__» ⟨[.ref p, .ref q], []⟩)
      (fun _ R s => s.heap.get? p = some { cls := .type "tuple", dict := d1, data := .seq us k1, slots := z1 } ∧ s.heap.get? q = some { cls := .type "tuple", dict := d2, data := .seq vs k2, slots := z2 } ∧ R (.ok (.ret (.bool (lexS xs ys)))) s) :=
  .of_wp fun prog w A R s h => by
    obtain ⟨hp, gs, dr, tk, os⟩ := s
    obtain ⟨at_p, at_q, fin⟩ := h
    have sub := AutoSeq1.sub_tuple_tuple
    have l1 : us.size = xs.length := by rw [← hx.len_eq, Array.length_toList]
    have l2 : vs.size = ys.length := by rw [← hy.len_eq, Array.length_toList]
    wp_walk using wpAny_loadPart' at_p, wpAny_loadPart' at_q, wpAny_forIn_list _ (fun more b t => b.1 = none ∧ t = ⟨hp, gs, dr, tk, os⟩ ∧ ∃ (as bs : List Value) (xs' ys' : List Str), more = as.zip bs ∧
      StrsAre as xs' ∧ StrsAre bs ys' ∧ xs'.length + vs.size = ys'.length + us.size ∧ R (.ok (.ret (.bool (lexS xs' ys')))) ⟨hp, gs, dr, tk, os⟩) _
    case turn =>
      rintro ⟨u, v⟩ more b t ⟨b0, rfl, as, bs, xs', ys', em, ha, hb, hl, hR⟩
      cases ha with
      | nil => rw [List.zip_nil_left] at em; cases em
      | cons x t1 ha2 =>
        cases hb with
        | nil => rw [List.zip_nil_right] at em; cases em
        | cons y t2 hb2 =>
          rw [List.zip_cons_cons] at em
          injection em with e1 e2
          injection e1 with e3 e4
          subst e3 e4
          rw [lexS_step] at hR
          simp only [List.length_cons] at hl
          have same := SeqAt.EqAt.str_str (A := A.in1) (s := ⟨hp, gs, dr, tk, os⟩) x t1 y t2
          refine wpAny_bind (same prog w _ _ ?_)
          by_cases e : x = y
          · rw [show (x == y) = true from beq_iff_eq.mpr e]
            rw [if_pos e] at hR
            wp_walk
            exact ⟨rfl, rfl, _, _, _, _, e2, ha2, hb2, by omega, hR⟩
          · rw [show (x == y) = false from beq_eq_false_iff_ne.mpr e]
            rw [if_neg e] at hR
            have less := DT.rcLt_str A.in1 ⟨hp, gs, dr, tk, os⟩ x t1 y t2 prog w
            wp_walk using less
            exact ⟨_, rfl, by simpa using hR⟩
    case fin =>
      rintro ⟨c1, c2⟩ t ⟨b0, rfl, as, bs, xs', ys', em, ha, hb, hl, hR⟩
      simp only at b0
      subst b0
      have ev : lexS xs' ys' = decide (us.size < vs.size) := by
        cases ha with
        | nil =>
          cases hb with
          | nil =>
            simp only [List.length_nil] at hl
            exact (decide_eq_false (by omega)).symm
          | cons y t2 hb2 =>
            simp only [List.length_nil, List.length_cons] at hl
            exact (decide_eq_true (by omega)).symm
        | cons x t1 ha2 =>
          cases hb with
          | nil =>
            simp only [List.length_nil, List.length_cons] at hl
            exact (decide_eq_false (by omega)).symm
          | cons y t2 hb2 =>
            rw [List.zip_cons_cons] at em
            cases em
      rw [ev] at hR
      wp_walk
      exact ⟨_, rfl, by simpa [Builtin.Tuple.tupleCompareSizes] using hR⟩
    case h =>
      exact ⟨rfl, rfl, us.toList, vs.toList, xs, ys, rfl, hx, hy, by omega, fin⟩
end
section
variable {prog : Program} {w : World} {A : Around} {E : Value → Shared → Prop} {s : Shared}
theorem less_tupS {p q : Addr} {us vs : Array Value} {xs ys : List Str} {Q : Value → Shared → Prop} (hp : IsTup s.heap p us) (hq : IsTup s.heap q vs) (hx : StrsAre us.toList xs) (hy : StrsAre vs.toList ys) (room : A.units < cLine)
    (h : Q (.bool (lexS xs ys)) s) : wpAny (model prog w) A (compareOp .Lt (.ref p) (.ref q)) Q E s := by
  obtain ⟨⟨c1, e1, t1, z1⟩, at_p, x1, k1, y1⟩ := id hp
  obtain ⟨⟨c2, e2, t2, z2⟩, at_q, x2, k2, y2⟩ := id hq
  simp only at x1 y1 x2 y2
  subst x1 y1 x2 y2
  exact richCompare_meets_room (op := .Lt) ⟨_, at_p, rfl⟩ ⟨_, at_q, rfl⟩ PySem.F.slot_tuple_lt PySem.F.entry_tuple_lt (PySem.F.args_tuple_lt_2 _ _) (tupS_lt p q us vs k1 k2 e1 e2 z1 z2 xs ys hx hy)
    ⟨at_p, at_q, show Value.bool (lexS xs ys) ≠ Value.notImplemented ∧ Q (.bool (lexS xs ys)) s from ⟨(fun z => nomatch z), h⟩⟩ room
/-- a tuple of a number and a tuple of texts -/
def IsNR (h : Heap) (v : Value) (k : Int × List Str) : Prop := ∃ (a b : Addr) (t : Tok) (us : Array Value), v = .ref a ∧ IsTup h a #[.int k.1 t, .ref b] ∧ IsTup h b us ∧ StrsAre us.toList k.2
theorem IsNR.on {h h' : Heap} {v : Value} {k : Int × List Str} (x : IsNR h v k) (keep : ∀ b o, h.get? b = some o → o.cls = .type "tuple" → h'.get? b = some o) : IsNR h' v k := by
  obtain ⟨a, b, t, us, e, ⟨o, h1, h2, h3⟩, ⟨o2, g1, g2, g3⟩, r⟩ := x
  exact ⟨a, b, t, us, e, ⟨o, keep _ _ h1 h2, h2, h3⟩, ⟨o2, keep _ _ g1 g2, g2, g3⟩, r⟩
theorem key_row {h : Heap} {b : Addr} {us : Array Value} {xs : List Str} (hb : IsTup h b us) (hx : StrsAre us.toList xs) : IsTupleKey (L2.mixKind prog w) h (xs.map Sum.inr) b := by
  obtain ⟨o, h1, h2, n, h3⟩ := hb
  refine ⟨o, us, n, h1, h2, h3, ?_⟩
  have go : ∀ {vs : List Value} {zs : List Str}, StrsAre vs zs → ItemsAre (L2.mixKind prog w) (zs.map Sum.inr) vs := by
    intro vs zs q
    induction q with
    | nil => exact .nil
    | cons y t _ ih => exact .cons (L2.mixKind_str prog w y t) ih
  exact go hx
theorem nr_cmp {vs : List Value} {k : Value → Int × List Str} (room : A.units < cLine) (hp : ∀ v ∈ vs, IsNR s.heap v (k v)) : SrtO.Cmp prog w A s (tuples' true) (fun p => p.1 ∈ vs) (SrtO.lt2 fun v u => numRow (k v) (k u)) := by
  intro p q m1 m2
  have h1 := hp _ m1
  have h2 := hp _ m2
  show wpAny (model prog w) A (keyLt' (tuples' true) p.1 q.1) (fun r t => t = s ∧ r = numRow (k p.1) (k q.1)) (fun _ _ => False) s
  generalize k p.1 = kp at h1 ⊢
  generalize k q.1 = kq at h2 ⊢
  obtain ⟨i, xs⟩ := kp
  obtain ⟨j, ys⟩ := kq
  obtain ⟨a, b, t, us, ep, ⟨o, g1, g2, n, g3⟩, tb, rs⟩ := h1
  obtain ⟨a', b', t', us', eq, ⟨o', g1', g2', n', g3'⟩, tb', rs'⟩ := h2
  rw [ep, eq]
  refine PySem.W.kat_lt g1 g3 g1' g3' ?_
  show PySem.W.KatLex prog w A true (decide (2 < 2)) _ [(.int i t, .int j t'), (.ref b, .ref b')] 0 s
  refine PySem.W.kat_cons (SeqAt.EqAt.int_int i t j t' prog w _ _ ?_)
  refine PySem.W.kat_go (fun e1 => ?_) (fun e1 => ?_)
  · have ei : i = j := by simpa using e1
    refine PySem.W.kat_yes (PySem.W.kat_cons (wpAny_eqBool_tuple (knd := L2.mixKind prog w) room (key_row tb rs) (key_row tb' rs') ?_))
    have val : numRow (i, xs) (j, ys) = lexS xs ys := by unfold numRow; exact if_pos ei
    refine PySem.W.kat_go (fun e2 => ?_) (fun e2 => ?_)
    · have e3 : xs = ys := (List.map_inj_right (fun _ _ z => Sum.inr.inj z)).mp (of_decide_eq_true e2)
      exact PySem.W.kat_yes (PySem.W.kat_nil ⟨rfl, by rw [val, e3, lexS_self]; rfl⟩)
    · refine PySem.W.kat_no (PySem.W.kat_one _ _ (less_tupS tb tb' rs rs' room ?_))
      exact (show s = s ∧ lexS xs ys = numRow (i, xs) (j, ys) from ⟨rfl, val.symm⟩)
  · have ei : ¬ i = j := by simpa using e1
    have val : numRow (i, xs) (j, ys) = decide (i < j) := by unfold numRow; exact if_neg ei
    exact PySem.W.kat_no (oneLt_int ⟨rfl, val.symm⟩)
theorem nr_firsts {h : Heap} {k : Value → Int × List Str} : ∀ {vs : List Value}, (∀ v ∈ vs, IsNR h v (k v)) → ∃ fs : List Value, PySem.W.KatTups h vs fs ∧ fs.length = vs.length ∧ ∀ f ∈ fs, ∃ i t, f = Value.int i t
  | [], _ => ⟨[], PySem.W.KatTups.nil, rfl, fun _ z => nomatch z⟩
  | v :: vs, hp => by
    obtain ⟨fs, g1, g2, g3⟩ := nr_firsts (vs := vs) fun u hu => hp u (List.mem_cons_of_mem _ hu)
    obtain ⟨a, b, t, us, rfl, ⟨o, h1, h2, n, h3⟩, _⟩ := hp v List.mem_cons_self
    refine ⟨.int (k (.ref a)).1 t :: fs, PySem.W.KatTups.cons h1 h2 h3 rfl g1, congrArg (· + 1) g2, fun f hf => ?_⟩
    rcases List.mem_cons.mp hf with rfl | hf
    · exact ⟨_, t, rfl⟩
    · exact g3 f hf
theorem nr_sortable {a : Addr} {vs : List Value} {k : Value → Int × List Str} (room : A.units < cLine) (h0 : 0 < vs.length) (hp : ∀ v ∈ vs, IsNR s.heap v (k v)) (ha : ∀ o, s.heap.get? a = some o → o.cls ≠ .type "tuple") : SrtO.SortableO prog w A s a vs fun v u => numRow (k v) (k u) := by
  intro h' keep
  have hp' : ∀ v ∈ vs, IsNR h' v (k v) := fun v hv => (hp v hv).on fun b o e c => keep b o (fun z => by subst z; exact ha o e c) e
  obtain ⟨fs, g1, g2, g3⟩ := nr_firsts hp'
  refine ⟨tuples' true, fun Q E hq => ?_, nr_cmp (s := { s with heap := h' }) room hp'⟩
  refine PySem.W.kat_kind (T := .type "int") g1 (by omega) (fun f hf => ?_) (by rfl) ?_
  · obtain ⟨i, t, rfl⟩ := g3 f hf
    exact PySem.W.Looks.now
  · rw [show (Value.type "int" != Value.type "tuple") = true by first | decide +kernel | rfl]
    exact hq
end
end Rw
namespace L2
open PySem PySem.Spec PyProof.Rows
/-- sorted(xs), xs a list of tuples of a number and a tuple of texts: a new list, in order -/
def rSortNR (K : PySem.W.Frag) : List V → Hp → VK → Prop := fun vs H Q => ∃ (a : Addr) (xs : List V) (k : V → Int × List Str), vs = [V.ref a] ∧ SqL K H a xs ∧ (∀ x ∈ xs, ∃ t b, x = V.ref t ∧ H t = some (.tup [.int (k x).1, .ref b]) ∧ H b = some (.tup ((k x).2.map V.str))) ∧
  ∀ ys p, ys.Perm xs → SrtO.Srtd (fun x y => Rw.numRow (k x) (k y)) ys → H p = none → Q (.ref p) (upd H p (.lst ys))
theorem cr_sortNR {X : Cx} (room : X.A.units + 2 < cLine) : CallR X (.builtin "sorted") (rSortNR X.K) := by
  intro pins s σ H vs us Q I r h
  obtain ⟨a, xs, k, rfl, hs, hx, q⟩ := h
  obtain ⟨its, rv, hl, hz⟩ := I.list hs
  obtain ⟨u, rfl, ru⟩ := vals1 r
  obtain rfl : u = Value.ref a := ru
  obtain ⟨e1, e2⟩ := refs_back rv fun x m => by
    obtain ⟨t, _, e, _⟩ := hx x m
    exact ⟨t, e⟩
  have all : ∀ v ∈ its, Rw.IsNR s.heap v (k (backV v)) := fun v hv => by
    obtain ⟨t, rfl⟩ := e2 v hv
    have hm : V.ref t ∈ xs := by rw [e1]; exact List.mem_map.mpr ⟨_, hv, rfl⟩
    obtain ⟨t', b, e, ht, hb⟩ := hx _ hm
    cases e
    obtain ⟨_, i2, r2, o, ho, hc, n, hd⟩ := I.hok _ _ ht
    obtain ⟨u1, u2, rfl, ri, rj⟩ := vals2 r2
    obtain ⟨t1, rfl⟩ := ri
    cases rj
    obtain ⟨_, i3, r3, o3, ho3, hc3, n3, hd3⟩ := I.hok _ _ hb
    exact ⟨t, b, t1, i3.toArray, rfl, ⟨o, ho, hc, n, hd⟩, ⟨o3, ho3, hc3, n3, hd3⟩, Vals.strs r3⟩
  refine SrtO.sorted_ord (Rw.numRow_swo fun v => k (backV v)) hl.isList (by rw [← rv.length]; exact hz) (fun h2 h1 d hd kk => ?_) fun out hs1 hb1 => ?_
  · refine Rw.nr_sortable (s := { s with heap := h1 }) (by show X.A.units + 1 + 1 < cLine; omega) (by omega) (fun v hv => (all v hv).on fun b o e _ => (kk b o e).2) fun o e => ?_
    have e' : some o = some (seqObj "list" its.toArray 0) := e.symm.trans hd
    cases e'
    intro c
    exact absurd (Value.type.inj c) (by decide)
  · have h3 : ∀ u ∈ out, ∃ a, u = Value.ref a := fun u hu => e2 u (hb1.perm.mem_iff.mp hu)
    have hp : (out.map backV).Perm xs := by rw [e1]; exact hb1.perm.map _
    obtain ⟨n, hn⟩ := sortedAll_at s.heap its out.toArray
    refine ⟨.ref (s.heap.objs.size + 1), upd H (s.heap.objs.size + 1) (.lst (out.map backV)), I.laid (t' := s.toks) (fun b o e => sortedAll_old e) (Nat.le_succ _) ⟨?_, out, n, vals_back h3, hn⟩, rfl, q _ _ hp (SrtO.srtd_map (f := backV) (lt := fun x y => Rw.numRow (k x) (k y)) hs1) (I.hok.fresh (Nat.le_succ _))⟩
    rw [hp.length_eq]
    exact hz
end L2
end T_S3

section T_S8
set_option Elab.async false
set_option linter.all false
set_option maxRecDepth 100000
set_option maxHeartbeats 4000000
/-! sorted of tuples of texts by a key that is a lambda: first their length, then themselves -/
namespace Rw
open PySem PySem.Spec PyProof.Rows L2 SrtO Srt
/-- while the keys are made: kl the keys so far, one for each of the first items -/
structure KeySt (X : Cx) (H : Hp) (s : Shared) (kS a : Addr) (e1 : Nat) (xs : List V) (kt : V → List V) (i : Nat) (H' : Hp) (kl : List Value) (e : Nat) (s' : Shared) : Prop where
  un : Un (frs X.stack) [] H H' s.heap s'.heap
  hok : HOk X.prog X.w H' s'.heap
  os : s'.os = s.os
  bare : AllBare s'.gens
  hk : s'.heap.get? kS = some (seqObj "list" kl.toArray e)
  nk : H' kS = none
  ha : s'.heap.get? a = some (seqObj "list" #[] e1)
  na : H' a = none
  ex : ∀ b o, H b = some o → H' b = some o
  len : kl.length = i
  keys : ∀ (j : Nat) (u : Value), kl[j]? = some u → ∃ (p : Addr) (x : V), u = Value.ref p ∧ xs[j]? = some x ∧ H' p = some (.tup (kt x))
section
variable {X : Cx} {pins : List (Addr × Obj)} {σ : L2.St} {H : Hp} {s : Shared} {kS a fa : Addr} {e1 : Nat} {xs : List V} {kt : V → List V} {fo : Obj} {its : List Value} {A : Around} {E : Value → Shared → Prop}
theorem notFrame (I : Inv X pins σ H s) {b : Addr} (h : s.heap.objs.size ≤ b) : b ∉ frs X.stack := fun z => by
  rcases List.mem_cons.mp (I.stkSub _ z) with e | e
  · have h1 := I.lt
    rw [← e] at h1
    exact Nat.lt_irrefl _ (Nat.lt_of_lt_of_le h1 h)
  · exact I.nofs h e
theorem keys_made {P : PySem.Fin → Shared → Prop} {s0 : Shared} {H0 : Hp} (I : Inv X pins σ H s) (rv : Vals xs its) (hz : its.length ≤ sizeLine) (hfa : s.heap.get? fa = some fo) (nfa : H fa = none) (ffa : fa ∉ frs X.stack)
    (hsa : s.heap.objs.size ≤ a) (hsk : s.heap.objs.size ≤ kS) (hka : kS ≠ a)
    (turn : ∀ (j : Nat) (x : V) (v : Value) (H' : Hp) (s' : Shared), xs[j]? = some x → RelV x v → Inv X pins σ H' s' → (∀ b o, H b = some o → H' b = some o) → s'.heap.get? fa = some fo → H' fa = none →
      wpAny (model X.prog X.w) A (call (.ref fa) [v]) (CE X.stack X.prog X.w H' s' (fun w H'' => ∃ p, w = .ref p ∧ H' p = none ∧ H'' = upd H' p (.tup (kt x)))) (fun _ _ => False) s')
    (e0 : Nat) (K0 : KeySt X H s kS a e1 xs kt 0 H0 [] e0 s0)
    (h : ∀ (H' : Hp) (kl : List Value) (e : Nat) (s' : Shared), KeySt X H s kS a e1 xs kt its.length H' kl e s' → wpAny (model X.prog X.w) A (ksk_end a false its.toArray e1 (.ref kS) kl.toArray) P E s') :
    wpAny (model X.prog X.w) A (ksk_rest a (.ref fa) false its.toArray e1 (.ref kS)) P E s0 := by
  have nfk := notFrame I hsk
  have nfA := notFrame I hsa
  unfold ksk_rest
  refine wpAny_bind (wpAny_rule ?_)
  first
    | rw [List.forIn_toArray]
    | (rw [← Array.forIn_toList]; simp only [List.toList_toArray])
    | rw [← Array.forIn_toList]
  refine wpAny_bind (ksk_fold (fun i s' => ∃ H' kl e, KeySt X H s kS a e1 xs kt i H' kl e s') its 0 s0 ⟨H0, [], e0, K0⟩ ?step ?done)
  case step =>
    rintro j v s' hv ⟨H', kl, e, K⟩
    simp only [Nat.zero_add] at K ⊢
    obtain ⟨x, hx, rx⟩ : ∃ x, xs[j]? = some x ∧ RelV x v := by
      have hj : j < its.length := (List.getElem?_eq_some_iff.mp hv).1
      have hjx : j < xs.length := by rw [rv.length]; exact hj
      obtain ⟨u, hu, r⟩ := Vals.get (i := j) (x := xs[j]) rv (List.getElem?_eq_getElem hjx)
      rw [hv] at hu
      cases hu
      exact ⟨_, List.getElem?_eq_getElem hjx, r⟩
    have hjl : j < its.length := (List.getElem?_eq_some_iff.mp hv).1
    have I1 : Inv X pins σ H' s' := I.call' (ch := []) K.os K.un K.hok K.bare (fun _ z => absurd z (by simp))
    have f1 : s'.heap.get? fa = some fo := K.un.keep fa fo hfa nfa ffa (by simp)
    have f2 : H' fa = none := K.un.free fa fo hfa nfa (by simp)
    refine wpAny_bind (wpAny_attempt (wpAny_mono (turn j x v H' s' hx rx I1 K.ex f1 f2) (fun u s'' he => ?_) fun _ _ hF => hF.elim))
    obtain ⟨w', H2, os2, bare2, un2, hok2, rw2, p, rfl, hp, rfl⟩ := he
    obtain rfl : u = Value.ref p := rw2
    try dsimp only
    have un12 := K.un.trans un2
    have hk2 : s''.heap.get? kS = some (seqObj "list" kl.toArray e) := un2.keep kS _ K.hk K.nk nfk (by simp)
    have nk2 : (upd H' p (.tup (kt x))) kS = none := un2.free kS _ K.hk K.nk (by simp)
    have ha2 : s''.heap.get? a = some (seqObj "list" #[] e1) := un2.keep a _ K.ha K.na nfA (by simp)
    have na2 : (upd H' p (.tup (kt x))) a = none := un2.free a _ K.ha K.na (by simp)
    have kz : kl.toArray.size ≤ its.length := by
      rw [List.size_toArray, K.len]
      omega
    have s1 := Heap.SameBut.update s''.heap kS (Obj.mapSeq (·.push (Value.ref p)))
    obtain ⟨c2, hc2⟩ : ∃ c2, (s''.heap.update kS (Obj.mapSeq (·.push (Value.ref p)))).get? kS = some (seqObj "list" (kl.toArray.push (Value.ref p)) c2) := ⟨_, get?_update_seq hk2 (·.push (Value.ref p))⟩
    have ea : kl.toArray.push (Value.ref p) = (kl ++ [Value.ref p]).toArray := by simp
    refine wpAny_bind (listUpdate_at hk2 rfl ?_ (Nat.le_trans kz hz) (Nat.le_trans (Nat.le_of_eq (Array.size_push ..)) (by omega)))
    have other : ∀ b, b ≠ kS → (s''.heap.update kS (Obj.mapSeq (·.push (Value.ref p)))).get? b = s''.heap.get? b := fun b hb => s1.2 b hb
    have old : ∀ b o, s.heap.get? b = some o → b ≠ kS := fun b o q => Nat.ne_of_lt (Nat.lt_of_lt_of_le (Heap.lt_size q) hsk)
    have trk : ∀ b o, (upd H' p (.tup (kt x))) b = some o → b ≠ kS := fun b o q z => by
      rw [z, nk2] at q
      cases q
    refine wpAny_pure ⟨rfl, upd H' p (.tup (kt x)), kl ++ [Value.ref p], c2, ?_⟩
    refine ⟨⟨fun b o q n hb hx => ?_, fun b o q n hb hx => ?_, un12.free, fun b o q hx => ?_, un12.tups, un12.frzs, un12.tbls⟩, ?_, os2.trans K.os, bare2, ?_, nk2, ?_, na2, fun b o q => ?_, ?_, fun i u hu => ?_⟩
    · exact (other b (old b o q)).trans (un12.keep b o q n hb hx)
    · obtain ⟨sl, q2⟩ := un12.slot b o q n hb hx
      exact ⟨sl, (other b (old b o q)).trans q2⟩
    · obtain ⟨o', q2⟩ := un12.there b o q hx
      exact ⟨o', (other b (old b o q)).trans q2⟩
    · intro b o q
      refine (hok2 b o q).stay (fun c w2 hc q2 => (other c ?_).trans q2) (fun _ q => q) fun _ _ q => q
      rcases hc with z | z
      · rw [z]
        exact trk b o q
      · exact trk c _ z
    · rw [← ea]
      exact hc2
    · exact (other a hka.symm).trans ha2
    · have q1 := K.ex b o q
      rw [upd_ne (ne_of_none q1 hp)]
      exact q1
    · rw [List.length_append, K.len]
      rfl
    · by_cases hi : i < kl.length
      · rw [List.getElem?_append_left hi] at hu
        obtain ⟨p', x', r1, r2, r3⟩ := K.keys i u hu
        exact ⟨p', x', r1, r2, by rw [upd_ne (ne_of_none r3 hp)]; exact r3⟩
      · have hi2 : i = kl.length := by
          have := (List.getElem?_eq_some_iff.mp hu).1
          rw [List.length_append] at this
          simp only [List.length_cons, List.length_nil] at this
          omega
        subst hi2
        rw [List.getElem?_append_right (Nat.le_refl _), Nat.sub_self] at hu
        cases hu
        exact ⟨p, x, rfl, by rw [K.len]; exact hx, upd_same⟩
  case done =>
    rintro s' ⟨H', kl, e, K⟩
    simp only [Nat.zero_add] at K
    try dsimp only
    refine wpAny_bind (listItems_at K.hk rfl ?_)
    exact h H' kl e s' K
end
end Rw
end T_S8

section T_S9
set_option Elab.async false
set_option linter.all false
set_option maxRecDepth 100000
set_option maxHeartbeats 4000000
namespace Rw
open PySem PySem.Spec PyProof.Rows L2 SrtO Srt
/-- what a key tells: its number, its row -/
def unS : List V → List Str
  | [] => []
  | .str z :: r => z :: unS r
  | _ :: r => unS r
theorem unS_strs : ∀ zs : List Str, unS (zs.map V.str) = zs
  | [] => rfl
  | z :: zs => congrArg (List.cons z) (unS_strs zs)
def keyOf (H : Hp) (v : Value) : Int × List Str :=
  match v with
  | .ref p => match H p with
    | some (.tup [.int n, .ref b]) => match H b with
      | some (.tup vs) => (n, unS vs)
      | _ => (n, [])
    | _ => (0, [])
  | _ => (0, [])
theorem keyOf_at {H : Hp} {p b : Addr} {n : Int} {zs : List Str} (h1 : H p = some (.tup [.int n, .ref b])) (h2 : H b = some (.tup (zs.map V.str))) : keyOf H (.ref p) = (n, zs) := by
  unfold keyOf
  simp only [h1, h2, unS_strs]
section
variable {X : Cx} {pins : List (Addr × Obj)} {σ : L2.St} {H : Hp} {s : Shared} {kS a : Addr} {e1 : Nat} {xs : List V} {its : List Value} {A : Around} {E : Value → Shared → Prop} {k : V → List Str}
abbrev ktOf (k : V → List Str) (x : V) : List V := [.int ((k x).length : Int), x]
abbrev lenRow (k : V → List Str) (x : V) : Int × List Str := (((k x).length : Int), k x)
theorem key_nr {P : Program} {w : World} {H' : Hp} {h : Heap} (hok : HOk P w H' h) {p b : Addr} {n : Int} {zs : List Str} (h1 : H' p = some (.tup [.int n, .ref b])) (h2 : H' b = some (.tup (zs.map V.str))) : IsNR h (.ref p) (n, zs) := by
  obtain ⟨_, i2, r2, o, ho, hc, m, hd⟩ := hok _ _ h1
  obtain ⟨u1, u2, rfl, ri, rj⟩ := vals2 r2
  obtain ⟨t1, rfl⟩ := ri
  cases rj
  obtain ⟨_, i3, r3, o3, ho3, hc3, n3, hd3⟩ := hok _ _ h2
  exact ⟨p, b, t1, i3.toArray, rfl, ⟨o, ho, hc, m, hd⟩, ⟨o3, ho3, hc3, n3, hd3⟩, Vals.strs r3⟩
/-- each pair of a key and an item -/
theorem pair_key {H' : Hp} {kl : List Value} {e : Nat} {s' : Shared} (K : KeySt X H s kS a e1 xs (ktOf k) its.length H' kl e s') (rv : Vals xs its) (hx : ∀ x ∈ xs, ∃ b, x = V.ref b ∧ H b = some (.tup ((k x).map V.str))) {q : Keyed} (hq : q ∈ kl.zip its) :
    ∃ x ∈ xs, RelV x q.2 ∧ keyOf H' q.1 = lenRow k x ∧ IsNR s'.heap q.1 (lenRow k x) := by
  obtain ⟨j, hj, ej⟩ := List.getElem_of_mem hq
  rw [List.getElem_zip] at ej
  rw [List.length_zip] at hj
  have h1 : kl[j]? = some q.1 := by rw [List.getElem?_eq_getElem (by omega)]; exact congrArg some (congrArg Prod.fst ej)
  have h2 : its[j]? = some q.2 := by rw [List.getElem?_eq_getElem (by omega)]; exact congrArg some (congrArg Prod.snd ej)
  obtain ⟨p, x, ep, ex, hp⟩ := K.keys j _ h1
  have hm := List.mem_of_getElem? ex
  obtain ⟨b, rfl, hb⟩ := hx x hm
  obtain ⟨u, hu, ru⟩ := Vals.get rv ex
  rw [h2] at hu
  cases hu
  have hb' := K.ex _ _ hb
  rw [ep]
  exact ⟨.ref b, hm, ru, keyOf_at hp hb', key_nr K.hok hp hb'⟩
theorem nr_any {vs : List Value} {prog : Program} {w : World} {B : Around} {s1 : Shared} {kk : Value → Int × List Str} (room : B.units < cLine) (hp : ∀ v ∈ vs, IsNR s1.heap v (kk v)) {P : Keyed → Prop} (hP : ∀ p, P p → p.1 ∈ vs) :
    Cmp prog w B s1 (tuples' true) P (lt2 fun v u => numRow (kk v) (kk u)) := fun p q m1 m2 => nr_cmp (A := B) room hp p q (hP p m1) (hP q m2)
theorem keyed_end {P : PySem.Fin → Shared → Prop} {H' : Hp} {kl : List Value} {e : Nat} {s' : Shared} (K : KeySt X H s kS a e1 xs (ktOf k) its.length H' kl e s') (rv : Vals xs its) (hz : its.length ≤ sizeLine) (hka : kS ≠ a) (room : A.units < cLine)
    (hx : ∀ x ∈ xs, ∃ b, x = V.ref b ∧ H b = some (.tup ((k x).map V.str)))
    (h : ∀ ps : List Keyed, ps.Perm (kl.zip its) → Srtd (lt2 fun v u => numRow (keyOf H' v) (keyOf H' u)) ps →
      P (.done (.ret .none)) { s' with heap := (s'.heap.update kS (Obj.mapSeq fun _ => (#[] : Array Value))).update a (Obj.mapSeq fun _ => (ps.map (·.2)).toArray) }) :
    wpAny (model X.prog X.w) A (ksk_end a false its.toArray e1 (.ref kS) kl.toArray) P E s' := by
  have hzl : kl.length = its.length := K.len
  have hzs : (kl.toArray.zip its.toArray).size = its.length := by rw [Array.size_zip, List.size_toArray, List.size_toArray, hzl, Nat.min_self]
  have ez : (kl.toArray.zip its.toArray).toList = kl.zip its := by rw [ksk_zip]
  have allNR : ∀ v ∈ kl, IsNR s'.heap v (keyOf H' v) := fun v hv => by
    obtain ⟨j, hj, ej⟩ := List.getElem_of_mem hv
    have hm : (v, its[j]'(by omega)) ∈ kl.zip its := by
      have : (kl.zip its)[j]'(by rw [List.length_zip]; omega) = (v, its[j]'(by omega)) := by rw [List.getElem_zip, ej]
      rw [← this]
      exact List.getElem_mem _
    obtain ⟨x, _, _, e2, e3⟩ := pair_key K rv hx hm
    rw [e2]
    exact e3
  have tail : ∀ st : SortSt, (arrOf st).toList.Perm (kl.zip its) → Srtd (lt2 fun v u => numRow (keyOf H' v) (keyOf H' u)) (arrOf st).toList → failedOf st = none →
      wpAny (model X.prog X.w) A (ksk_tail a false e1 (.ref kS) st) P E s' := fun st hp hs hf => by
    have na1 : (s'.heap.update kS (Obj.mapSeq fun _ => (#[] : Array Value))).get? a = some (seqObj "list" #[] e1) := ((Heap.SameBut.update s'.heap kS (Obj.mapSeq fun _ => (#[] : Array Value))).2 a hka.symm).trans K.ha
    have hsz2 : (arrOf st).size = its.length := by
      have := hp.length_eq
      rw [Array.length_toList, List.length_zip, hzl, Nat.min_self] at this
      exact this
    have eo : (if false = true then ((arrOf st).map (·.2)).reverse else (arrOf st).map (·.2)) = (((arrOf st).toList).map (·.2)).toArray := by
      rw [if_neg (by decide)]
      apply Array.ext'
      rw [Array.toList_map]
    unfold ksk_tail
    try dsimp only
    refine wpAny_bind (listUpdate_at K.hk rfl ?_ (by rw [List.size_toArray, hzl]; exact hz) (Nat.zero_le _))
    refine wpAny_bind (wpAny_letGo ?_)
    refine wpAny_bind (seqEpoch_at na1 rfl ?_)
    rw [eo]
    refine wpAny_bind (listUpdate_at na1 rfl ?_ (Nat.zero_le _) (by rw [List.size_toArray, List.length_map, Array.length_toList, hsz2]; omega))
    rw [hf]
    simp only [bne_self_eq_false, Bool.false_eq_true, if_false]
    exact wpAny_pure (h _ hp hs)
  unfold ksk_end
  try dsimp only
  rw [if_neg (show ¬ (false = true) by decide), if_neg (show ¬ (false = true) by decide)]
  by_cases h2 : its.toArray.size < 2
  · rw [if_pos h2, if_pos h2]
    refine wpAny_bind (wpAny_pure ?_)
    rw [StateT.run_pure]
    refine wpAny_bind (wpAny_pure ?_)
    try dsimp only
    refine tail (SortSt.mk' general' (kl.toArray.zip its.toArray) #[] 7 none) (by show ((kl.toArray.zip its.toArray).toList).Perm _; rw [ez]) ?_ rfl
    show Srtd _ (kl.toArray.zip its.toArray).toList
    have hl : (kl.toArray.zip its.toArray).toList.length < 2 := by
      rw [Array.length_toList, hzs]
      rw [List.size_toArray] at h2
      exact h2
    generalize (kl.toArray.zip its.toArray).toList = L at hl
    match L, hl with
    | [], _ => exact List.Pairwise.nil
    | [v], _ => exact List.pairwise_singleton _ _
  · rw [if_neg h2, if_neg h2]
    rw [List.size_toArray] at h2
    obtain ⟨fs, g1, g2, g3⟩ := nr_firsts (h := s'.heap) allNR
    have hkind : ∀ (Q : SortKind → Shared → Prop) (E : Value → Shared → Prop), Q (tuples' true) s' → wpAny (model X.prog X.w) A (keyKind' kl.toArray) Q E s' := fun Q E hq => by
      refine PySem.W.kat_kind (T := .type "int") g1 (by omega) (fun f hf => ?_) (by rfl) ?_
      · obtain ⟨i, t, rfl⟩ := g3 f hf
        exact PySem.W.Looks.now
      · rw [show (Value.type "int" != Value.type "tuple") = true by first | decide +kernel | rfl]
        exact hq
    refine wpAny_bind (hkind _ _ ?_)
    have hall : AllL (fun p : Keyed => p.1 ∈ kl) (kl.toArray.zip its.toArray).toList := fun p hm => by
      rw [ez] at hm
      obtain ⟨p1, p2⟩ := p
      exact (List.of_mem_zip hm).1
    refine wpAny_bind (wpAny_mono (wpS_sortO (st0 := SortSt.mk' (tuples' true) (kl.toArray.zip its.toArray) #[] 7 none)
      (Q := fun _ st' => Srtd (lt2 fun v u => numRow (keyOf H' v) (keyOf H' u)) (arrOf st').toList ∧ Stb (lt2 fun v u => numRow (keyOf H' v) (keyOf H' u)) (arrOf st').toList (kl.toArray.zip its.toArray).toList ∧ failedOf st' = none) (swo2 (numRow_swo fun v => keyOf H' v))
      (nr_any room allNR fun p hp => hp) rfl hall rfl rfl fun st' a1 a2 a3 => ⟨a1, a2, a3⟩) ?_ fun _ _ e => e)
    rintro ⟨⟨⟩, st'⟩ s2 ⟨rfl, hp1, hp2, hf⟩
    try dsimp only
    have hp3 := hp2.perm
    rw [ez] at hp3
    exact tail st' hp3 hp1 hf
end
end Rw
end T_S9

section T_SA
set_option Elab.async false
set_option linter.all false
set_option maxRecDepth 100000
set_option maxHeartbeats 4000000
namespace Rw
open PySem PySem.Spec PyProof.Rows L2 SrtO Srt
section
variable {X : Cx} {pins : List (Addr × Obj)} {σ : L2.St} {H : Hp} {s : Shared} {fa l : Addr} {xs : List V} {fo : Obj} {k : V → List Str} {E : Value → Shared → Prop}
/-- the keyed pairs, sorted, tell the items sorted -/
theorem items_srtd {H' : Hp} {its : List Value} {kl : List Value} {kS a : Addr} {e1 e : Nat} {s' : Shared} (K : KeySt X H s kS a e1 xs (ktOf k) its.length H' kl e s') (rv : Vals xs its) (hx : ∀ x ∈ xs, ∃ b, x = V.ref b ∧ H b = some (.tup ((k x).map V.str)))
    {ps : List Keyed} (hp : ps.Perm (kl.zip its)) (hs : Srtd (lt2 fun v u => numRow (keyOf H' v) (keyOf H' u)) ps) :
    Srtd (fun x y => numRow (lenRow k x) (lenRow k y)) (ps.map fun p => backV p.2) ∧ (ps.map fun p => backV p.2).Perm xs ∧ ∀ u ∈ ps.map (·.2), ∃ b, u = Value.ref b := by
  obtain ⟨e1', e2'⟩ := refs_back rv fun x m => by
    obtain ⟨b, e, _⟩ := hx x m
    exact ⟨b, e⟩
  have hzl : kl.length = its.length := K.len
  have hm : (kl.zip its).map (·.2) = its := List.map_snd_zip (by omega)
  have hback : ∀ p ∈ ps, keyOf H' p.1 = lenRow k (backV p.2) := fun p hm2 => by
    obtain ⟨x, hxm, rx, e3, _⟩ := pair_key K rv hx (hp.mem_iff.mp hm2)
    obtain ⟨b, rfl, _⟩ := hx x hxm
    have e4 : p.2 = Value.ref b := rx
    rw [e3, e4]
    rfl
  refine ⟨?_, ?_, fun u hu => ?_⟩
  · show List.Pairwise _ _
    rw [List.pairwise_map]
    refine List.Pairwise.imp_of_mem ?_ hs
    intro p q hp1 hq1 hlt
    show numRow (lenRow k (backV q.2)) (lenRow k (backV p.2)) = false
    rw [← hback p hp1, ← hback q hq1]
    exact hlt
  · have h1 := hp.map (fun p : Keyed => backV p.2)
    have h2 : (kl.zip its).map (fun p : Keyed => backV p.2) = ((kl.zip its).map (·.2)).map backV := by rw [List.map_map]; rfl
    rw [h2, hm, ← e1'] at h1
    exact h1
  · obtain ⟨p, hp1, rfl⟩ := List.mem_map.mp hu
    have := (List.of_mem_zip (show (p.1, p.2) ∈ kl.zip its from hp.mem_iff.mp hp1)).2
    exact e2' _ this
/-- sorted(l, key=f), f an object that makes for each item the pair of its length and itself -/
theorem sorted_key {Q : VK} (I : Inv X pins σ H s) (hs : SqL X.K H l xs) (hx : ∀ x ∈ xs, ∃ b, x = V.ref b ∧ H b = some (.tup ((k x).map V.str))) (hfa : s.heap.get? fa = some fo) (nfa : H fa = none) (ffa : fa ∉ frs X.stack) (room : X.A.units + 2 < cLine)
    (turn : ∀ (j : Nat) (x : V) (v : Value) (H' : Hp) (s' : Shared), xs[j]? = some x → RelV x v → Inv X pins σ H' s' → (∀ b o, H b = some o → H' b = some o) → s'.heap.get? fa = some fo → H' fa = none →
      wpAny (model X.prog X.w) X.A.in1.in1 (call (.ref fa) [v]) (CE X.stack X.prog X.w H' s' (fun w H'' => ∃ p, w = .ref p ∧ H' p = none ∧ H'' = upd H' p (.tup (ktOf k x)))) (fun _ _ => False) s')
    (q : ∀ (ys : List V) (p : Addr) (H' : Hp), ys.Perm xs → Srtd (fun x y => numRow (lenRow k x) (lenRow k y)) ys → (∀ b o, H b = some o → H' b = some o) → H p = none → H' p = some (.lst ys) → Q (.ref p) H') :
    wpAny (model X.prog X.w) X.A (call (.builtin "sorted") [.ref l] [(Str.ofString "key", .ref fa)]) (EP X pins σ Q) X.xe s := by
  obtain ⟨its, rv, hl0, hz⟩ := I.list hs
  have hl := hl0.isList
  have hzi : its.length ≤ sizeLine := by rw [← rv.length]; exact hz
  refine call_function_entry_kw kind_sorted plain_sorted entry_sorted (ksk_s1 _ _) ?_
  unfold Builtin.«sorted»
  refine wpAny_bind (m := checkCount "sorted" 1 1 _) (wpAny_pure ?_)
  refine wpAny_bind (collect_list hl ?_ hzi)
  refine wpAny_bind (wpAny_newList ?_ hzi)
  have hsz : ((s.heap.push (seqObj "list" #[] 0)).update s.heap.objs.size (Obj.mapSeq (· ++ its.toArray))).objs.size = s.heap.objs.size + 1 := by
    rw [Heap.size_update, size_push']
  have hoL : (((s.heap.push (seqObj "list" #[] 0)).update s.heap.objs.size (Obj.mapSeq (· ++ its.toArray))).push (seqObj "list" its.toArray 0)).get? (s.heap.objs.size + 1) = some (seqObj "list" its.toArray 0) := by
    rw [← hsz]; exact Heap.get?_push_size _ rfl
  have keep : ∀ b o, s.heap.get? b = some o → (((s.heap.push (seqObj "list" #[] 0)).update s.heap.objs.size (Obj.mapSeq (· ++ its.toArray))).push (seqObj "list" its.toArray 0)).get? b = some o := fun b o q => by
    have hlt : b < s.heap.objs.size := Heap.lt_size q
    rw [Heap.get?_push_ne _ _ _ (by rw [hsz]; exact Nat.ne_of_lt (Nat.lt_succ_of_lt hlt)), Heap.get?_update_ne _ _ _ _ (Nat.ne_of_lt hlt), Heap.get?_push_ne _ _ _ (Nat.ne_of_lt hlt)]
    exact q
  show wpAny _ _ _ _ _ { s with heap := ((s.heap.push (seqObj "list" #[] 0)).update s.heap.objs.size (Obj.mapSeq (· ++ its.toArray))).push (seqObj "list" its.toArray 0) }
  rw [hsz]
  have hsz2 : (((s.heap.push (seqObj "list" #[] 0)).update s.heap.objs.size (Obj.mapSeq (· ++ its.toArray))).push (seqObj "list" its.toArray 0)).objs.size = s.heap.objs.size + 2 := by
    rw [size_push', hsz]
  generalize hG : ((s.heap.push (seqObj "list" #[] 0)).update s.heap.objs.size (Obj.mapSeq (· ++ its.toArray))).push (seqObj "list" its.toArray 0) = G at hoL keep hsz2 ⊢
  generalize ha : s.heap.objs.size + 1 = a at hoL ⊢
  refine wpAny_bind (wpAny_holding (wpAny_call_entry_kw slot_list_sort ⟨_, hoL, rfl⟩ entry_list_sort ?body (ksk_l1 _ _)))
  case body =>
    show wpAny (model X.prog X.w) X.A.in1.in1 (Builtin.«list.sort» ⟨[.ref a], [(Str.ofString "key", .ref fa)]⟩) _ _ _
    rw [ksk_t1]
    have haG : a < G.objs.size := Heap.lt_size hoL
    have s1 := Heap.SameBut.update G a (Obj.mapSeq fun _ => (#[] : Array Value))
    obtain ⟨e1, ho1⟩ : ∃ e1, (G.update a (Obj.mapSeq fun _ => (#[] : Array Value))).get? a = some (seqObj "list" #[] e1) := ⟨_, get?_update_seq hoL fun _ => #[]⟩
    have hkS : ((G.update a (Obj.mapSeq fun _ => (#[] : Array Value))).push (seqObj "tuple" its.toArray 0)).objs.size = s.heap.objs.size + 3 := by rw [size_push', Heap.size_update, hsz2]
    unfold ksk_tree
    refine wpAny_bind (listItems_at hoL rfl ?_)
    refine wpAny_bind (listUpdate_at hoL rfl ?_ (by rw [List.size_toArray]; exact hzi) (Nat.zero_le _))
    refine wpAny_bind (seqEpoch_at ho1 rfl ?_)
    refine wpAny_bind (wpAny_newTuple ?_ (by show its.length ≤ _; exact hzi))
    refine wpAny_bind (wpAny_newList ?_ (Nat.zero_le _))
    refine wpAny_holding ?_
    have hka : s.heap.objs.size + 3 ≠ a := by omega
    show wpAny _ _ _ _ _ { s with heap := ((G.update a (Obj.mapSeq fun _ => (#[] : Array Value))).push (seqObj "tuple" its.toArray 0)).push (seqObj "list" #[] 0) }
    rw [hkS]
    have old : ∀ b o, s.heap.get? b = some o → (((G.update a (Obj.mapSeq fun _ => (#[] : Array Value))).push (seqObj "tuple" its.toArray 0)).push (seqObj "list" #[] 0)).get? b = some o := fun b o e =>
      Heap.get?_push_of_some _ (Heap.get?_push_of_some _ ((s1.2 b (Nat.ne_of_lt (Nat.lt_of_lt_of_le (Heap.lt_size e) (by rw [← ha]; exact Nat.le_succ _)))).trans (keep b o e)))
    refine keys_made (X := X) (H := H) (s := s) (kS := s.heap.objs.size + 3) (a := a) (e1 := e1) (xs := xs) (kt := ktOf k) (H0 := H) I rv hzi hfa nfa ffa (by omega) (by omega) hka turn 0 ?_ ?_
    · refine ⟨Un.kept old, I.hok.kept old, rfl, I.bare, ?_, I.hok.fresh (by omega), ?_, I.hok.fresh (by omega), fun _ _ e => e, rfl, fun j u hu => absurd hu (by simp)⟩
      · rw [← hkS]
        exact Heap.get?_push_size _ rfl
      · exact Heap.get?_push_of_some _ (Heap.get?_push_of_some _ ho1)
    · intro H' kl e s' K
      refine keyed_end K rv hzi hka (by show X.A.units + 1 + 1 < cLine; omega) hx fun ps hp hsr => ?_
      obtain ⟨f1, f2, f3⟩ := items_srtd K rv hx hp hsr
      refine ⟨_, rfl, wpAny_pure ?_⟩
      -- the end: the new list is tracked
      have t1 := Heap.SameBut.update s'.heap (s.heap.objs.size + 3) (Obj.mapSeq fun _ => (#[] : Array Value))
      have na1 : (s'.heap.update (s.heap.objs.size + 3) (Obj.mapSeq fun _ => (#[] : Array Value))).get? a = some (seqObj "list" #[] e1) := (t1.2 a hka.symm).trans K.ha
      have t2 := Heap.SameBut.update (s'.heap.update (s.heap.objs.size + 3) (Obj.mapSeq fun _ => (#[] : Array Value))) a (Obj.mapSeq fun _ => (ps.map (·.2)).toArray)
      obtain ⟨c2, hc2⟩ : ∃ c2, ((s'.heap.update (s.heap.objs.size + 3) (Obj.mapSeq fun _ => (#[] : Array Value))).update a (Obj.mapSeq fun _ => (ps.map (·.2)).toArray)).get? a = some (seqObj "list" (ps.map (·.2)).toArray c2) :=
        ⟨_, get?_update_seq na1 fun _ => (ps.map (·.2)).toArray⟩
      generalize hF : ((s'.heap.update (s.heap.objs.size + 3) (Obj.mapSeq fun _ => (#[] : Array Value))).update a (Obj.mapSeq fun _ => (ps.map (·.2)).toArray)) = F at t2 hc2 ⊢
      have other : ∀ b, b ≠ a → b ≠ s.heap.objs.size + 3 → F.get? b = s'.heap.get? b := fun b h1 h2 => (t2.2 b h1).trans (t1.2 b h2)
      have sm : ∀ b o, s.heap.get? b = some o → b ≠ a ∧ b ≠ s.heap.objs.size + 3 := fun b o e =>
        ⟨Nat.ne_of_lt (Nat.lt_of_lt_of_le (Heap.lt_size e) (by rw [← ha]; exact Nat.le_succ _)), Nat.ne_of_lt (Nat.lt_of_lt_of_le (Heap.lt_size e) (Nat.le_add_right _ 3))⟩
      have trk : ∀ b o, H' b = some o → b ≠ a ∧ b ≠ s.heap.objs.size + 3 := fun b o e => ⟨(fun z => by rw [z, K.na] at e; cases e), (fun z => by rw [z, K.nk] at e; cases e)⟩
      have un : Un (frs X.stack) [] H (upd H' a (.lst (ps.map fun p => backV p.2))) s.heap F := {
        keep := fun b o q n hb hx' => (other b (sm b o q).1 (sm b o q).2).trans (K.un.keep b o q n hb hx')
        slot := fun b o q n hb hx' => by
          obtain ⟨sl, q2⟩ := K.un.slot b o q n hb hx'
          exact ⟨sl, (other b (sm b o q).1 (sm b o q).2).trans q2⟩
        free := fun b o q n hx' => by rw [upd_ne (sm b o q).1]; exact K.un.free b o q n hx'
        there := fun b o q hx' => by
          obtain ⟨o', q2⟩ := K.un.there b o q hx'
          exact ⟨o', (other b (sm b o q).1 (sm b o q).2).trans q2⟩
        tups := fun b ys q => by
          have q2 := K.un.tups b ys q
          rw [upd_ne (trk b _ q2).1]
          exact q2
        frzs := fun b o u q => by
          have q2 := K.un.frzs b o u q
          rw [upd_ne (trk b _ q2).1]
          exact q2
        tbls := fun b ts q => by
          obtain ⟨more, q2⟩ := K.un.tbls b ts q
          exact ⟨more, by rw [upd_ne (trk b _ q2).1]; exact q2⟩ }
      have hlen : (ps.map fun p => backV p.2).length ≤ sizeLine := by rw [f2.length_eq]; exact hz
      have vb : Vals (ps.map fun p => backV p.2) (ps.map (·.2)) := by
        have := vals_back f3
        rw [List.map_map] at this
        exact this
      have hok : HOk X.prog X.w (upd H' a (.lst (ps.map fun p => backV p.2))) F := fun b o e' => by
        by_cases hb : b = a
        · subst hb
          rw [upd_same] at e'
          cases e'
          exact ⟨hlen, _, c2, vb, hc2⟩
        · rw [upd_ne hb] at e'
          refine (K.hok b o e').stay (fun c w2 hc q2 => ?_) (fun c q2 => by rw [upd_ne (trk c _ q2).1]; exact q2) fun c zs q2 => by rw [upd_ne (trk c _ q2).1]; exact q2
          rcases hc with z | z
          · rw [z]
            exact (other b (trk b o e').1 (trk b o e').2).trans (by rw [← z]; exact q2)
          · exact (other c (trk c _ z).1 (trk c _ z).2).trans q2
      have J : Inv X pins σ (upd H' a (.lst (ps.map fun p => backV p.2))) { s' with heap := F } := I.call' (s' := { s' with heap := F }) (ch := []) K.os un hok K.bare (fun b z => absurd z (by simp))
      refine ⟨_, rfl, .ref a, _, J, rfl, q _ a _ f2 f1 (fun b o e' => ?_) (I.hok.fresh (by omega)) upd_same⟩
      have e2 := K.ex b o e'
      rw [upd_ne (trk b o e2).1]
      exact e2
end
end Rw
end T_SA

section T_SB
set_option Elab.async false
set_option linter.all false
set_option maxRecDepth 100000
set_option maxHeartbeats 4000000
namespace Rw
open PySem PySem.Spec PyProof.Rows L2 SrtO LamX
/-- the context of a lambda's body with one parameter, entered at s from the frames outer -/
def lam1Cx (X : Cx) (A : Around) (outer : List Env) (s : Shared) (H : Hp) (scope : Scope) (f c' : Addr) (n : Str) : Cx where
  prog := X.prog
  w := X.w
  K := X.K
  mg := X.mg
  base := X.base
  A := A.deeper (lamEnv X scope s.heap.objs.size f c')
  N := [n]
  s_0 := s
  H_0 := H
  env := lamEnv X scope s.heap.objs.size f c'
  outer := outer
  stack := lamEnv X scope s.heap.objs.size f c' :: outer
  ex := []
  fn := fun _ => false
  calm := true
  pn := []
  xe := fun e s' => wpAny (model X.prog X.w) (A.deeper (lamEnv X scope s.heap.objs.size f c')) (leaving (lamEnv X scope s.heap.objs.size f c') e) (fun _ _ => False) (fun _ _ => False) s'
/-- no name of the lambda is a cell or captured -/
structure Lam1S (scope : Scope) (n : Str) : Prop where
  kind : scope.kind = .function
  co : scope.isCoroutine = false
  gen : scope.isGenerator = false
  own : ∀ y ∈ scope.names, y.2 ≠ .cell ∧ y.2 ≠ .free
  par : scope.names.lookup n = some .local
theorem clo_nil {cells : List (Str × Addr)} : ∀ {l : List (Str × NameKind)}, (∀ y ∈ l, y.2 ≠ .cell ∧ y.2 ≠ .free) → ∀ {y c}, (cloFrom cells l []).lookup y = some c → False := fun {l} h {y c} e => by
  rcases cloFrom_mem (PySem.mem_of_lookup e) with hm | ⟨h1, _⟩
  · cases hm
  · exact (h _ h1).2 rfl
section
variable {X : Cx} {H : Hp} {s1 : Shared}
theorem lam1_start {A : Around} {outer : List Env} {scope : Scope} {n : Str} {f c' : Addr} {h₁ : Heap} {tk : Nat} {x : V} {v : Value} (L : Lam1S scope n) (e0 : Env0 X.prog X.w X.K X.mg X.base A outer s1 H) (hd : A.handled = none) (rx : RelV x v)
    (hns : h₁.Ns s1.heap.objs.size fun y => ([(n, v)] : List (Str × Value)).reverse.lookup y) (kp : ∀ b o, s1.heap.get? b = some o → h₁.get? b = some o) :
    Inv (lam1Cx X A outer s1 H scope f c' n) [] [some x] H { s1 with heap := h₁, toks := tk } := by
  have noA : ∀ b : Addr, b ∉ (lam1Cx X A outer s1 H scope f c' n).ex := fun b z => absurd (show b ∈ ([] : List Addr) from z) (by simp)
  refine ⟨⟨e0.mod, L.kind, rfl, rfl, Nat.le_refl _, fun y z c e1 e2 => (clo_nil L.own e1).elim, fun y hy => ?_, fun y c z _ => ?_, fun _ => hd, Around.frames_deeper e0.frames, .inr ⟨rfl, rfl⟩, fun b z => absurd z (noA b), e0.bs, e0.bsz, fun b _ _ => noA b,
      fun b z => absurd z (noA b), e0.funs, e0.frf⟩,
    rfl, e0.bare, Un.kept kp, ⟨_, hns, fun i y v' e1 e2 e3 => ?_⟩, fun y c e => (clo_nil L.own e).elim, e0.hok.fresh (Nat.le_refl _), fun y c e => (clo_nil L.own e).elim, fun q hq => absurd (show q ∈ ([] : List (Addr × Obj)) ++ [] from hq) (by simp), e0.hok.kept kp, rfl⟩
  · have hy : scope.names.lookup y = some .cell ∨ scope.names.lookup y = some .free := hy
    rcases hy with hy | hy
    · exact absurd rfl (L.own _ (PySem.mem_of_lookup hy)).1
    · exact absurd rfl (L.own _ (PySem.mem_of_lookup hy)).2
  · have z : false = true := z
    cases z
  · have e1 : [n][i]? = some y := e1
    cases i with
    | zero =>
      cases e1
      cases e2
      exact ⟨v, rx, .inl ⟨L.par, by simp [List.lookup]⟩⟩
    | succ i => cases e1
/-- the lambda called with one value -/
theorem lam1_call {pins : List (Addr × Obj)} {σ : L2.St} {s : Shared} {A : Around} {f c' : Addr} {k : Nat} {params : Arguments} {body : Expr} {scope : Scope} {n : Str} {pm ctv : Value} {tb : TE} {x : V} {v : Value} {Q : VK} {fo : Obj}
    (I : Inv X pins σ H s) (L : Lam1S scope n) (efo : fo = PySem.W.kla_obj "<lambda>" (X.env.qual ++ "<lambda>") params body scope (cloFrom X.env.cells scope.names []) pm c' ctv) (hf : s.heap.get? f = some fo) (hc : H c' = some (CodeO c' (X.env.qual ++ "<lambda>")))
    (hbind : bindArgs (PySem.W.kla_fn "<lambda>" (X.env.qual ++ "<lambda>") params body scope (cloFrom X.env.cells scope.names []) pm (.ref c') ctv) ⟨[v], []⟩ = pure [(n, v)])
    (hA : A.frames = some X.stack) (hr : Room (k + 1) A) (rx : RelV x v)
    (hbody : ∀ (A : Around) (outer : List Env) (s : Shared) (H : Hp), Room k (A.deeper (lamEnv X scope s.heap.objs.size f c')) → PE (lam1Cx X A outer s H scope f c' n) body tb) (h : tb [some x] H Q) :
    wpAny (model X.prog X.w) A (call (.ref f) [v]) (CE X.stack X.prog X.w H s Q) (fun _ _ => False) s := by
  have e0 : Env0 X.prog X.w X.K X.mg X.base A X.stack s H := ⟨hA, I.env0.mod, I.env0.bs, I.env0.bsz, I.env0.funs, I.env0.frf, I.env0.hok, I.env0.bare⟩
  obtain ⟨⟨oc, vs, t, hoc, hdc, hvc⟩, _, _⟩ := I.hok c' _ hc
  subst efo
  have rc : codeAny (model X.prog X.w) A (.call (.ref f) ⟨[v], []⟩) (CR C8.CX0 X.stack X.prog X.w H s Q C8.E0) s := by
    refine PySem.W.kla_callFunE hr.depth hf rfl L.co L.gen rfl ⟨c', oc, vs, t, rfl, hoc, hdc, hvc⟩ ?_
    rw [hbind]
    refine wpAny_pure (wpAny_newFunctionEnv (fun y hy => (L.own y hy).1) (fun y hy => ?_) (fun h₁ hns hsb => ⟨I.nolimit.fresh _ hsb, ?_⟩) L.kind)
    · rw [List.mem_singleton.mp hy]
      exact L.par
    · show codeAny _ _ (.expr body (lamEnv X scope s.heap.objs.size f c')) _ _
      have kp : ∀ b o, s.heap.get? b = some o → h₁.get? b = some o := fun b o e => hsb.extBut b o (Nat.ne_of_lt (Heap.lt_size e)) (Heap.get?_push_of_some _ e)
      have J : Inv (lam1Cx X A X.stack s H scope f c' n) [] [some x] H { s with heap := h₁, toks := s.toks + ([(n, v)] : List (Str × Value)).length } := lam1_start L e0 hr.hd rx hns kp
      refine PySem.W.kla_codeExpr (wpAny_mono ((hbody _ _ s H (hr.deeper _)).run [] _ _ H Q J h) (fun u s' hq => ?_) fun e s' hq => ?_)
      · obtain ⟨w', H', J', rv, q⟩ := hq
        exact ⟨w', H', J'.os, J'.bare, J'.base, J'.hok, rv, q⟩
      · exact wpAny_mono hq (fun _ _ z => z.elim) fun _ _ z => z.elim
  refine wpAny_call (codeAny_mono rc fun r s' hq => ?_)
  cases r with
  | error e => exact (show False from hq).elim
  | ok fl =>
    cases fl with
    | ret u => exact hq
    | next => exact False.elim hq
    | brk => exact False.elim hq
    | cont => exact False.elim hq
/-- sorted(e, key=lambda n: body) where the body makes the pair of the item's length and itself -/
theorem pe_sortedLam {T : List (Addr × Str)} {c P : Addr} {k : Nat} {params : Arguments} {body : Expr} {scope : Scope} {n : Str} {e : Expr} {te tb : TE} {p lpos kpos pos : Pos}
    (hg : Gl X "sorted") (hm : X.mg "sorted" = none) (he : PE X e te) (TB : TabB X.base X.mg c P) (hcode : X.env.code = .ref c) (hmT : (P, X.env.qual ++ "<lambda>") ∈ T) (hu : ∀ p ∈ T, p.1 = P → p.2 = X.env.qual ++ "<lambda>") (hr : Room (k + 3) X.A) (L : Lam1S scope n)
    (hdef : defaultsOf params X.env = ([], []))
    (hbind : ∀ (q : Str) (cl : List (Str × Addr)) (pm cv ctv v : Value), bindArgs (PySem.W.kla_fn "<lambda>" q params body scope cl pm cv ctv) ⟨[v], []⟩ = pure [(n, v)])
    (hbody : ∀ (A : Around) (outer : List Env) (s : Shared) (H : Hp) (f c' : Addr), Room k (A.deeper (lamEnv X scope s.heap.objs.size f c')) → PE (lam1Cx X A outer s H scope f c' n) body tb)
    (htb : ∀ (x : V) (b : Addr) (zs : List Str) (H : Hp) (Q : VK), x = .ref b → H b = some (.tup (zs.map V.str)) → (∀ p, H p = none → Q (.ref p) (upd H p (.tup [.int (zs.length : Int), x]))) → tb [some x] H Q)
    (hstar : starEach [e] X.env = (false, eval e X.env) :: starEach [] X.env := by rfl) :
    PE X (.Call (.Name "sorted" p) [e] [⟨some "key", .Lambda params body scope lpos, kpos⟩] pos)
      (fun σ H Q => te σ H fun v H1 => ∃ (l : Addr) (xs : List V) (kf : V → List Str), v = .ref l ∧ H1 l = some (.lst xs) ∧ (∀ x ∈ xs, ∃ b, x = V.ref b ∧ H1 b = some (.tup ((kf x).map V.str))) ∧ Tabs T H1 ∧
        ∀ (ys : List V) (r : Addr) (H2 : Hp), ys.Perm xs → Srtd (fun x y => numRow (lenRow kf x) (lenRow kf y)) ys → ExtN H1 H2 → Tabs T H2 → (∀ b o, H1 b = some o → (∀ ps, o ≠ .tbl ps) → b ≠ r) → H2 r = some (.lst ys) → Q (.ref r) H2) := by
  refine ⟨fun pins s σ H Q I h => ?_⟩
  refine wpAny_Call_Name_kw (ld_blt I hg hm boot_sorted ?_ (by decide) (by decide))
  refine PyProof.Rows.callWith_kw ?_ (by rw [hstar]; rfl) (by rw [hstar]; rfl) rfl rfl
  rw [hstar]
  show wpAny _ _ (spliced ((false, eval e X.env) :: backTo pos (starEach [] X.env))) _ _ s
  refine Calls.spliced_cons (thn (he.run pins s σ H _ I h) fun u s1 ⟨v, H1, I1, r1, l, xs, kf, ev, hl, hx, hT, q⟩ => ?_)
  subst ev
  obtain rfl : u = Value.ref l := r1
  refine Calls.spliced_nil ?_
  show wpAny _ _ (evalAll ((do let v ← eval (.Lambda params body scope lpos) X.env; standAt pos; pure v) :: (backToKw pos (keywordEach [] X.env)).map (·.2))) _ _ s1
  have hfree : ∀ y ∈ scope.names, y.2 = .free → ∃ c, X.env.cells.lookup y.1 = some c := fun y hy z => absurd z (L.own y hy).2
  refine wpAny_evalAll_cons (wpAny_bind (lam_make2 I1 TB hcode hmT hu hT hdef hfree fun f c' pm ctv H2 s2 I2 eN T2 hf hfn hfr hco => wpAny_bind (wpAny_standAt (wpAny_pure ?_))))
  refine wpAny_evalAll_nil ?_
  show wpAny _ _ (call (.builtin "sorted") [.ref l] [(Str.ofString "key", .ref f)]) _ _ s2
  have up : ∀ {b : Addr} {o : HO}, H1 b = some o → (∀ ps, o ≠ .tbl ps) → H2 b = some o := fun {b o} e n => eN b o e n
  have tup_ne : ∀ (xs : List V) (ps : Array Value), HO.tup xs ≠ .tbl ps := fun _ _ z => by cases z
  have lst_ne : ∀ (xs : List V) (ps : Array Value), HO.lst xs ≠ .tbl ps := fun _ _ z => by cases z
  have hx2 : ∀ x ∈ xs, ∃ b, x = V.ref b ∧ H2 b = some (.tup ((kf x).map V.str)) := fun x hm => by
    obtain ⟨b, e1, e2⟩ := hx x hm
    exact ⟨b, e1, up e2 (tup_ne _)⟩
  refine sorted_key (k := kf) I2 (Evl.sq_of (up hl (lst_ne _))) hx2 hf hfn hfr (by have := hr.units; omega) (fun j x v H' s' hj rx I' eX hf' hfn' => ?_) (fun ys r H' hp hsr eX hn hr' => ?_)
  · obtain ⟨b, rfl, hb⟩ := hx2 x (List.mem_of_getElem? hj)
    refine lam1_call (A := X.A.in1.in1) (k := k) I' L rfl hf' (eX _ _ hco) (hbind _ _ _ _ _ _) I'.ok.frames (by exact (hr.in1).in1) rx (fun A outer s H hr2 => hbody A outer s H f c' hr2) ?_
    exact htb _ b (kf (.ref b)) H' _ rfl (eX _ _ hb) fun p hp => ⟨p, rfl, hp, rfl⟩
  · refine q ys r H' hp hsr (fun b o e n => eX b o (eN b o e n)) (T2.ext eX) (fun b o e n z => ?_) hr'
    have e2 := eN b o e n
    rw [z, hn] at e2
    cases e2
end
end Rw
end T_SB

section T_TU
set_option Elab.async false
set_option linter.all false
set_option maxRecDepth 100000
set_option maxHeartbeats 4000000
namespace Rw
open PySem L2 PyProof.Rows LamX
/-! ### the heap without the tables of code objects -/
def nt (H : Hp) : Hp := fun a => match H a with
  | some (.tbl _) => none
  | o => o
theorem nt_some {H : Hp} {a : Addr} {o : HO} (h : nt H a = some o) : H a = some o ∧ ∀ ps, o ≠ .tbl ps := by
  unfold nt at h
  cases e : H a with
  | none => rw [e] at h; cases h
  | some u =>
    rw [e] at h
    cases u with
    | tbl ps => cases h
    | _ => cases h; exact ⟨rfl, fun _ z => by cases z⟩
theorem nt_of {H : Hp} {a : Addr} {o : HO} (h : H a = some o) (n : ∀ ps, o ≠ .tbl ps) : nt H a = some o := by
  unfold nt
  rw [h]
  cases o with
  | tbl ps => exact absurd rfl (n ps)
  | _ => rfl
theorem nt_free {H : Hp} {a : Addr} (h : H a = none) : nt H a = none := by
  unfold nt
  rw [h]
theorem ex_nt (H : Hp) : Evl.Ex (nt H) H := fun a o h => (nt_some h).1
theorem nt_ex {H H' : Hp} (e : Evl.Ex H H') : Evl.Ex (nt H) (nt H') := fun a o h => nt_of (e a o (nt_some h).1) (nt_some h).2
theorem nt_ext {H H' : Hp} (e : ExtN H H') : Evl.Ex (nt H) (nt H') := fun a o h => nt_of (e a o (nt_some h).1 (nt_some h).2) (nt_some h).2
theorem nt_tup {H : Hp} {a : Addr} {xs : List V} (h : H a = some (.tup xs)) : nt H a = some (.tup xs) := nt_of h fun _ z => by cases z
theorem nt_lst {H : Hp} {a : Addr} {xs : List V} (h : H a = some (.lst xs)) : nt H a = some (.lst xs) := nt_of h fun _ z => by cases z
theorem nt_dK {H : Hp} {a : Addr} {xs : List (Key × V)} (h : H a = some (.dK xs)) : nt H a = some (.dK xs) := nt_of h fun _ z => by cases z
theorem nt_new {H : Hp} {p : Addr} {o : HO} (h : H p = none) : Evl.Ex (nt H) (nt (upd H p o)) := nt_ex (Evl.Ex.new h)
/-! ### tuples of names, by their addresses -/
def RowsT (H : Hp) (L : List (Addr × List Str)) : Prop := ∀ q ∈ L, H q.1 = some (.tup (q.2.map V.str))
theorem RowsT.to {H H' : Hp} {L : List (Addr × List Str)} (h : RowsT H L) (x : Evl.Ex H H') : RowsT H' L := fun q hq => x _ _ (h q hq)
theorem RowsT.nt {H : Hp} {L : List (Addr × List Str)} (h : RowsT H L) : RowsT (nt H) L := fun q hq => nt_tup (h q hq)
theorem RowsT.app {H : Hp} {L M : List (Addr × List Str)} (h : RowsT H L) (g : RowsT H M) : RowsT H (L ++ M) := fun q hq => (List.mem_append.mp hq).elim (h q) (g q)
theorem RowsT.mut {H : Hp} {L : List (Addr × List Str)} {p : Addr} {xs ys : List V} (h : RowsT H L) (hp : H p = some (.lst xs)) : RowsT (upd H p (.lst ys)) L := fun q hq => by
  rw [upd_ne (fun z => by have e := h q hq; rw [z, hp] at e; cases e)]
  exact h q hq
theorem rowsT_at {L : List (Addr × List Str)} {i : Nat} {x : V} (h : (L.map fun q => V.ref q.1)[i]? = some x) : ∃ q, L[i]? = some q ∧ x = .ref q.1 := by
  rw [List.getElem?_map] at h
  cases e : L[i]? with
  | none => rw [e] at h; cases h
  | some q => rw [e] at h; exact ⟨q, rfl, (Option.some.inj h).symm⟩
/-- the row that a tuple at a value tells -/
def rowAt (H : Hp) : V → List Str
  | .ref b => match H b with
    | some (.tup vs) => unS vs
    | _ => []
  | _ => []
theorem rowAt_of {H : Hp} {b : Addr} {zs : List Str} (h : H b = some (.tup (zs.map V.str))) : rowAt H (.ref b) = zs := by
  unfold rowAt
  simp only [h, unS_strs]
def addrOf : V → Addr
  | .ref a => a
  | _ => (0 : Nat)
/-- a list of such tuples in another order -/
theorem rowsT_perm {H : Hp} {L : List (Addr × List Str)} {ys : List V} (hL : RowsT H L) (hp : ys.Perm (L.map fun q => V.ref q.1)) :
    ∃ M : List (Addr × List Str), ys = M.map (fun q => V.ref q.1) ∧ RowsT H M ∧ (M.map (·.2)).Perm (L.map (·.2)) ∧ M.map (·.2) = ys.map (rowAt H) := by
  have all : ∀ y ∈ ys, ∃ q ∈ L, y = .ref q.1 := fun y hy => by
    obtain ⟨q, hq, e⟩ := List.mem_map.mp (hp.mem_iff.mp hy)
    exact ⟨q, hq, e.symm⟩
  have e2 : ys = (ys.map fun y => (addrOf y, rowAt H y)).map (fun q => V.ref q.1) := by
    rw [List.map_map]
    refine (List.map_congr_left fun y hy => ?_).trans (List.map_id ys) |>.symm
    obtain ⟨q, _, rfl⟩ := all y hy
    rfl
  have e3 : (ys.map fun y => (addrOf y, rowAt H y)).map (·.2) = ys.map (rowAt H) := by rw [List.map_map]; rfl
  refine ⟨ys.map fun y => (addrOf y, rowAt H y), e2, fun q hq => ?_, ?_, e3⟩
  · obtain ⟨y, hy, rfl⟩ := List.mem_map.mp hq
    obtain ⟨q', hq', rfl⟩ := all y hy
    have h := hL q' hq'
    show H q'.1 = some (.tup ((rowAt H (.ref q'.1)).map V.str))
    rw [rowAt_of h]
    exact h
  · rw [e3]
    have h1 := hp.map (rowAt H)
    rw [List.map_map] at h1
    have h2 : L.map (rowAt H ∘ fun q => V.ref q.1) = L.map (·.2) := List.map_congr_left fun q hq => rowAt_of (hL q hq)
    rw [h2] at h1
    exact h1
/-! ### a def whose code object is known -/
structure FunC (K : PySem.W.Frag) (x qual : Str) (st : Stmt) (f : Addr) (fd : FuncData) (c : Addr) : Prop where
  ex : ∃ (oc : Value) (od : Option Addr) (kV doc pm : Value) (an : Option Addr) (ct : Value) (osl : Array (Option Value)),
    fd = PySem.W.fnOf x qual (defArgs st) (defBody st) (defScope st) .none kV doc pm an (.ref c) ct ∧ K.lookup f = some ⟨oc, od, .func fd, osl⟩ ∧ PySem.W.codeIn K (.ref c) qual = true
  kp : PySem.W.keepIn K (.ref f) = true
section
variable {P : Program} {w : World} {K : PySem.W.Frag} {mg : Str → Option Value} {base : Heap}
theorem FunC.fn {x qual : Str} {st : Stmt} {f c : Addr} {fd : FuncData} (F : FunC K x qual st f fd c) : Fun K x qual st f fd := by
  obtain ⟨oc, od, kV, doc, pm, an, ct, osl, e, l, h⟩ := F.ex
  exact ⟨⟨oc, od, kV, doc, pm, an, _, ct, osl, e, l, h⟩, F.kp⟩
theorem FunC.ok {x qual : Str} {st : Stmt} {f c : Addr} {fd : FuncData} {N ps : List Str} {k : Nat} {sp : Sp} (F : FunC K x qual st f fd c) (S : FnScope N ps (defScope st)) (len : ∀ vs H Q E, sp vs H Q E → vs.length = ps.length)
    (hbody : ∀ (A : Around) (outer : List Env) (s : Shared) (H : Hp) (vs : List V) (Q : VK) (E : XK), Room k (A.deeper (envOfC qual (defScope st) s.heap.objs.size f (.ref c))) → sp vs H Q E →
      ∃ t, PSs (cxOf CX0 P w K mg base N qual (defScope st) f (.ref c) A outer s H E).nox (defBody st) t ∧ t { nx := fun _ H' => Q .non H', rt := Q } (L2.start N vs) H) : FnOk P w K mg base CX0 (k + 1) f fd ps sp := by
  obtain ⟨oc, od, kV, doc, pm, an, ct, osl, rfl, lk, hcd⟩ := F.ex
  refine fn_of lk hcd S len fun A outer s H vs Q E hr hsp => ?_
  obtain ⟨t, h, q⟩ := hbody A outer s H vs Q E hr hsp
  exact ⟨t, h.nox, q⟩
end
/-! ### all parts of a row -/
def parts0 (zs : List Str) : List (List Str) := zs.foldl (fun ps z => ps ++ ps.map fun p => p ++ [z]) [[]]
theorem parts0_snoc (zs : List Str) (z : Str) : parts0 (zs ++ [z]) = parts0 zs ++ (parts0 zs).map fun p => p ++ [z] := by
  unfold parts0
  rw [List.foldl_append]
  rfl
theorem parts0_len : ∀ n (zs : List Str), zs.length = n → (parts0 zs).length = 2 ^ n := by
  intro n
  induction n with
  | zero =>
    intro zs h
    rw [List.length_eq_zero_iff.mp h]
    rfl
  | succ n ih =>
    intro zs h
    rcases List.eq_nil_or_concat zs with rfl | ⟨r, z, rfl⟩
    · cases h
    · rw [List.concat_eq_append, List.length_append] at h
      rw [List.concat_eq_append, parts0_snoc, List.length_append, List.length_map, ih r (by simpa using h), Nat.pow_succ]
      omega
theorem parts0_sub : ∀ {zs : List Str} {p : List Str}, p ∈ parts0 zs → p.Sublist zs := by
  have main : ∀ n (zs : List Str), zs.length = n → ∀ p ∈ parts0 zs, p.Sublist zs := by
    intro n
    induction n with
    | zero =>
      intro zs h p hp
      rw [List.length_eq_zero_iff.mp h] at hp ⊢
      rw [List.mem_singleton.mp hp]
      exact List.Sublist.refl _
    | succ n ih =>
      intro zs h p hp
      rcases List.eq_nil_or_concat zs with rfl | ⟨r, z, rfl⟩
      · cases h
      · rw [List.concat_eq_append] at h hp ⊢
        rw [parts0_snoc] at hp
        have hl : r.length = n := by rw [List.length_append] at h; simpa using h
        rcases List.mem_append.mp hp with hp | hp
        · exact (ih r hl p hp).trans (List.sublist_append_left _ _)
        · obtain ⟨q, hq, rfl⟩ := List.mem_map.mp hp
          exact (ih r hl q hq).append (List.Sublist.refl _)
  exact fun {zs p} h => main _ zs rfl p h
theorem parts0_has : ∀ {zs : List Str} {p : List Str}, p.Sublist zs → p ∈ parts0 zs := by
  have main : ∀ n (zs : List Str), zs.length = n → ∀ p, p.Sublist zs → p ∈ parts0 zs := by
    intro n
    induction n with
    | zero =>
      intro zs h p hp
      rw [List.length_eq_zero_iff.mp h] at hp ⊢
      rw [List.sublist_nil.mp hp]
      exact List.mem_singleton.mpr rfl
    | succ n ih =>
      intro zs h p hp
      rcases List.eq_nil_or_concat zs with rfl | ⟨r, z, rfl⟩
      · cases h
      · rw [List.concat_eq_append] at h hp ⊢
        have hl : r.length = n := by rw [List.length_append] at h; simpa using h
        rw [parts0_snoc]
        obtain ⟨p1, p2, rfl, h1, h2⟩ := List.sublist_append_iff.mp hp
        rcases List.sublist_cons_iff.mp h2 with h3 | ⟨r', rfl, h3⟩
        · rw [List.sublist_nil.mp h3, List.append_nil]
          exact List.mem_append_left _ (ih r hl p1 h1)
        · rw [List.sublist_nil.mp h3]
          exact List.mem_append_right _ (List.mem_map_of_mem (ih r hl p1 h1))
  exact fun {zs p} h => main _ zs rfl p h
end Rw
end T_TU

section T_PB
set_option Elab.async false
set_option linter.all false
set_option maxRecDepth 100000
set_option maxHeartbeats 4000000
namespace Rw
open PySem L2 PyProof.Rows
section
variable {P : Program} {w : World} {K : PySem.W.Frag} {mg : Str → Option Value} {base : Heap}
def spSources (C : Addr) : Sp := fun vs H Q _ => ∃ (m : Addr) (ends dots ss ps : List Str) (o n : Str → List (Str × V)), vs = [.ref m] ∧ NetAt C H m ends dots ss ps o n ∧ ∀ p, H p = some (.tup (ss.map V.str)) → Q (.ref p) H
def spPosts (C : Addr) : Sp := fun vs H Q _ => ∃ (m : Addr) (ends dots ss ps : List Str) (o n : Str → List (Str × V)), vs = [.ref m] ∧ NetAt C H m ends dots ss ps o n ∧ ∀ p, H p = some (.tup (ps.map V.str)) → Q (.ref p) H
theorem sc_sources : FnScope ["self"] ["self"] (defScope c_Net_sources) := ⟨rfl, rfl, rfl, by decide +kernel, rfl, by decide +kernel, by decide +kernel⟩
theorem sc_posts : FnScope ["self"] ["self"] (defScope c_Net_posts) := ⟨rfl, rfl, rfl, by decide +kernel, rfl, by decide +kernel, by decide +kernel⟩
theorem ok_sources {f C : Addr} {fd : FuncData} (F : Fun K "sources" "Net.sources" c_Net_sources f fd) (T : NetTxt K C) : FnOk P w K mg base CX0 1 f fd ["self"] (spSources C) := by
  refine F.ok sc_sources (fun vs H Q E h => ?_) (fun cdv A outer s H vs Q E hr h => ?_)
  · obtain ⟨m, ends, dots, ss, ps, o, n, rfl, _⟩ := h
    rfl
  · obtain ⟨m, ends, dots, ss, ps, o, n, rfl, N, k⟩ := h
    refine ⟨_, pss_one (ps_ret (pe_fld (pv 0) rfl)), ?_⟩
    obtain ⟨dx, T', N', S, Po, rows, h1, h2, h3, h4, h5, h6, h7⟩ := N.ex
    exact ⟨.ref m, rfl, m, C, dx, _, .ref S, rfl, h1, T.cl, T.nS, nflds_sources _ _ _ _, k S h4⟩
theorem ok_posts {f C : Addr} {fd : FuncData} (F : Fun K "posts" "Net.posts" c_Net_posts f fd) (T : NetTxt K C) : FnOk P w K mg base CX0 1 f fd ["self"] (spPosts C) := by
  refine F.ok sc_posts (fun vs H Q E h => ?_) (fun cdv A outer s H vs Q E hr h => ?_)
  · obtain ⟨m, ends, dots, ss, ps, o, n, rfl, _⟩ := h
    rfl
  · obtain ⟨m, ends, dots, ss, ps, o, n, rfl, N, k⟩ := h
    refine ⟨_, pss_one (ps_ret (pe_fld (pv 0) rfl)), ?_⟩
    obtain ⟨dx, T', N', S, Po, rows, h1, h2, h3, h4, h5, h6, h7⟩ := N.ex
    exact ⟨.ref m, rfl, m, C, dx, _, .ref Po, rfl, h1, T.cl, T.nP, nflds_posts _ _ _ _, k Po h5⟩
/-! ### starts -/
/-- where packets that a wish speaks of begin -/
def startsOf (wd : Str) (dots ss : List Str) : List Str := if wd = ("rings" : Str) then dots else ss
def spStarts (C : Addr) : Sp := fun vs H Q _ => ∃ (m : Addr) (wd : Str) (ends dots ss ps : List Str) (o n : Str → List (Str × V)), vs = [.ref m, .str wd] ∧ NetAt C H m ends dots ss ps o n ∧ ∀ p, H p = some (.tup ((startsOf wd dots ss).map V.str)) → Q (.ref p) H
theorem sc_starts : FnScope ["net", "wish"] ["net", "wish"] (defScope p_starts) := ⟨rfl, rfl, rfl, by decide +kernel, rfl, by decide +kernel, by decide +kernel⟩
theorem ok_starts {f C : Addr} {fd : FuncData} (F : Fun K "starts" "starts" p_starts f fd) (T : NetTxt K C) (P1 : Prp P w K mg base C 1 "nodes" (spDots C)) (P2 : Prp P w K mg base C 1 "sources" (spSources C)) : FnOk P w K mg base CX0 3 f fd ["net", "wish"] (spStarts C) := by
  obtain ⟨p1, g1, fd1, at1, F1, b1⟩ := P1.ex
  obtain ⟨p2, g2, fd2, at2, F2, b2⟩ := P2.ex
  refine F.ok sc_starts (fun vs H Q E h => ?_) (fun cdv A outer s H vs Q E hr h => ?_)
  · obtain ⟨m, wd, ends, dots, ss, ps, o, n, rfl, _⟩ := h
    rfl
  · obtain ⟨m, wd, ends, dots, ss, ps, o, n, rfl, N, k⟩ := h
    refine ⟨_, pss_one (ps_ret (pe_ifExp (pt_cmpR op_eq (pv 1) pe_str (nomark _)) (pe_prop (pv 0) T.cl at1 F1 hr b1 .nil pass0 rfl) (pe_prop (pv 0) T.cl at2 F2 hr b2 .nil pass0 rfl))), ?_⟩
    have N2 := N
    obtain ⟨dx, T', N', S, Po, rows, h1, h2, h3, h4, h5, h6, h7⟩ := N.ex
    refine ⟨.str wd, rfl, rfl, _, rfl, ite2 (fun e => ?_) (fun e => ?_)⟩
    · have ew : wd = ("rings" : Str) := by simpa using of_decide_eq_true e
      refine ⟨.ref m, rfl, m, dx, _, rfl, h1, m, ends, dots, ss, ps, o, n, rfl, N2, fun p hp => k p ?_⟩
      unfold startsOf
      rw [if_pos ew]
      exact hp
    · have ew : ¬ wd = ("rings" : Str) := fun z => by
        subst z
        exact absurd e (by decide)
      refine ⟨.ref m, rfl, m, dx, _, rfl, h1, m, ends, dots, ss, ps, o, n, rfl, N2, fun p hp => k p ?_⟩
      unfold startsOf
      rw [if_neg ew]
      exact hp
/-! ### the posts that are passed -/
def stepP (ps : List Str) (k : Nat) (v : V) : Nat := match ps[k]? with
  | some z => if v = .str z then k + 1 else k
  | none => k
def passedBy (ps : List Str) (row : List V) : Nat := row.foldl (stepP ps) 0
theorem stepP_le {ps : List Str} {k : Nat} {v : V} (h : k ≤ ps.length) : stepP ps k v ≤ ps.length := by
  unfold stepP
  cases e : ps[k]? with
  | none => exact h
  | some z =>
    have hk : k < ps.length := (List.getElem?_eq_some_iff.mp e).1
    show (if v = V.str z then k + 1 else k) ≤ _
    split <;> omega
def spPassedWith : Sp := fun vs H Q _ => ∃ (a : Addr) (ps : List Str) (k : Nat) (v : V), vs = [.ref a, .int (k : Int), v] ∧ SqT K H a (ps.map V.str) ∧ ps.length ≤ 100 ∧ k ≤ ps.length ∧ Spot v ∧ Q (.int (stepP ps k v : Int)) H
theorem sc_passed_with : FnScope ["posts", "passed", "place"] ["posts", "passed", "place"] (defScope p_passed_with) := ⟨rfl, rfl, rfl, by decide +kernel, rfl, by decide +kernel, by decide +kernel⟩
theorem ok_passed_with {f : Addr} {fd : FuncData} (F : Fun K "passed_with" "passed_with" p_passed_with f fd) (mLen : mg "len" = none) : FnOk P w K mg base CX0 1 f fd ["posts", "passed", "place"] (spPassedWith (K := K)) := by
  refine F.ok sc_passed_with (fun vs H Q E h => ?_) (fun cdv A outer s H vs Q E hr h => ?_)
  · obtain ⟨a, ps, k, v, rfl, _⟩ := h
    rfl
  · obtain ⟨a, ps, k, v, rfl, ha, few, hk, hv, q⟩ := h
    refine ⟨_, pss_one (ps_ret (pe_ifExp (PW.pt (pw_and (pt_cmpR op_lt (pv 1) (pe_callB call_len (by rfl) mLen PySem.boot_len (pa_cons (pv 0) pa_nil)) (nomark _)) (pw_and1 (pt_cmpR op_eq (pe_ix ix_tup (pv 0) (pv 1) (fun _ _ => rfl)) (pv 2) (nomark _))))) (pe_op op_add (pv 1) pe_int) (pv 1))), ?_⟩
    refine ⟨.int k, rfl, .ref a, rfl, .ref a, (ps.map V.str).length, rfl, .inr ⟨_, ha, rfl⟩, (k : Int), ((ps.map V.str).length : Int), rfl, rfl, _, rfl, ?_⟩
    by_cases lt : k < ps.length
    · rw [decide_eq_true (show (k : Int) < ((ps.map V.str).length : Int) by rw [List.length_map]; omega)]
      have gk : ps[k]? = some ps[k] := List.getElem?_eq_getElem lt
      have sc : scal (.str ps[k]) v = true := by rcases hv with rfl | ⟨y, rfl, _⟩ <;> rfl
      refine iteT ⟨.ref a, rfl, .int k, rfl, a, ps.map V.str, (k : Int), .str ps[k], rfl, rfl, ha, atI_nat (by rw [List.getElem?_map, gk]; rfl), v, rfl, sc, _, rfl, ?_⟩
      by_cases e : V.str ps[k] = v
      · rw [decide_eq_true e]
        refine iteT ⟨.int k, rfl, (k : Int), 1, rfl, rfl, ?_⟩
        have q' : stepP ps k v = k + 1 := by unfold stepP; rw [gk]; exact if_pos e.symm
        rw [q'] at q
        exact q
      · rw [decide_eq_false e]
        refine iteF ⟨.int k, rfl, ?_⟩
        have q' : stepP ps k v = k := by unfold stepP; rw [gk]; exact if_neg fun z => e z.symm
        rw [q'] at q
        exact q
    · rw [decide_eq_false (show ¬ (k : Int) < ((ps.map V.str).length : Int) by rw [List.length_map]; omega)]
      refine iteF (iteF ⟨.int k, rfl, ?_⟩)
      have q' : stepP ps k v = k := by unfold stepP; rw [List.getElem?_eq_none (by omega)]
      rw [q'] at q
      exact q
def spPostsPassed : Sp := fun vs H Q _ => ∃ (a b : Addr) (ps : List Str) (row : List V), vs = [.ref a, .ref b] ∧ SqT K H a (ps.map V.str) ∧ SqL K H b row ∧ ps.length ≤ 100 ∧ (∀ v ∈ row, Spot v) ∧ Q (.int (passedBy ps row : Int)) H
abbrev nPostsPassed : List Str := ["posts", "places", "passed", "place"]
theorem sc_posts_passed : FnScope nPostsPassed ["posts", "places"] (defScope p_posts_passed) := ⟨rfl, rfl, rfl, by decide +kernel, rfl, by decide +kernel, by decide +kernel⟩
theorem ok_posts_passed {f : Addr} {fd : FuncData} (F : Fun K "posts_passed" "posts_passed" p_posts_passed f fd) (C1 : Cal P w K mg base 1 "passed_with" ["posts", "passed", "place"] (spPassedWith (K := K))) : FnOk P w K mg base CX0 2 f fd ["posts", "places"] (spPostsPassed (K := K)) := by
  obtain ⟨f1, fd1, F1, k1, b1, g1⟩ := C1.ex
  refine F.ok sc_posts_passed (fun vs H Q E h => ?_) (fun cdv A outer s H vs Q E hr h => ?_)
  · obtain ⟨a, b, ps, row, rfl, _⟩ := h
    rfl
  · obtain ⟨a, b, ps, row, rfl, ha, hb, few, hv, q⟩ := h
    have nd := sc_posts_passed.nd
    refine ⟨_, pss_cons (ps_set (i := 2) nd rfl (.inl rfl) pe_int)
      (pss_cons (ps_for PassesOwn.never rfl (pi_list (pv 1)) (pg_name (i := 3) nd rfl (.inl rfl)) (pss_one (ps_set (i := 2) nd rfl (.inl rfl) (pe_call F1 hr rfl g1 k1 b1 .nil pass0 (pa_cons (pv 0) (pa_cons (pv 2) (pa_cons (pv 3) pa_nil)))))))
      (pss_one (ps_ret (pv 2)))), ?_⟩
    refine ⟨.ref b, rfl, b, rfl, ⟨_, hb⟩, for_list (K := K) (a := b) (xs := row)
      (fun i σ H' => H' = H ∧ ∃ (k : Nat) (x3 : Option V), σ = [some (.ref a), some (.ref b), some (.int (k : Int)), x3] ∧ k ≤ ps.length ∧ k = (row.take i).foldl (stepP ps) 0)
      ⟨rfl, 0, none, rfl, Nat.zero_le _, rfl⟩ (fun i σ H' _ h => by rw [h.1]; exact hb) ?_ ?_⟩
    · rintro i v σ H' hi ⟨rfl, k, x3, rfl, hk, ek⟩
      refine ⟨.ref a, rfl, .int k, rfl, v, rfl, a, ps, k, v, rfl, ha, few, hk, hv v (List.mem_of_getElem? hi), ?_⟩
      refine ⟨rfl, stepP ps k v, some v, rfl, stepP_le hk, ?_⟩
      rw [List.take_add_one, hi, List.foldl_append, ← ek]
      rfl
    · rintro σ H' ⟨rfl, k, x3, rfl, hk, ek⟩
      rw [List.take_length] at ek
      refine ⟨_, rfl, ?_⟩
      rw [ek]
      exact q
/-! ### breaks -/
def lastV (row : List V) : V := row.getLastD .non
def breaksB (wd e : Str) (ps : List Str) (row : List V) : Bool :=
  if wd = ("lost" : Str) then decide (lastV row = .non)
  else if wd = ("posts" : Str) then decide (lastV row = .str e) && decide (passedBy ps row < ps.length)
  else decide (lastV row ∈ row.dropLast)
end
end Rw
end T_PB

section T_PA
set_option Elab.async false
set_option linter.all false
set_option maxRecDepth 100000
set_option maxHeartbeats 4000000
namespace Rw
open PySem L2 PyProof.Rows LamX
section
variable {P : Program} {w : World} {K : PySem.W.Frag} {mg : Str → Option Value} {base : Heap}
/-- shorter rows first, then by their names -/
abbrev RowsSrt (Ls : List (List Str)) : Prop := Ls.Pairwise fun p q => numRow ((q.length : Int), q) ((p.length : Int), p) = false
def spParts (T : List (Addr × Str)) : Sp := fun vs H Q _ => ∃ (a : Addr) (zs : List Str), vs = [.ref a] ∧ SqT K H a (zs.map V.str) ∧ zs.length ≤ 6 ∧ Tabs T H ∧
  ∀ (p : Addr) (H' : Hp) (L : List (Addr × List Str)), Evl.Ex (nt H) (nt H') → Tabs T H' → H' p = some (.lst (L.map fun q => V.ref q.1)) → RowsT H' L → (L.map (·.2)).Perm (parts0 zs) → RowsSrt (L.map (·.2)) → Q (.ref p) H'
abbrev nParts : List Str := ["lot", "parts", "node", "part"]
theorem sqt_nt {H : Hp} {a : Addr} {xs : List V} (h : SqT K H a xs) : SqT K (nt H) a xs := by
  rcases h with (h | ⟨o, h⟩) | h
  · exact .inl (.inl (nt_tup h))
  · exact .inl (.inr ⟨o, nt_of h fun _ z => by cases z⟩)
  · exact .inr h
end
end Rw
end T_PA

section T_PC
set_option Elab.async false
set_option linter.all false
set_option maxRecDepth 100000
set_option maxHeartbeats 4000000
namespace Rw
open PySem L2 PyProof.Rows LamX
theorem lastV_snoc (l : List V) (v : V) : lastV (l ++ [v]) = v := by
  unfold lastV
  rw [List.getLastD_eq_getLast?, List.getLast?_concat]
  rfl
theorem inV_non : ∀ zs : List Str, inV .non (zs.map V.str) = false
  | [] => rfl
  | z :: zs => by
    show (decide (V.non = V.str z) || inV .non (zs.map V.str)) = false
    rw [inV_non zs]
    rfl
theorem inV_spot {v : V} (hv : Spot v) (zs : List Str) : inV v (zs.map V.str) = decide (v ∈ zs.map V.str) := by
  rcases hv with rfl | ⟨y, rfl, _⟩
  · rw [inV_non, decide_eq_false]
    intro h
    obtain ⟨z, _, e⟩ := List.mem_map.mp h
    cases e
  · rw [inV_str]
    by_cases m : y ∈ zs
    · rw [decide_eq_true m, decide_eq_true (List.mem_map_of_mem m)]
    · rw [decide_eq_false m, decide_eq_false]
      intro h
      obtain ⟨z, hz, e⟩ := List.mem_map.mp h
      cases e
      exact m hz
/-- a walk is names and one place -/
theorem track_form {tb : List (Str × V)} (h : ∀ q ∈ tb, Spot q.2) : ∀ (k : Nat) (zs : List Str) (v : V), Spot v → ∃ (ys : List Str) (u : V), track tb k zs v = ys.map V.str ++ [u] ∧ Spot u := by
  intro k
  induction k with
  | zero => exact fun zs v hv => ⟨zs, v, rfl, hv⟩
  | succ k ih =>
    intro zs v hv
    rcases hv with rfl | ⟨y, rfl, hy⟩
    · exact ⟨zs, .non, track_non, .inl rfl⟩
    · cases q : valV (tkv tb) (Sum.inr y) with
      | none => exact ⟨zs, .str y, track_out q, .inr ⟨y, rfl, hy⟩⟩
      | some u =>
        by_cases m : y ∈ zs
        · exact ⟨zs, .str y, track_ring m, .inr ⟨y, rfl, hy⟩⟩
        · rw [track_on q m]
          have hk : y ∈ tb.map (·.1) := by
            by_cases hm : y ∈ tb.map (·.1)
            · exact hm
            · rw [tkv_none hm] at q; cases q
          obtain ⟨u', h1, h2⟩ := tkv_some hk
          rw [q] at h1
          rw [Option.some.inj h1]
          exact ih _ _ (h _ h2)
section
variable {P : Program} {w : World} {K : PySem.W.Frag} {mg : Str → Option Value} {base : Heap}
def spBreaks (C : Addr) : Sp := fun vs H Q _ => ∃ (m b : Addr) (wd e : Str) (zs : List Str) (v : V) (ends dots ss ps : List Str) (o n : Str → List (Str × V)), vs = [.ref m, .str wd, .str e, .ref b] ∧ NetAt C H m ends dots ss ps o n ∧ H b = some (.lst (zs.map V.str ++ [v])) ∧ (∀ z ∈ zs, Nm z) ∧ Spot v ∧ zs.length ≤ 200 ∧ ps.length ≤ 100 ∧
  ∀ H', Evl.Ex H H' → Q (.bl (breaksB wd e ps (zs.map V.str ++ [v]))) H'
theorem sc_breaks : FnScope ["net", "wish", "goal", "places"] ["net", "wish", "goal", "places"] (defScope p_breaks) := ⟨rfl, rfl, rfl, by decide +kernel, rfl, by decide +kernel, by decide +kernel⟩
theorem ok_breaks {f C : Addr} {fd : FuncData} (F : Fun K "breaks" "breaks" p_breaks f fd) (T : NetTxt K C) (P1 : Prp P w K mg base C 1 "posts" (spPosts C)) (C1 : Cal P w K mg base 2 "posts_passed" ["posts", "places"] (spPostsPassed (K := K))) (mLen : mg "len" = none) : FnOk P w K mg base CX0 3 f fd ["net", "wish", "goal", "places"] (spBreaks C) := by
  obtain ⟨p1, g1, fd1, at1, F1, b1⟩ := P1.ex
  obtain ⟨f2, fd2, F2, k2, b2, g2⟩ := C1.ex
  refine F.ok sc_breaks (fun vs H Q E h => ?_) (fun cdv A outer s H vs Q E hr h => ?_)
  · obtain ⟨m, b, wd, e, zs, v, ends, dots, ss, ps, o, n, rfl, _⟩ := h
    rfl
  · obtain ⟨m, b, wd, e, zs, v, ends, dots, ss, ps, o, n, rfl, N, hb, hz, hv, few, few2, k⟩ := h
    refine ⟨_, pss_cons (ps_if (pt_cmpR op_eq (pv 1) pe_str (nomark _)) (pss_one (ps_ret (pe_cmpR op_isN (pe_ix ix_list (pv 3) (pe_un un_neg pe_int) (fun _ _ => rfl)) pe_non (nomark _)))) pss_nil)
      (pss_cons (ps_if (pt_cmpR op_eq (pv 1) pe_str (nomark _)) (pss_one (ps_ret (pe_and (pe_cmpR op_eq (pe_ix ix_list (pv 3) (pe_un un_neg pe_int) (fun _ _ => rfl)) (pv 2) (nomark _))
          (pe_one (pe_cmpR op_lt (pe_call F2 hr rfl g2 k2 b2 .nil pass0 (pa_cons (pe_prop (pv 0) T.cl at1 F1 hr b1 .nil pass0 rfl) (pa_cons (pv 3) pa_nil))) (pe_callB call_len (by rfl) mLen PySem.boot_len (pa_cons (pe_prop (pv 0) T.cl at1 F1 hr b1 .nil pass0 rfl) pa_nil)) (nomark _)))))) pss_nil)
      (pss_one (ps_ret (pe_cmpR op_in_seq (pe_ix ix_list (pv 3) (pe_un un_neg pe_int) (fun _ _ => rfl)) (pe_slice sl_list (pv 3) po_none (po_some (pe_un un_neg pe_int))) rfl)))), ?_⟩
    have N2 := N
    obtain ⟨dx, T', N', S, Po, rows, h1, h2, h3, h4, h5, h6, h7⟩ := N.ex
    have hl := Evl.sq_of (K := K) hb
    have spots : ∀ u ∈ zs.map V.str ++ [v], Spot u := fun u hu => by
      rcases List.mem_append.mp hu with hu | hu
      · obtain ⟨z, hz', rfl⟩ := List.mem_map.mp hu
        exact .inr ⟨z, rfl, hz z hz'⟩
      · rw [List.mem_singleton.mp hu]
        exact hv
    refine ⟨.str wd, rfl, rfl, _, rfl, ite2 (fun q => ?_) (fun q => ?_)⟩
    · have ew : wd = ("lost" : Str) := by simpa using of_decide_eq_true q
      refine ⟨.ref b, rfl, 1, rfl, b, _, -1, v, rfl, rfl, hl, atI_last _ _, rfl, ?_⟩
      have eb : breaksB wd e ps (zs.map V.str ++ [v]) = decide (v = .non) := by unfold breaksB; rw [if_pos ew, lastV_snoc]
      rw [← eb]
      exact k H (Evl.Ex.refl _)
    · have ew : ¬ wd = ("lost" : Str) := fun z => by subst z; exact absurd q (by decide)
      refine ⟨.str wd, rfl, rfl, _, rfl, ite2 (fun q2 => ?_) (fun q2 => ?_)⟩
      · have ew2 : wd = ("posts" : Str) := by simpa using of_decide_eq_true q2
        have eb : breaksB wd e ps (zs.map V.str ++ [v]) = (decide (v = .str e) && decide (passedBy ps (zs.map V.str ++ [v]) < ps.length)) := by unfold breaksB; rw [if_neg ew, if_pos ew2, lastV_snoc]
        have sc : scal v (.str e) = true := by rcases hv with rfl | ⟨y, rfl, _⟩ <;> rfl
        refine ⟨.ref b, rfl, 1, rfl, b, _, -1, v, rfl, rfl, hl, atI_last _ _, .str e, rfl, sc, decide (v = .str e), rfl, ?_⟩
        by_cases ve : v = .str e
        · rw [decide_eq_true ve]
          refine iteT ?_
          refine ⟨.ref m, rfl, m, dx, _, rfl, h1, m, ends, dots, ss, ps, o, n, rfl, N2, fun p hp => ⟨.ref b, rfl, p, b, ps, _, rfl, Evl.st_of hp, hl, few2, spots, ?_⟩⟩
          refine ⟨.ref m, rfl, m, dx, _, rfl, h1, m, ends, dots, ss, ps, o, n, rfl, N2, fun p2 hp2 => ⟨.ref p2, (ps.map V.str).length, rfl, .inr ⟨_, Evl.st_of hp2, rfl⟩, _, _, rfl, rfl, ?_⟩⟩
          have e2 : decide (((passedBy ps (zs.map V.str ++ [v]) : Nat) : Int) < (((ps.map V.str).length : Nat) : Int)) = breaksB wd e ps (zs.map V.str ++ [v]) := by
            rw [eb, decide_eq_true ve, Bool.true_and, List.length_map]
            by_cases h : passedBy ps (zs.map V.str ++ [v]) < ps.length
            · rw [decide_eq_true h, decide_eq_true (by omega)]
            · rw [decide_eq_false h, decide_eq_false (by omega)]
          have kk := k H (Evl.Ex.refl _)
          rw [← e2] at kk
          exact kk
        · rw [decide_eq_false ve]
          refine iteF ?_
          rw [decide_eq_false ve, Bool.false_and] at eb
          rw [← eb]
          exact k H (Evl.Ex.refl _)
      · have ew2 : ¬ wd = ("posts" : Str) := fun z => by subst z; exact absurd q2 (by decide)
        have eb : breaksB wd e ps (zs.map V.str ++ [v]) = decide (v ∈ zs.map V.str) := by unfold breaksB; rw [if_neg ew, if_neg ew2, lastV_snoc, List.dropLast_concat]
        refine ⟨.ref b, rfl, 1, rfl, b, _, -1, v, rfl, rfl, hl, atI_last _ _, .ref b, rfl, 1, rfl, _, rfl, b, _, rfl, hl, fun c hc => ?_⟩
        have ecut : cutV (zs.map V.str ++ [v]) none (some (-1)) = zs.map V.str := by
          rw [cut_last]
          exact List.dropLast_concat
        rw [ecut]
        have fl : flatV v = true := by rcases hv with rfl | ⟨y, rfl, _⟩ <;> rfl
        refine ⟨c, zs.map V.str, rfl, .inl (Evl.sq_of upd_same), fl, flat_strs zs, ?_⟩
        rw [inV_spot hv, ← eb]
        exact k _ (Evl.Ex.new hc)
end
end Rw
end T_PC

section T_PD
set_option Elab.async false
set_option linter.all false
set_option maxRecDepth 100000
set_option maxHeartbeats 4000000
namespace Rw
open PySem L2 PyProof.Rows LamX
/-! ### what breaks a wish -/
/-- the packet for e that begins at z, while just the nodes of on have their new ways, breaks the wish -/
def brk (dots ps : List Str) (o n : Str → List (Str × V)) (wd : Str) (on : List Str) (e z : Str) : Bool :=
  breaksB wd e ps (walkOf (nowTab dots (o e) (n e) on) (dots.length + 1) z)
def places (wd : Str) (ends dots ss : List Str) : List (Str × Str) := ends.flatMap fun e => (startsOf wd dots ss).map fun z => (e, z)
def faultAt (ends dots ss ps : List Str) (o n : Str → List (Str × V)) (wd : Str) (on : List Str) : Option (Str × Str) :=
  (places wd ends dots ss).find? fun q => brk dots ps o n wd on q.1 q.2
theorem nowTab_congr {dots : List Str} {o n : List (Str × V)} {on on' : List Str} (h : ∀ z, z ∈ on ↔ z ∈ on') : nowTab dots o n on = nowTab dots o n on' := by
  unfold nowTab
  refine List.map_congr_left fun z _ => ?_
  by_cases m : z ∈ on
  · rw [if_pos m, if_pos ((h z).mp m)]
  · rw [if_neg m, if_neg fun q => m ((h z).mpr q)]
theorem brk_congr {dots ps : List Str} {o n : Str → List (Str × V)} {wd : Str} {on on' : List Str} (h : ∀ z, z ∈ on ↔ z ∈ on') (e z : Str) : brk dots ps o n wd on e z = brk dots ps o n wd on' e z := by
  unfold brk
  rw [nowTab_congr h]
theorem faultAt_congr {ends dots ss ps : List Str} {o n : Str → List (Str × V)} {wd : Str} {on on' : List Str} (h : ∀ z, z ∈ on ↔ z ∈ on') : faultAt ends dots ss ps o n wd on = faultAt ends dots ss ps o n wd on' := by
  unfold faultAt
  congr 1
  funext q
  exact brk_congr h _ _
theorem find_here {α : Type} {p : α → Bool} {A B : List α} {x : α} (hA : ∀ a ∈ A, p a = false) (hx : p x = true) : (A ++ x :: B).find? p = some x := by
  induction A with
  | nil => rw [List.nil_append, List.find?_cons, hx]
  | cons a A ih =>
    rw [List.cons_append, List.find?_cons, hA a List.mem_cons_self]
    exact ih fun b hb => hA b (List.mem_cons_of_mem _ hb)
theorem find_none {α : Type} {p : α → Bool} {A : List α} (hA : ∀ a ∈ A, p a = false) : A.find? p = none := by
  rw [List.find?_eq_none]
  intro a ha
  rw [hA a ha]
  decide
/-- no fault ahead of this place -/
theorem fault_here {ends dots ss ps : List Str} {o n : Str → List (Str × V)} {wd : Str} {on : List Str} {i j : Nat} {e z : Str} (hi : ends[i]? = some e) (hj : (startsOf wd dots ss)[j]? = some z)
    (h1 : ∀ q ∈ places wd (ends.take i) dots ss, brk dots ps o n wd on q.1 q.2 = false) (h2 : ∀ y ∈ (startsOf wd dots ss).take j, brk dots ps o n wd on e y = false) (h3 : brk dots ps o n wd on e z = true) : faultAt ends dots ss ps o n wd on = some (e, z) := by
  unfold faultAt
  have e1 : ends = ends.take i ++ e :: ends.drop (i + 1) := by
    have hl := (List.getElem?_eq_some_iff.mp hi)
    obtain ⟨hlt, he⟩ := hl
    rw [← he, List.getElem_cons_drop, List.take_append_drop]
  have e2 : startsOf wd dots ss = (startsOf wd dots ss).take j ++ z :: (startsOf wd dots ss).drop (j + 1) := by
    obtain ⟨hlt, he⟩ := (List.getElem?_eq_some_iff.mp hj)
    rw [← he, List.getElem_cons_drop, List.take_append_drop]
  have e3 : places wd ends dots ss = (places wd (ends.take i) dots ss ++ ((startsOf wd dots ss).take j).map fun y => (e, y)) ++ (e, z) :: ((((startsOf wd dots ss).drop (j + 1)).map fun y => (e, y)) ++ places wd (ends.drop (i + 1)) dots ss) := by
    have q1 : places wd ends dots ss = places wd (ends.take i) dots ss ++ ((startsOf wd dots ss).map (fun y => (e, y)) ++ places wd (ends.drop (i + 1)) dots ss) := by
      unfold places
      conv => lhs; rw [e1]
      rw [List.flatMap_append, List.flatMap_cons]
    have q2 : (startsOf wd dots ss).map (fun y => (e, y)) = ((startsOf wd dots ss).take j).map (fun y => (e, y)) ++ (e, z) :: ((startsOf wd dots ss).drop (j + 1)).map (fun y => (e, y)) := by
      conv => lhs; rw [e2]
      rw [List.map_append, List.map_cons]
    rw [q1, q2, List.append_assoc, List.append_assoc, List.cons_append]
  rw [e3]
  refine find_here (fun q hq => ?_) h3
  rcases List.mem_append.mp hq with hq | hq
  · exact h1 q hq
  · obtain ⟨y, hy, rfl⟩ := List.mem_map.mp hq
    exact h2 y hy
/-! ### the parts in their order -/
theorem numRow_anti {p q : List Str} (h1 : numRow ((q.length : Int), q) ((p.length : Int), p) = false) (h2 : numRow ((p.length : Int), p) ((q.length : Int), q) = false) : p = q := by
  unfold numRow at h1 h2
  dsimp only at h1 h2
  by_cases e : (q.length : Int) = (p.length : Int)
  · rw [if_pos e] at h1
    rw [if_pos e.symm] at h2
    exact lexS_tot h2 h1
  · rw [if_neg e, decide_eq_false_iff_not] at h1
    rw [if_neg (fun z => e z.symm), decide_eq_false_iff_not] at h2
    omega
theorem rowsSrt_uniq : ∀ {l m : List (List Str)}, l.Perm m → RowsSrt l → RowsSrt m → l = m := by
  intro l
  induction l with
  | nil => intro m hp _ _; exact (List.nil_perm.mp hp).symm
  | cons a l ih =>
    intro m hp hl hm
    cases m with
    | nil => exact absurd hp.length_eq (by simp)
    | cons b m =>
      have hab : a = b := by
        have ha : a ∈ b :: m := hp.mem_iff.mp List.mem_cons_self
        have hb : b ∈ a :: l := hp.mem_iff.mpr List.mem_cons_self
        rcases List.mem_cons.mp ha with e | ha
        · exact e
        · rcases List.mem_cons.mp hb with e | hb
          · exact e.symm
          · exact numRow_anti ((List.pairwise_cons.mp hl).1 b hb) ((List.pairwise_cons.mp hm).1 a ha)
      subst hab
      rw [ih (List.perm_cons a |>.mp hp) (List.pairwise_cons.mp hl).2 (List.pairwise_cons.mp hm).2]
open Classical in
noncomputable def partsS (zs : List Str) : List (List Str) := if h : ∃ Ls : List (List Str), Ls.Perm (parts0 zs) ∧ RowsSrt Ls then Classical.choose h else parts0 zs
theorem partsS_is {zs : List Str} {Ls : List (List Str)} (hp : Ls.Perm (parts0 zs)) (hs : RowsSrt Ls) : Ls = partsS zs := by
  have h : ∃ Ls : List (List Str), Ls.Perm (parts0 zs) ∧ RowsSrt Ls := ⟨Ls, hp, hs⟩
  unfold partsS
  rw [dif_pos h]
  have c := Classical.choose_spec h
  exact rowsSrt_uniq (hp.trans c.1.symm) hs c.2
theorem partsS_sub {zs : List Str} {p : List Str} (h : p ∈ partsS zs) : p.Sublist zs := by
  unfold partsS at h
  split at h
  · rename_i c
    exact parts0_sub ((Classical.choose_spec c).1.mem_iff.mp h)
  · exact parts0_sub h
theorem partsS_has {zs : List Str} {p : List Str} (h : p.Sublist zs) : p ∈ partsS zs := by
  unfold partsS
  split
  · rename_i c
    exact (Classical.choose_spec c).1.mem_iff.mpr (parts0_has h)
  · exact parts0_has h
/-- the first fault of a round -/
noncomputable def firstFault (ends dots ss ps : List Str) (o n : Str → List (Str × V)) (wd : Str) (zs ys : List Str) : Option (Str × List Str × Str) :=
  (partsS ys).findSome? fun on => (faultAt ends dots ss ps o n wd (zs ++ on)).map fun q => (q.1, on, q.2)
theorem findSome_here {α β : Type} {f : α → Option β} {A B : List α} {x : α} {b : β} (hA : ∀ a ∈ A, f a = none) (hx : f x = some b) : (A ++ x :: B).findSome? f = some b := by
  induction A with
  | nil => rw [List.nil_append, List.findSome?_cons, hx]
  | cons a A ih =>
    rw [List.cons_append, List.findSome?_cons, hA a List.mem_cons_self]
    exact ih fun b hb => hA b (List.mem_cons_of_mem _ hb)
theorem findSome_none {α β : Type} {f : α → Option β} {A : List α} (hA : ∀ a ∈ A, f a = none) : A.findSome? f = none := by
  rw [List.findSome?_eq_none_iff]
  exact hA
end Rw
end T_PD

section T_BD
set_option Elab.async false
set_option linter.all false
set_option maxRecDepth 100000
set_option maxHeartbeats 8000000
namespace Rw
open PySem L2 PyProof.Rows
section
variable {P : Program} {w : World} {K : PySem.W.Frag} {mg : Str → Option Value} {base : Heap}
/-! ### some of some names -/
def spSomeS (K : PySem.W.Frag) : Sp := fun vs H Q _ => ∃ (d g c a : Addr) (zs : List Str), vs = [.ref d, .ref a] ∧ DrawAt H d g c ∧ SqL K (off d g H) a (zs.map V.str) ∧ zs.length ≤ 10 ∧
  ∀ (p : Addr) (ys : List Str) (H' : Hp), ys.Sublist zs → DrawAt H' d g c → Evl.Ex (off d g H) (off d g H') → off d g H' p = some (.tup (ys.map V.str)) → Q (.ref p) H'
abbrev nSomeS : List Str := ["draw", "names", "odds", "name"]
theorem sc_someS : FnScope nSomeS ["draw", "names"] (defScope s_some) := ⟨rfl, rfl, rfl, by decide +kernel, rfl, by decide +kernel, by decide +kernel⟩
theorem ok_someS {f : Addr} {fd : FuncData} (F : Fun K "_law_some" "_law_some" s_some f fd) (CT : Cal P w K mg base 2 "_law_take" ["draw", "size"] spTake) (CP : Cal P w K mg base 3 "_law_pick" ["draw", "some"] (spPickL K)) (mTup : mg "tuple" = none) :
    FnOk P w K mg base CX0 4 f fd ["draw", "names"] (spSomeS K) := by
  obtain ⟨fT, fdT, T, kT, bT, gT⟩ := CT.ex
  obtain ⟨fP, fdP, PL, kP, bP, gP⟩ := CP.ex
  refine F.ok sc_someS (fun vs H Q E h => ?_) (fun cdv A outer s H vs Q E hr h => ?_)
  · obtain ⟨d, g, c, a, zs, rfl, _⟩ := h
    rfl
  · obtain ⟨d, g, c, a, zs, rfl, D, hS, few, k⟩ := h
    have nd := sc_someS.nd
    have hr2 : Room 2 _ := hr.mono (by decide)
    refine ⟨_, pss_cons (ps_set (i := 2) nd rfl (.inr rfl) (pe_call PL hr rfl gP kP bP .nil pass0 (pa_cons (pv 0) (pa_cons (pe_lst (pa_cons pe_int (pa_cons pe_int (pa_cons pe_int (pa_cons pe_int pa_nil))))) pa_nil))))
      (pss_one (ps_ret (pe_callTy call_tuple_of (by rfl) mTup (by decide +kernel) (pa_cons
        (pe_lc (own := [("name", 3)]) (g := gName 3) (tt := tTest (tOp rEq (tCall spTake [] E0 (tCons (tVar 0) (tCons (tVar 2) tNil))) (tC (.int 0)))) (te := tVar 3) rfl nd (pi_list (pv 1)) (blkOk_by (own := [("name", 3)]) (N := nSomeS) (sc := defScope s_some) (by decide +kernel))
          (fun _ _ _ _ _ => pg_name (i := 3) nd rfl (Or.inl rfl)) (fun _ _ _ _ _ => pts_one (pt_cmpR op_eq (pe_call T hr2 rfl gT kT bT .nil pass0 (pa_cons (pv 0) (pa_cons (pv 2) pa_nil))) pe_int (nomark _))) (fun _ _ _ _ _ => pv 3)) pa_nil)))), ?_⟩
    refine ⟨.ref d, rfl, by show 4 ≤ sizeLine; decide, fun p1 hp1 => ?_⟩
    obtain ⟨D1, x1, s1, _, _⟩ := off_new (o := .lst [.int 2, .int 2, .int 3, .int 5]) D (Evl.Ex.refl _) hp1
    generalize upd H p1 (.lst [.int 2, .int 2, .int 3, .int 5]) = H1 at D1 x1 s1
    refine ⟨d, g, c, p1, _, rfl, D1, Evl.sq_of s1, by decide, by decide, fun i v H2 hv D2 x2 => ?_⟩
    obtain ⟨u, rfl, u1, u2⟩ : ∃ u : Nat, v = .int (u : Int) ∧ 1 ≤ u ∧ u ≤ 5 := by
      have hm := List.mem_of_getElem? hv
      simp only [List.mem_cons, List.not_mem_nil, or_false] at hm
      rcases hm with rfl | rfl | rfl | rfl
      · exact ⟨2, rfl, by omega, by omega⟩
      · exact ⟨2, rfl, by omega, by omega⟩
      · exact ⟨3, rfl, by omega, by omega⟩
      · exact ⟨5, rfl, by omega, by omega⟩
    have x02 := x1.trans x2
    refine ⟨.ref a, rfl, a, rfl, ⟨_, Evl.ex_l (x02.trans (ex_off d g H2)) hS⟩, fun L hL => ?_⟩
    obtain ⟨D3, x3, s3, LF, y3⟩ := off_new (o := .lst []) D2 (Evl.Ex.refl _) hL
    have Lc := (D2.ned hL).2.2
    refine lc_list (K := K) (a := a) (xs := zs.map V.str)
      (fun j H' => ∃ (l : List Str), l.Sublist (zs.take j) ∧ off d g H' L = some (.lst (l.map V.str)) ∧ DrawAt H' d g c ∧ Evl.Ex (off d g H2) (off d g H')) ⟨[], List.nil_sublist _, s3, D3, x3⟩ (fun j H' _ ⟨_, _, _, _, h⟩ => Evl.ex_l ((x02.trans h).trans (ex_off d g H')) hS) ?_ ?_
    · rintro j x H4 hj ⟨l, hl, s4, D4, x4⟩
      obtain ⟨z, hz, rfl⟩ := str_at hj
      have et : zs.take (j + 1) = zs.take j ++ [z] := by rw [List.take_add_one, hz]; rfl
      refine ⟨rfl, .ref d, rfl, .int (u : Int), rfl, d, g, c, (u : Int), rfl, by omega, by omega, D4, fun t0 H5 t00 t01 D5 x5 => ?_⟩
      have s5 := x5 _ _ s4
      have y5 := x4.trans x5
      refine ⟨rfl, _, rfl, ?_⟩
      by_cases q : t0 = 0
      · subst q
        refine iteT ?_
        have ll : l.length ≤ 10 := Nat.le_trans hl.length_le (by rw [List.length_take]; omega)
        obtain ⟨DD, xD, sD⟩ := off_put (o := .lst (l.map V.str ++ [V.str z])) D5 y5 LF s5 Lc
        refine ⟨.str z, rfl, _, (off_some s5).2.2, by rw [List.length_map]; exact small1000 (by omega), l ++ [z], ?_, ?_, DD, xD⟩
        · rw [et]
          exact hl.append (List.Sublist.refl _)
        · rw [List.map_append]
          exact sD
      · have hq : decide (V.int t0 = V.int 0) = false := decide_eq_false fun w => q (V.int.inj w)
        rw [hq]
        refine iteF ?_
        exact ⟨l, by rw [et]; exact hl.trans (List.sublist_append_left _ _), s5, D5, y5⟩
    · rintro H4 ⟨l, hl, s4, D4, x4⟩
      rw [List.length_map, List.take_length] at hl
      refine ⟨L, _, rfl, .inl ⟨Evl.sq_of (off_some s4).2.2, fun p hp => ?_⟩⟩
      obtain ⟨D5, x5, s5, _, _⟩ := off_new (o := .tup (l.map V.str)) D4 (x02.trans x4) hp
      exact k p l _ hl D5 x5 s5
/-! ### some wishes -/
def spWordsS : Sp := fun vs H Q _ => ∃ (d g c : Addr), vs = [.ref d] ∧ DrawAt H d g c ∧
  ∀ (p : Addr) (ws : List Str) (H' : Hp), ws.Nodup → (∀ x ∈ ws, x ∈ (["home", "lost", "posts", "rings"] : List Str)) → DrawAt H' d g c → Evl.Ex (off d g H) (off d g H') → off d g H' p = some (.lst (ws.map V.str)) → Q (.ref p) H'
/-! ### the nodes that change and are not done -/
def restOf (zs ys : List Str) : List Str := ys.filter fun z => decide (z ∉ zs)
def spRestS : Sp := fun vs H Q _ => ∃ (m a nb tb sb pb : Addr) (zs ends dots ss ps : List Str) (rows : List (Str × V)) (o n : Str → List (Str × V)), vs = [.ref m, .ref a] ∧ ModelS H m nb tb sb pb ends dots ss ps rows o n ∧ H a = some (.tup (zs.map V.str)) ∧
  ∀ p H', Evl.Ex H H' → H p = none → H' p = some (.lst ((restOf zs (moving ends dots o n)).map V.str)) → Q (.ref p) H'
abbrev nRestS : List Str := ["model", "done", "node"]
theorem sc_restS : FnScope nRestS ["model", "done"] (defScope s_rest) := ⟨rfl, rfl, rfl, by decide +kernel, rfl, by decide +kernel, by decide +kernel⟩
theorem ok_restS {f : Addr} {fd : FuncData} (F : Fun K "_law_rest" "_law_rest" s_rest f fd) (CV : Cal P w K mg base 1 "_law_moved" ["model"] spMovedS) : FnOk P w K mg base CX0 2 f fd ["model", "done"] spRestS := by
  obtain ⟨fV, fdV, MV, kV, bV, gV⟩ := CV.ex
  refine F.ok sc_restS (fun vs H Q E h => ?_) (fun cdv A outer s H vs Q E hr h => ?_)
  · obtain ⟨m, a, nb, tb, sb, pb, zs, ends, dots, ss, ps, rows, o, n, rfl, _⟩ := h
    rfl
  · obtain ⟨m, a, nb, tb, sb, pb, zs, ends, dots, ss, ps, rows, o, n, rfl, MS, ha, k⟩ := h
    have nd := sc_restS.nd
    refine ⟨_, pss_one (ps_ret (pe_lc (own := [("node", 2)]) (g := gName 2) (tt := tTest (tOp (rIn K true) (tVar 2) (tVar 1))) (te := tVar 2) rfl nd (pi_list (pe_call MV hr rfl gV kV bV .nil pass0 (pa_cons (pv 0) pa_nil))) (blkOk_by (own := [("node", 2)]) (N := nRestS) (sc := defScope s_rest) (by decide +kernel))
          (fun _ _ _ _ _ => pg_name (i := 2) nd rfl (Or.inl rfl)) (fun _ _ _ _ _ => pts_one (pt_cmpR op_notIn_seq (pv 2) (pv 1) rfl)) (fun _ _ _ _ _ => pv 2))), ?_⟩
    refine ⟨.ref m, rfl, m, nb, tb, sb, pb, ends, dots, ss, ps, rows, o, n, rfl, MS, fun l H1 x1 _ hl => ?_⟩
    have ml : (moving ends dots o n).length ≤ 6 := Nat.le_trans (List.length_filter_le _ _) MS.ok.d6
    generalize moving ends dots o n = ys at hl ml k
    refine ⟨l, rfl, ⟨_, Evl.sq_of hl⟩, fun L hL => lc_list (K := K) (a := l) (xs := ys.map V.str)
      (fun i H' => Evl.Ex H1 H' ∧ H' L = some (.lst ((restOf zs (ys.take i)).map V.str))) ⟨Evl.Ex.new hL, upd_same⟩ (fun i H' _ h => Evl.sq_of (h.1 _ _ hl)) ?_ ?_⟩
    · rintro i y H2 hi ⟨x2, l2⟩
      obtain ⟨z, hz, rfl⟩ := str_at hi
      have et : restOf zs (ys.take (i + 1)) = restOf zs (ys.take i) ++ if z ∈ zs then [] else [z] := by
        unfold restOf
        rw [List.take_add_one, hz, List.filter_append]
        show _ ++ List.filter _ [z] = _
        by_cases m : z ∈ zs
        · rw [if_pos m, List.filter_cons_of_neg (by simpa using m)]
          rfl
        · rw [if_neg m, List.filter_cons_of_pos (by simpa using m)]
          rfl
      have few : (restOf zs (ys.take i)).length ≤ 6 := Nat.le_trans (List.length_filter_le _ _) (by rw [List.length_take]; omega)
      refine ⟨rfl, .str z, rfl, .ref a, rfl, a, zs.map V.str, rfl, .inr (Evl.st_of ((x1.trans x2) _ _ ha)), rfl, flat_strs zs, _, rfl, ?_⟩
      rw [inV_str]
      by_cases m : z ∈ zs
      · rw [decide_eq_true m]
        refine iteF ⟨x2, ?_⟩
        rw [l2, et, if_pos m, List.append_nil]
      · rw [decide_eq_false m]
        refine iteT ⟨.str z, rfl, _, l2, by rw [List.length_map]; exact small1000 (by omega), x2.mut hL, ?_⟩
        rw [upd_same, et, if_neg m, List.map_append]
        rfl
    · rintro H2 ⟨x2, l2⟩
      rw [List.length_map, List.take_length] at l2
      exact k L H2 (x1.trans x2) (ex_none x1 hL) l2
end
end Rw
end T_BD

section T_BE
set_option Elab.async false
set_option linter.all false
set_option maxRecDepth 100000
set_option maxHeartbeats 8000000
namespace Rw
open PySem L2 PyProof.Rows
/-- a + b of tuples that stand in the heap -/
def rCatU : R2 := fun x y H Q => ∃ (a b : Addr) (xs ys : List V), x = .ref a ∧ y = .ref b ∧ H a = some (.tup xs) ∧ H b = some (.tup ys) ∧ xs.length + ys.length ≤ sizeLine ∧ ∀ q H', Evl.Ex H H' → H' q = some (.tup (xs ++ ys)) → Q (.ref q) H'
theorem op_catU {X : Cx} : OpR X (binaryOp .Add) rCatU := by
  intro pins s σ H x y v u Q I rx ry h
  obtain ⟨a, b, xs, ys, rfl, rfl, ha, hb, hz, k⟩ := h
  refine op_catA pins s σ H _ _ v u Q I rx ry ⟨a, b, xs, ys, rfl, rfl, Evl.st_of ha, Evl.st_of hb, hz, fun e => ?_, fun _ e => ?_, fun _ _ p hp => ?_⟩
  · subst e
    exact k b H (Evl.Ex.refl H) hb
  · subst e
    refine k a H (Evl.Ex.refl H) ?_
    rw [List.append_nil]
    exact ha
  · exact k p _ (Evl.Ex.new hp) upd_same
def keyN (H : Hp) : V → Int × List Str
  | .ref t => match H t with
    | some (.tup [.int i, b]) => (i, rowAt H b)
    | _ => (0, [])
  | _ => (0, [])
theorem keyN_of {H : Hp} {t b : Addr} {i : Int} {zs : List Str} (h1 : H t = some (.tup [.int i, .ref b])) (h2 : H b = some (.tup (zs.map V.str))) : keyN H (.ref t) = (i, zs) := by
  show (match H t with | some (.tup [.int i, b]) => (i, rowAt H b) | _ => (0, [])) = (i, zs)
  rw [h1]
  show (i, rowAt H (.ref b)) = (i, zs)
  rw [rowAt_of h2]
theorem perm_map {α β : Type} {g : α → β} {ys xs : List β} (h : ys.Perm xs) : ∀ l : List α, xs = l.map g → ∃ l' : List α, ys = l'.map g ∧ l'.Perm l := by
  induction h with
  | nil => intro l e; exact ⟨[], rfl, by cases l with | nil => exact .refl _ | cons _ _ => cases e⟩
  | cons x _ ih =>
    intro l e
    cases l with
    | nil => cases e
    | cons a l =>
      obtain ⟨e1, e2⟩ := List.cons.inj e
      obtain ⟨l', h1, h2⟩ := ih l e2
      exact ⟨a :: l', by rw [h1, e1]; rfl, h2.cons a⟩
  | swap x y t =>
    intro l e
    match l, e with
    | a :: b :: l, e =>
      obtain ⟨e1, e2⟩ := List.cons.inj e
      obtain ⟨e3, e4⟩ := List.cons.inj e2
      exact ⟨b :: a :: l, by rw [e1, e3, e4]; rfl, .swap a b l⟩
  | trans _ _ ih1 ih2 =>
    intro l e
    obtain ⟨l1, h1, h2⟩ := ih2 l e
    obtain ⟨l2, h3, h4⟩ := ih1 l1 h1
    exact ⟨l2, h3, h4.trans h2⟩
section
variable {P : Program} {w : World} {K : PySem.W.Frag} {mg : Str → Option Value} {base : Heap}
/-! ### all parts, as the law tells them -/
def spLParts (K : PySem.W.Frag) : Sp := fun vs H Q _ => ∃ (a : Addr) (zs : List Str), vs = [.ref a] ∧ SqL K H a (zs.map V.str) ∧ zs.length ≤ 6 ∧
  ∀ (p : Addr) (H' : Hp) (L : List (Addr × List Str)), Evl.Ex H H' → H p = none → H' p = some (.lst (L.map fun q => V.ref q.1)) → RowsT H' L → L.map (·.2) = partsS zs → Q (.ref p) H'
abbrev nLParts : List Str := ["some", "found", "name", "part", "many"]
theorem sc_lparts : FnScope nLParts ["some"] (defScope s_parts) := ⟨rfl, rfl, rfl, by decide +kernel, rfl, by decide +kernel, by decide +kernel⟩
theorem ok_lparts {f : Addr} {fd : FuncData} (F : Fun K "_law_parts" "_law_parts" s_parts f fd) (mLen : mg "len" = none) (mSorted : mg "sorted" = none) : FnOk P w K mg base CX0 1 f fd ["some"] (spLParts K) := by
  refine F.ok sc_lparts (fun vs H Q E h => ?_) (fun cdv A outer s H vs Q E hr h => ?_)
  · obtain ⟨a, zs, rfl, _⟩ := h
    rfl
  · obtain ⟨a, zs, rfl, hS, h6, k⟩ := h
    have nd := sc_lparts.nd
    refine ⟨_, pss_cons (ps_set (i := 1) nd rfl (.inl rfl) (pe_lst (pa_cons (pe_tup pa_nil) pa_nil)))
      (pss_cons (ps_for PassesOwn.never rfl (pi_list (pv 0)) (pg_name (i := 2) nd rfl (.inr rfl))
        (pss_one (ps_set (i := 1) nd rfl (.inl rfl) (pe_op op_cat (pv 1)
          (pe_lc (own := [("part", 3)]) (g := gName 3) (tt := tYes) (te := tOp rCatU (tVar 3) (tTup (tCons (tVar 2) tNil))) rfl nd (pi_list (pv 1)) (blkOk_by (own := [("part", 3)]) (N := nLParts) (sc := defScope s_parts) (by decide +kernel))
            (fun _ _ _ _ _ => pg_name (i := 3) nd rfl (Or.inl rfl)) (fun _ _ _ _ _ => pts_nil) (fun _ _ _ _ _ => pe_op op_catU (pv 3) (pe_tup (pa_cons (pv 2) pa_nil))))))))
      (pss_one (ps_ret (pe_lc (own := [("many", 4), ("part", 3)]) (g := gTup K 2 (gCons (gName 4) (gCons (gName 3) gNil))) (tt := tYes) (te := tVar 3) rfl nd
          (pi_list (pe_callB (cr_sortNR (Nat.lt_of_le_of_lt (Nat.add_le_add_left (show 2 ≤ 64 by decide) _) hr.units)) (by rfl) mSorted (by decide +kernel) (pa_cons (pe_lc (own := [("part", 3)]) (g := gName 3) (tt := tYes) (te := tTup (tCons (tCB (fun xs H Q => ∃ x n, xs = [x] ∧ LenV K x H n ∧ Q (.int (n : Nat)) H) (tCons (tVar 3) tNil)) (tCons (tVar 3) tNil))) rfl nd (pi_list (pv 1)) (blkOk_by (own := [("part", 3)]) (N := nLParts) (sc := defScope s_parts) (by decide +kernel))
            (fun _ _ _ _ _ => pg_name (i := 3) nd rfl (Or.inl rfl)) (fun _ _ _ _ _ => pts_nil) (fun _ _ _ _ _ => pe_tup (pa_cons (pe_callB call_len (by rfl) mLen PySem.boot_len (pa_cons (pv 3) pa_nil)) (pa_cons (pv 3) pa_nil)))) pa_nil)))
          (blkOk_by (own := [("many", 4), ("part", 3)]) (N := nLParts) (sc := defScope s_parts) (by decide +kernel))
          (fun _ _ _ _ _ => pg_tup rfl (pgs_cons (pg_name (i := 4) nd rfl (Or.inl rfl)) (pgs_cons (pg_name (i := 3) nd rfl (Or.inl rfl)) pgs_nil))) (fun _ _ _ _ _ => pts_nil) (fun _ _ _ _ _ => pv 3))))), ?_⟩
    -- found = [()]
    refine ⟨by show 0 ≤ sizeLine; decide, fun e0 he0 => ⟨by show 1 ≤ sizeLine; decide, fun p0 hp0 => ?_⟩⟩
    have x1 : Evl.Ex H (upd (upd H e0 (.tup [])) p0 (.lst [.ref e0])) := (Evl.Ex.new he0).trans (Evl.Ex.new hp0)
    have l1 : (upd (upd H e0 (.tup [])) p0 (.lst [.ref e0])) p0 = some (.lst ([(e0, ([] : List Str))].map fun q => V.ref q.1)) := upd_same
    have t1 : RowsT (upd (upd H e0 (.tup [])) p0 (.lst [.ref e0])) [(e0, [])] := fun q hq => by
      rw [List.mem_singleton.mp hq]
      rw [upd_ne (ne_of_none (upd_same (H := H) (a := e0) (o := .tup [])) hp0)]
      exact upd_same
    generalize upd (upd H e0 (.tup [])) p0 (.lst [.ref e0]) = H1 at x1 l1 t1
    refine ⟨.ref a, rfl, a, rfl, ⟨_, Evl.ex_l x1 hS⟩, for_list (K := K) (a := a) (xs := zs.map V.str)
      (fun i σ H' => i ≤ zs.length ∧ Evl.Ex H H' ∧ ∃ (p : Addr) (L : List (Addr × List Str)) (x2 : Option V), σ = [some (.ref a), some (.ref p), x2, none, none] ∧ H' p = some (.lst (L.map fun q => V.ref q.1)) ∧ RowsT H' L ∧ L.map (·.2) = parts0 (zs.take i))
      ⟨Nat.zero_le _, x1, p0, [(e0, [])], none, rfl, l1, t1, rfl⟩ (fun i σ H' _ h => Evl.ex_l h.2.1 hS) ?_ ?_⟩
    · rintro i y σ H2 hi ⟨_, x2, p, L, v2, rfl, hp, tL, eL⟩
      obtain ⟨z, hz, rfl⟩ := str_at hi
      have hil : i < zs.length := (List.getElem?_eq_some_iff.mp hz).1
      have few : L.length ≤ 64 := by
        have h1 := congrArg List.length eL
        rw [List.length_map, parts0_len i _ (by rw [List.length_take]; omega)] at h1
        rw [h1]
        exact Nat.le_trans (Nat.pow_le_pow_right (by decide) (by omega : i ≤ 6)) (by decide)
      have rowsLen : ∀ q ∈ L, q.2.length ≤ 6 := fun q hq => by
        have hm : q.2 ∈ parts0 (zs.take i) := by rw [← eL]; exact List.mem_map_of_mem hq
        exact Nat.le_trans (parts0_sub hm).length_le (by rw [List.length_take]; omega)
      refine ⟨.ref p, rfl, .ref p, rfl, p, rfl, ⟨_, Evl.sq_of hp⟩, fun D hD => lc_list (K := K) (a := p) (xs := L.map fun q => V.ref q.1)
        (fun j H' => j ≤ L.length ∧ Evl.Ex H2 H' ∧ ∃ M : List (Addr × List Str), H' D = some (.lst (M.map fun q => V.ref q.1)) ∧ RowsT H' M ∧ M.map (·.2) = (L.take j).map fun q => q.2 ++ [z])
        ⟨Nat.zero_le _, Evl.Ex.new hD, [], upd_same, (fun q hq => nomatch hq), rfl⟩ (fun j H' _ h => Evl.sq_of (h.2.1 _ _ hp)) ?_ ?_⟩
      · rintro j v H3 hj ⟨_, x3, M, hM, tM, eM⟩
        obtain ⟨q, hq, rfl⟩ := rowsT_at hj
        have hjl : j < L.length := (List.getElem?_eq_some_iff.mp hq).1
        have mq := List.mem_of_getElem? hq
        have tq := x3 _ _ (tL q mq)
        have Ml : M.length ≤ 64 := by
          have := congrArg List.length eM
          rw [List.length_map, List.length_map, List.length_take] at this
          omega
        refine ⟨rfl, yes_if ?_⟩
        refine ⟨.ref q.1, rfl, .str z, rfl, by show 1 ≤ sizeLine; decide, fun s hs => ?_⟩
        have y0 : Evl.Ex H3 (upd H3 s (.tup [.str z])) := Evl.Ex.new hs
        have s0 : (upd H3 s (.tup [.str z])) s = some (.tup [.str z]) := upd_same
        generalize upd H3 s (.tup [.str z]) = H3' at y0 s0
        refine ⟨q.1, s, _, _, rfl, rfl, y0 _ _ tq, s0, ?_, fun t H4 y1 t2 => ?_⟩
        · rw [List.length_map]
          have := rowsLen q mq
          exact Nat.le_of_lt (small1000 (by simp only [List.length_cons, List.length_nil]; omega))
        have t2' : H4 t = some (.tup ((q.2 ++ [z]).map V.str)) := by rw [t2, List.map_append]; rfl
        have y01 := y0.trans y1
        refine ⟨_, y01 _ _ hM, by rw [List.length_map]; exact small1000 (by omega), hjl, (x3.trans y01).mut hD, M ++ [(t, q.2 ++ [z])], ?_, ?_, ?_⟩
        · rw [upd_same, List.map_append]
          rfl
        · refine RowsT.mut (RowsT.app (tM.to y01) fun q' hq' => ?_) (y01 _ _ hM)
          rw [List.mem_singleton.mp hq']
          exact t2'
        · rw [List.map_append, eM, List.take_add_one, hq, List.map_append]
          rfl
      · rintro H3 ⟨_, x3, M, hM, tM, eM⟩
        rw [List.length_map, List.take_length] at eM
        have Ml : M.length ≤ 64 := by
          have := congrArg List.length eM
          rw [List.length_map, List.length_map] at this
          omega
        refine ⟨p, D, _, _, rfl, rfl, x3 _ _ hp, hM, Nat.le_of_lt (small1000 (by rw [List.length_map, List.length_map]; omega)), fun r hr' => ?_⟩
        refine ⟨hil, (x2.trans x3).trans (Evl.Ex.new hr'), r, L ++ M, _, rfl, ?_, RowsT.to (RowsT.app (tL.to x3) tM) (Evl.Ex.new hr'), ?_⟩
        · rw [upd_same, List.map_append]
        · rw [List.map_append, eM, eL, List.take_add_one, hz]
          show _ = parts0 (zs.take i ++ [z])
          rw [parts0_snoc, ← eL, List.map_map]
          rfl
    · rintro σ H2 ⟨_, x2, p, L, v2, rfl, hp, tL, eL⟩
      rw [List.length_map, List.take_length] at eL
      have few : L.length ≤ 64 := by
        have h1 := congrArg List.length eL
        rw [List.length_map, parts0_len zs.length _ rfl] at h1
        rw [h1]
        exact Nat.le_trans (Nat.pow_le_pow_right (by decide) h6) (by decide)
      -- the pairs
      refine ⟨.ref p, rfl, p, rfl, ⟨_, Evl.sq_of hp⟩, fun R hR => lc_list (K := K) (a := p) (xs := L.map fun q => V.ref q.1)
        (fun i H' => ∃ T : List (Addr × Addr × List Str), H' R = some (.lst (T.map fun t => V.ref t.1)) ∧ T.map (·.2) = L.take i ∧ (∀ t ∈ T, H' t.1 = some (.tup [.int ((t.2.2.length : Nat) : Int), .ref t.2.1])) ∧ Evl.Ex H2 H')
        ⟨[], upd_same, rfl, (fun t ht => nomatch ht), Evl.Ex.new hR⟩ (fun i H' _ h => let ⟨_, _, _, _, h⟩ := h; Evl.sq_of (h _ _ hp)) ?_ ?_⟩
      · rintro i v H6 hi ⟨T, t6, eT, tt, x6⟩
        obtain ⟨q, hq, rfl⟩ := rowsT_at hi
        have tq := x6 _ _ (tL q (List.mem_of_getElem? hq))
        have Tl : T.length ≤ 64 := by
          have := congrArg List.length eT
          rw [List.length_map, List.length_take] at this
          omega
        refine ⟨rfl, ?_⟩
        refine yes_if ?_
        refine ⟨.ref q.1, rfl, .ref q.1, (q.2.map V.str).length, rfl, .inr ⟨_, Evl.st_of tq, rfl⟩, .ref q.1, rfl, by show 2 ≤ sizeLine; decide, fun t ht => ?_⟩
        have y6 : Evl.Ex H6 (upd H6 t (.tup [.int ((q.2.map V.str).length : Nat), .ref q.1])) := Evl.Ex.new ht
        have t7 : (upd H6 t (.tup [.int ((q.2.map V.str).length : Nat), .ref q.1])) t = some (.tup [.int (q.2.length : Nat), .ref q.1]) := by rw [upd_same, List.length_map]
        generalize upd H6 t (.tup [.int ((q.2.map V.str).length : Nat), .ref q.1]) = H7 at y6 t7
        refine ⟨_, y6 _ _ t6, by rw [List.length_map]; exact small1000 (by omega), T ++ [(t, q)], ?_, ?_, fun u hu => ?_, (x6.trans y6).mut hR⟩
        · rw [upd_same, List.map_append]
          rfl
        · rw [List.map_append, eT, List.take_add_one, hq]
          rfl
        · rcases List.mem_append.mp hu with hu | hu
          · rw [upd_ne (ne_of (y6 _ _ (tt u hu)) (y6 _ _ t6) (by intro z; cases z))]
            exact y6 _ _ (tt u hu)
          · rw [List.mem_singleton.mp hu]
            show (upd H7 R _) t = _
            rw [upd_ne (ne_of t7 (y6 _ _ t6) (by intro z; cases z))]
            exact t7
      · rintro H6 ⟨T, t6, eT, tt, x6⟩
        rw [List.length_map, List.take_length] at eT
        have mT : ∀ t ∈ T, t.2 ∈ L := fun t ht => by rw [← eT]; exact List.mem_map_of_mem ht
        have keys : ∀ t ∈ T, keyN H6 (.ref t.1) = (((t.2.2.length : Nat) : Int), t.2.2) := fun t ht => keyN_of (tt t ht) (x6 _ _ (tL _ (mT t ht)))
        refine ⟨R, T.map (fun t => V.ref t.1), keyN H6, rfl, Evl.sq_of t6, fun x hx => ?_, fun ys so perm srd hso => ?_⟩
        · obtain ⟨t, ht, rfl⟩ := List.mem_map.mp hx
          refine ⟨t.1, t.2.1, rfl, ?_, ?_⟩
          · rw [keys t ht]
            exact tt t ht
          · rw [keys t ht]
            exact x6 _ _ (tL _ (mT t ht))
        obtain ⟨T', rfl, pT⟩ := perm_map perm T rfl
        have y7 : Evl.Ex H6 (upd H6 so (.lst (T'.map fun t => V.ref t.1))) := Evl.Ex.new hso
        have s7 : (upd H6 so (.lst (T'.map fun t => V.ref t.1))) so = some (.lst (T'.map fun t => V.ref t.1)) := upd_same
        generalize upd H6 so (.lst (T'.map fun t => V.ref t.1)) = H7 at y7 s7
        have mT' : ∀ t ∈ T', t ∈ T := fun t ht => pT.mem_iff.mp ht
        have Tl : T'.length ≤ 64 := by
          have := congrArg List.length eT
          rw [List.length_map, ← pT.length_eq] at this
          omega
        refine ⟨so, rfl, ⟨_, Evl.sq_of s7⟩, fun R2 hR2 => lc_list (K := K) (a := so) (xs := T'.map fun t => V.ref t.1)
          (fun i H' => H' R2 = some (.lst ((T'.take i).map fun t => V.ref t.2.1)) ∧ Evl.Ex H7 H') ⟨upd_same, Evl.Ex.new hR2⟩ (fun i H' _ h => Evl.sq_of (h.2 _ _ s7)) ?_ ?_⟩
        · rintro i v H8 hi ⟨a8, x8⟩
          rw [List.getElem?_map] at hi
          obtain ⟨t, ht, rfl⟩ : ∃ t, T'[i]? = some t ∧ v = .ref t.1 := by
            cases e : T'[i]? with
            | none => rw [e] at hi; cases hi
            | some t => rw [e] at hi; exact ⟨t, rfl, (Option.some.inj hi).symm⟩
          have mt := mT' t (List.mem_of_getElem? ht)
          refine ⟨t.1, _, rfl, Evl.st_of ((y7.trans x8) _ _ (tt t mt)), rfl, _, _, rfl, _, [], rfl, rfl, rfl, ?_⟩
          refine yes_if ?_
          refine ⟨.ref t.2.1, rfl, _, a8, ?_, ?_, x8.mut hR2⟩
          · rw [List.length_map, List.length_take]
            exact small1000 (by omega)
          · rw [upd_same, List.take_add_one, ht, List.map_append]
            rfl
        · rintro H8 ⟨a8, x8⟩
          rw [List.length_map, List.take_length] at a8
          have x28 := (x6.trans y7).trans x8
          have hR2' : H R2 = none := ex_none (x2.trans (x6.trans y7)) hR2
          refine k R2 H8 (T'.map (·.2)) (x2.trans x28) hR2' (by rw [a8, List.map_map]; rfl) (fun q hq => ?_) (partsS_is ?_ ?_)
          · obtain ⟨t, ht, rfl⟩ := List.mem_map.mp hq
            exact x28 _ _ (tL _ (mT t (mT' t ht)))
          · rw [← eL, ← eT]
            exact (pT.map _).map _
          · show List.Pairwise _ _
            rw [List.map_map, List.pairwise_map]
            refine List.Pairwise.imp_of_mem (fun {a b} ha hb h => ?_) (List.pairwise_map.mp srd)
            have h' : numRow (keyN H6 (.ref b.1)) (keyN H6 (.ref a.1)) = false := h
            rw [keys a (mT' a ha), keys b (mT' b hb)] at h'
            exact h'
end
end Rw
end T_BE

section T_PE
set_option Elab.async false
set_option linter.all false
set_option maxRecDepth 100000
set_option maxHeartbeats 4000000
namespace Rw
open PySem L2 PyProof.Rows LamX
structure TabsOk (ends dots : List Str) (o n : Str → List (Str × V)) : Prop where
  to : ∀ e ∈ ends, TabOk dots e (o e)
  tn : ∀ e ∈ ends, TabOk dots e (n e)
theorem places_snoc (wd : Str) (l : List Str) (e : Str) (dots ss : List Str) : places wd (l ++ [e]) dots ss = places wd l dots ss ++ (startsOf wd dots ss).map fun z => (e, z) := by
  unfold places
  rw [List.flatMap_append, List.flatMap_cons, List.flatMap_nil, List.append_nil]
theorem sqt_to {K : PySem.W.Frag} {H H' : Hp} {a : Addr} {xs : List V} (h : SqT K H a xs) (x : Evl.Ex H H') : SqT K H' a xs := Evl.ex_t x h
section
variable {P : Program} {w : World} {K : PySem.W.Frag} {mg : Str → Option Value} {base : Heap}
/-- what an optional pair of names is as a value -/
def PairIs (H : Hp) (v : V) : Option (Str × Str) → Prop
  | none => v = .non
  | some (e, z) => ∃ p, v = .ref p ∧ H p = some (.tup [.str e, .str z])
def spFaultAt (C : Addr) : Sp := fun vs H Q _ => ∃ (m a : Addr) (wd : Str) (on ends dots ss ps : List Str) (o n : Str → List (Str × V)), vs = [.ref m, .ref a, .str wd] ∧ NetAt C H m ends dots ss ps o n ∧ ModelOk ends dots ss ps ∧ TabsOk ends dots o n ∧ SqT K H a (on.map V.str) ∧
  ∀ v H', Evl.Ex H H' → PairIs H' v (faultAt ends dots ss ps o n wd on) → Q v H'
abbrev nFaultAt : List Str := ["net", "changed", "wish", "goal", "table", "node"]
end
end Rw
end T_PE

section T_BF
set_option Elab.async false
set_option linter.all false
set_option maxRecDepth 100000
set_option maxHeartbeats 8000000
namespace Rw
open PySem L2 PyProof.Rows
theorem nowTab_get {dots : List Str} {o n : List (Str × V)} {on : List Str} {z : Str} (nd : dots.Nodup) (hz : z ∈ dots) : valV (tkv (nowTab dots o n on)) (Sum.inr z) = some (look (if z ∈ on then n else o) z) :=
  tkv_val (by rw [nowTab_keys]; exact nd) (List.mem_map_of_mem (f := fun z => (z, look (if z ∈ on then n else o) z)) hz)
theorem nowTab_none {dots : List Str} {o n : List (Str × V)} {on : List Str} {z : Str} (hz : z ∉ dots) : valV (tkv (nowTab dots o n on)) (Sum.inr z) = none :=
  tkv_none (by rw [nowTab_keys]; exact hz)
/-- a model, the dict of its tables perhaps walked -/
structure ModelR (H : Hp) (m nb tb sb pb : Addr) (ends dots ss ps : List Str) (rows : List (Str × V)) (o n : Str → List (Str × V)) : Prop where
  hm : H m = some (.dK (mkS nb tb sb pb))
  hn : H nb = some (.lst (dots.map V.str))
  ht : Rd H tb (.dK (tkv rows))
  hs : H sb = some (.lst (ss.map V.str))
  hp : H pb = some (.lst (ps.map V.str))
  ra : RowsAt H ends dots rows o n
  ok : ModelOk ends dots ss ps
theorem rdx {H H' : Hp} {a : Addr} {o : HO} (h : Rd H a o) (x : Evl.Ex H H') : Rd H' a o := by
  rcases h with h | ⟨d, h⟩
  · exact .inl (x _ _ h)
  · exact .inr ⟨d, x _ _ h⟩
theorem ModelR.to {H H' : Hp} {m nb tb sb pb : Addr} {ends dots ss ps : List Str} {rows : List (Str × V)} {o n : Str → List (Str × V)} (h : ModelR H m nb tb sb pb ends dots ss ps rows o n) (x : Evl.Ex H H') : ModelR H' m nb tb sb pb ends dots ss ps rows o n :=
  ⟨x _ _ h.hm, x _ _ h.hn, rdx h.ht x, x _ _ h.hs, x _ _ h.hp, h.ra.ex x, h.ok⟩
theorem ModelS.r {H : Hp} {m nb tb sb pb : Addr} {ends dots ss ps : List Str} {rows : List (Str × V)} {o n : Str → List (Str × V)} (h : ModelS H m nb tb sb pb ends dots ss ps rows o n) : ModelR H m nb tb sb pb ends dots ss ps rows o n :=
  ⟨h.hm, h.hn, .inl h.ht, h.hs, h.hp, h.ra, h.ok⟩
theorem dgR {H : Hp} {a : Addr} {kvs : List (Key × V)} {k : Key} {v : V} (h : Rd H a (.dK kvs)) (e : valV kvs k = some v) : DGet H a (kV k) (some v) := .inl ⟨kvs, k, h, rfl, e.symm⟩
section
variable {P : Program} {w : World} {K : PySem.W.Frag} {mg : Str → Option Value} {base : Heap}
/-! ### where a packet is led -/
def spRowS : Sp := fun vs H Q _ => ∃ (m a nb tb sb pb : Addr) (e z : Str) (on ends dots ss ps : List Str) (rows : List (Str × V)) (o n : Str → List (Str × V)), vs = [.ref m, .ref a, .str e, .str z] ∧ ModelR H m nb tb sb pb ends dots ss ps rows o n ∧ H a = some (.tup (on.map V.str)) ∧ e ∈ ends ∧ z ∈ dots ∧
  ∀ p H', Evl.Ex H H' → H p = none → H' p = some (.lst (walkOf (nowTab dots (o e) (n e) on) (dots.length + 1) z)) → Q (.ref p) H'
abbrev nRowS : List Str := ["model", "turned", "target", "node", "first", "later", "found", "here", "step"]
theorem sc_rowS : FnScope nRowS ["model", "turned", "target", "node"] (defScope s_row) := ⟨rfl, rfl, rfl, by decide +kernel, rfl, by decide +kernel, by decide +kernel⟩
theorem ok_rowS {f : Addr} {fd : FuncData} (F : Fun K "_law_row" "_law_row" s_row f fd) (mRange : mg "range" = none) (mLen : mg "len" = none) : FnOk P w K mg base CX0 1 f fd ["model", "turned", "target", "node"] spRowS := by
  refine F.ok sc_rowS (fun vs H Q E h => ?_) (fun cdv A outer s H vs Q E hr h => ?_)
  · obtain ⟨m, a, nb, tb, sb, pb, e, z, on, ends, dots, ss, ps, rows, o, n, rfl, _⟩ := h
    rfl
  · obtain ⟨m, a, nb, tb, sb, pb, e, z, on, ends, dots, ss, ps, rows, o, n, rfl, MS, ha, he, hz, k⟩ := h
    have nd := sc_rowS.nd
    have hu := hu_of hr
    refine ⟨_, pss_cons (ps_asg (pe_dget hu (pe_dget hu (pv 0) pe_str (fun _ _ => rfl)) (pv 2) (fun _ _ => rfl)) (pg_tup rfl (pgs_cons (pg_name (i := 4) nd rfl (.inl rfl)) (pgs_cons (pg_name (i := 5) nd rfl (.inl rfl)) pgs_nil))))
      (pss_cons (ps_par (i := 6) (j := 7) (by rfl) nd rfl rfl (by decide) rfl rfl (pa_cons (pe_lst (pa_cons (pv 3) pa_nil)) (pa_cons (pv 3) pa_nil)) (by rfl))
      (pss_cons (ps_for PassesOwn.never rfl (pi_range1 (by rfl) mRange (pa_cons (pe_op op_add (pe_callB call_len (by rfl) mLen PySem.boot_len (pa_cons (pe_dget hu (pv 0) pe_str (fun _ _ => rfl)) pa_nil)) pe_int) pa_nil)) (pg_name (i := 8) nd rfl (.inl rfl))
        (pss_one (ps_if (PW.pt (pw_and (pt_cmpR op_in_seq (pv 7) (pe_dget hu (pv 0) pe_str (fun _ _ => rfl)) rfl) (pw_and1 (pt_cmpR op_notIn_seq (pv 7) (pe_slice sl_list (pv 6) po_none (po_some (pe_un un_neg pe_int))) rfl))))
          (pss_cons (ps_set (i := 7) nd rfl (.inl rfl) (pe_ifExp (pt_cmpR op_in_seq (pv 7) (pv 1) rfl) (pe_dget hu (pv 5) (pv 7) (fun _ _ => rfl)) (pe_dget hu (pv 4) (pv 7) (fun _ _ => rfl))))
          (pss_one (ps_expr (pe_bm PySem.F.plainAttrs_list PySem.F.slot_list_append PySem.F.type_list_append mt_append (pv 6) (pa_cons (pv 7) pa_nil))))) pss_nil)))
      (pss_one (ps_ret (pv 6))))), ?_⟩
    have ok := MS.ok
    have d6 := ok.d6
    obtain ⟨pr, po, pn, hv, pa⟩ := MS.ra e he
    have TL : LeadOk dots (nowTab dots (o e) (n e) on) := nowTab_lead pa.o1 pa.o2 ok.dm (ok.em e he)
    refine ⟨.ref m, rfl, m, _, rfl, dgK MS.hm (mkS_tables _ _ _ _), .str e, rfl, tb, _, rfl, dgR (k := Sum.inr e) MS.ht hv, pr, _, rfl, Evl.st_of pa.hp, rfl, _, _, rfl, _, [], rfl, rfl, ?_⟩
    refine ⟨.str z, rfl, by show 1 ≤ sizeLine; decide, fun p hp => ⟨.str z, rfl, _, _, rfl, ?_⟩⟩
    have x1 : Evl.Ex H (upd H p (.lst [.str z])) := Evl.Ex.new hp
    have p1 : (upd H p (.lst [.str z])) p = some (.lst (([] : List Str).map V.str ++ [.str z])) := upd_same
    generalize upd H p (.lst [.str z]) = H1 at x1 p1
    refine ⟨.ref m, rfl, m, _, rfl, dgK (x1 _ _ MS.hm) (mkS_nodes _ _ _ _), .ref nb, (dots.map V.str).length, rfl, .inl ⟨_, Evl.sq_of (x1 _ _ MS.hn), rfl⟩, ((dots.map V.str).length : Int), 1, rfl, rfl, ((dots.map V.str).length : Int) + 1, rfl, by rw [List.length_map]; omega, by rw [List.length_map]; omega, for_range (lo := 0) (n := (((dots.map V.str).length : Int) + 1).toNat)
      (fun i σ H' => ∃ (x8 : Option V) (zs : List Str) (v : V), σ = [some (.ref m), some (.ref a), some (.str e), some (.str z), some (.ref po), some (.ref pn), some (.ref p), some v, x8] ∧ Evl.Ex H H' ∧ H' p = some (.lst (zs.map V.str ++ [v])) ∧ zs.Nodup ∧ (∀ y ∈ zs, y ∈ dots) ∧ Spot v ∧
        track (nowTab dots (o e) (n e) on) (dots.length + 1 - i) zs v = walkOf (nowTab dots (o e) (n e) on) (dots.length + 1) z)
      ⟨none, [], .str z, rfl, x1, p1, List.nodup_nil, (fun y hy => by cases hy), .inr ⟨z, rfl, ok.dm z hz⟩, rfl⟩ ?_ ?_⟩
    · rintro i σ H2 hi ⟨x8, zs, v, rfl, x2, p2, znd, zd, hv', tr⟩
      have hil : i < dots.length + 1 := by rw [List.length_map] at hi; omega
      obtain ⟨m0, hm0⟩ : ∃ m0, dots.length + 1 - i = m0 + 1 := ⟨dots.length - i, by omega⟩
      have hm1 : dots.length + 1 - (i + 1) = m0 := by omega
      rw [hm0] at tr
      have zl := nodup_le zs dots znd zd
      have fl : flatV v = true := by rcases hv' with rfl | ⟨y, rfl, _⟩ <;> rfl
      refine ⟨v, rfl, .ref m, rfl, m, _, rfl, dgK (x2 _ _ MS.hm) (mkS_nodes _ _ _ _), nb, dots.map V.str, rfl, .inl (Evl.sq_of (x2 _ _ MS.hn)), fl, flat_strs dots, _, rfl, ?_⟩
      rw [inV_spot hv']
      by_cases vd : v ∈ dots.map V.str
      · obtain ⟨y, yd, rfl⟩ := List.mem_map.mp vd
        rw [decide_eq_true vd]
        refine iteT ?_
        refine ⟨.str y, rfl, .ref p, rfl, 1, rfl, _, rfl, p, _, rfl, Evl.sq_of p2, fun c hc => ?_⟩
        have ecut : cutV (zs.map V.str ++ [V.str y]) none (some (-1)) = zs.map V.str := by
          rw [cut_last]
          exact List.dropLast_concat
        rw [ecut]
        have x3 : Evl.Ex H2 (upd H2 c (.lst (zs.map V.str))) := Evl.Ex.new hc
        refine ⟨c, zs.map V.str, rfl, .inl (Evl.sq_of upd_same), rfl, flat_strs zs, _, rfl, ?_⟩
        generalize upd H2 c (.lst (zs.map V.str)) = H3 at x3
        have p3 := x3 _ _ p2
        have x23 := x2.trans x3
        have q := nowTab_get (o := o e) (n := n e) (on := on) ok.dn yd
        rw [inV_str]
        by_cases mem : y ∈ zs
        · rw [decide_eq_true mem]
          refine iteF ?_
          rw [track_ring mem] at tr
          exact ⟨_, zs, .str y, rfl, x23, p3, znd, zd, hv', by rw [hm1, track_ring mem, ← tr]⟩
        · rw [decide_eq_false mem]
          refine iteT ?_
          rw [track_on q mem] at tr
          have c1 := look_ok pa.o1 yd
          have c2 := look_ok pa.o2 yd
          have fin : ∀ {u : V}, u = look (if y ∈ on then n e else o e) y → ∃ (x8 : Option V) (zs' : List Str) (v' : V), [some (V.ref m), some (.ref a), some (.str e), some (.str z), some (.ref po), some (.ref pn), some (.ref p), some u, some (.int (0 + (i : Int)))] = [some (V.ref m), some (.ref a), some (.str e), some (.str z), some (.ref po), some (.ref pn), some (.ref p), some v', x8] ∧ Evl.Ex H (upd H3 p (.lst (zs.map V.str ++ [V.str y] ++ [u]))) ∧ (upd H3 p (.lst (zs.map V.str ++ [V.str y] ++ [u]))) p = some (.lst (zs'.map V.str ++ [v'])) ∧ zs'.Nodup ∧ (∀ y ∈ zs', y ∈ dots) ∧ Spot v' ∧
              track (nowTab dots (o e) (n e) on) (dots.length + 1 - (i + 1)) zs' v' = walkOf (nowTab dots (o e) (n e) on) (dots.length + 1) z := fun {u} hu' => by
            subst hu'
            refine ⟨_, zs ++ [y], _, rfl, x23.mut hp, ?_, ?_, fun y' hy' => ?_, ?_, by rw [hm1, tr]⟩
            · rw [upd_same, List.map_append]
              rfl
            · rw [List.nodup_append]
              exact ⟨znd, by simp, fun a ha b hb e => mem (by rw [List.mem_singleton.mp hb] at e; exact e ▸ ha)⟩
            · rcases List.mem_append.mp hy' with hy' | hy'
              · exact zd y' hy'
              · rw [List.mem_singleton.mp hy']; exact yd
            · by_cases m1 : y ∈ on
              · rw [if_pos m1]; exact place_spot c2.1 ok.dm (ok.em e he)
              · rw [if_neg m1]; exact place_spot c1.1 ok.dm (ok.em e he)
          have room : (zs.map V.str ++ [V.str y]).length < sizeLine := by
            rw [List.length_append, List.length_map, List.length_singleton]
            exact small1000 (by omega)
          have pa3 := pa.ex x23
          refine ⟨.str y, rfl, .ref a, rfl, a, on.map V.str, rfl, .inr (Evl.st_of (x23 _ _ ha)), rfl, flat_strs on, _, rfl, ?_⟩
          rw [inV_str]
          by_cases m1 : y ∈ on
          · rw [decide_eq_true m1]
            refine iteT ?_
            exact ⟨.ref pn, rfl, .str y, rfl, pn, _, rfl, dgK (k := Sum.inr y) pa3.hn c2.2, .ref p, rfl, .inl ⟨rfl, _, Evl.sq_of p3⟩, _, rfl, p, _, _, rfl, rfl, p3, room, fin (by rw [if_pos m1])⟩
          · rw [decide_eq_false m1]
            refine iteF ?_
            exact ⟨.ref po, rfl, .str y, rfl, po, _, rfl, dgK (k := Sum.inr y) pa3.ho c1.2, .ref p, rfl, .inl ⟨rfl, _, Evl.sq_of p3⟩, _, rfl, p, _, _, rfl, rfl, p3, room, fin (by rw [if_neg m1])⟩
      · rw [decide_eq_false vd]
        refine iteF (iteF ?_)
        have stop : ∀ k, track (nowTab dots (o e) (n e) on) k zs v = zs.map V.str ++ [v] := fun k => by
          rcases hv' with rfl | ⟨y, rfl, _⟩
          · exact track_non
          · exact track_out (nowTab_none fun h => vd (List.mem_map_of_mem h))
        exact ⟨_, zs, v, rfl, x2, p2, znd, zd, hv', by rw [stop]; rw [stop] at tr; exact tr⟩
    · rintro σ H2 ⟨x8, zs, v, rfl, x2, p2, znd, zd, hv', tr⟩
      rw [show dots.length + 1 - (((dots.map V.str).length : Int) + 1).toNat = 0 by rw [List.length_map]; omega] at tr
      refine ⟨.ref p, rfl, k p H2 x2 hp ?_⟩
      rw [p2, ← tr]
      rfl
end
end Rw
end T_BF

section T_W2
set_option Elab.async false
set_option linter.all false
set_option maxRecDepth 100000
set_option maxHeartbeats 4000000
namespace Rw
open PySem L2 PyProof.Rows
theorem nowTab_leadC {dots : List Str} {e : Str} {o n : List (Str × V)} {on : List Str} (h1 : TabOk dots e (canon dots o)) (h2 : TabOk dots e (canon dots n)) (hz : ∀ y ∈ dots, Nm y) (he : Nm e) : LeadOk dots (nowTab dots o n on) := by
  refine ⟨nowTab_keys _ _ _ _, fun q hq => ?_, hz⟩
  obtain ⟨z, hzd, rfl⟩ := List.mem_map.mp hq
  show Spot (look (if z ∈ on then n else o) z)
  by_cases m : z ∈ on
  · rw [if_pos m, ← look_canon hzd]; exact place_spot (look_ok h2 hzd).1 hz he
  · rw [if_neg m, ← look_canon hzd]; exact place_spot (look_ok h1 hzd).1 hz he
section
variable {P : Program} {w : World} {K : PySem.W.Frag} {mg : Str → Option Value} {base : Heap}
def spLed (C : Addr) : Sp := fun vs H Q _ => ∃ (m a b : Addr) (e z : Str) (zs ys ends dots ss ps : List Str) (o n : Str → List (Str × V)), vs = [.ref m, .ref a, .ref b, .str e, .str z] ∧ NetAt C H m ends dots ss ps o n ∧ ModelOk ends dots ss ps ∧ e ∈ ends ∧ z ∈ dots ∧
  LotAt H a zs (moving ends dots o n) ∧ LotAt H b ys (moving ends dots o n) ∧ (∀ y ∈ ys, y ∉ zs) ∧ ∀ p H', Evl.Ex H H' → H p = none → H' p = some (.lst (walkOf (nowTab dots (o e) (n e) (zs ++ ys)) (dots.length + 1) z)) → Q (.ref p) H'
abbrev nLed : List Str := ["net", "done", "changed", "goal", "node"]
end
end Rw
end T_W2

section T_B9
set_option Elab.async false
set_option linter.all false
set_option maxRecDepth 100000
set_option maxHeartbeats 4000000
namespace Rw
open PySem L2 PyProof.Rows
section
variable {P : Program} {w : World} {K : PySem.W.Frag} {mg : Str → Option Value} {base : Heap}
end
end Rw
end T_B9

section T_X0
set_option Elab.async false
set_option linter.all false
set_option maxRecDepth 100000
set_option maxHeartbeats 4000000
namespace Rw
open PySem L2 PyProof.Rows
theorem rest_less {H Hb H' : Hp} (x : Evl.Ex H Hb) : Evl.Ex (rest Hb H') (rest H H') := fun a o h => by
  have h' := rest_ex Hb H' a o h
  refine rest_of ?_ h'
  cases q : H a with
  | none => rfl
  | some u =>
    have := x _ _ q
    unfold rest at h
    rw [this] at h
    cases h
theorem dget_of {H : Hp} {a : Addr} {kvs : List (Key × V)} {k : Key} {v : V} (h : H a = some (.dK kvs)) (hv : valV kvs k = some v) : DGet H a (kV k) (some v) := by
  have q := DGet.k (k := k) h
  rw [hv] at q
  exact q
section
variable {P : Program} {w : World} {K : PySem.W.Frag} {mg : Str → Option Value} {base : Heap}
/-! ### the law's net of a model -/
def spNet (C : Addr) : Sp := fun vs H Q _ => ∃ (m tb db sb pb : Addr) (ends dots ss ps : List Str) (rows : List (Str × V)) (o n : Str → List (Str × V)), vs = [.ref m] ∧ ModelAt H m tb db sb pb ends dots ss ps rows ∧ RowsAt H ends dots rows o n ∧
  ∀ x H', Evl.Ex H H' → H x = none → NetAt C (rest H H') x ends dots ss ps o n → Q (.ref x) H'
end
end Rw
end T_X0

section T_X1
set_option Elab.async false
set_option linter.all false
set_option maxRecDepth 100000
set_option maxHeartbeats 4000000
namespace Rw
open PySem L2 PyProof.Rows
section
variable {P : Program} {w : World} {K : PySem.W.Frag} {mg : Str → Option Value} {base : Heap}
/-! ### the law's list of nodes that change -/
end
end Rw
end T_X1

section T_X2
set_option Elab.async false
set_option linter.all false
set_option maxRecDepth 100000
set_option maxHeartbeats 4000000
namespace Rw
open PySem L2 PyProof.Rows
section
variable {P : Program} {w : World} {K : PySem.W.Frag} {mg : Str → Option Value} {base : Heap}
/-! ### the law's ways at a moment -/
end
end Rw
end T_X2

section T_X3
set_option Elab.async false
set_option linter.all false
set_option maxRecDepth 100000
set_option maxHeartbeats 4000000
namespace Rw
open PySem L2 PyProof.Rows
section
variable {P : Program} {w : World} {K : PySem.W.Frag} {mg : Str → Option Value} {base : Heap}
end
end Rw
end T_X3

section T_X4
set_option Elab.async false
set_option linter.all false
set_option maxRecDepth 100000
set_option maxHeartbeats 4000000
namespace Rw
open PySem L2 PyProof.Rows
section
variable {P : Program} {w : World} {K : PySem.W.Frag} {mg : Str → Option Value} {base : Heap}
/-! ### the law's lot and round -/
end
end Rw
end T_X4

section T_G0
set_option Elab.async false
set_option linter.all false
set_option maxRecDepth 100000
set_option maxHeartbeats 2000000
namespace Rw
open PySem PySem.Spec L2 PyProof.Rows
/-! ### repr of data -/
def rRepr (K : PySem.W.Frag) : List V → Hp → VK → Prop := fun xs H Q => ∃ (a : Addr) (d : PyData), xs = [.ref a] ∧ Dp K H (.ref a) d ∧ d.showable = true ∧ d.hasDict = false ∧ d.depth ≤ 64 ∧ d.shown.length ≤ sizeLine ∧ Q (.str d.shown) H
theorem call_reprD {X : Cx} (hg : X.A.guards = some []) (hu : X.A.units + 70 < cLine) : CallR X (.builtin "repr") (rRepr X.K) := by
  intro pins s σ H xs us Q I r h
  obtain ⟨a, d, rfl, hd, h1, h2, h3, h4, q⟩ := h
  obtain ⟨u, rfl, ru⟩ := vals1 r
  obtain ⟨as, rd⟩ := Dp.reads I d (.ref a) u hd ru
  cases ru
  refine repr_of_reads' rd h1 (fun z => by rw [h2] at z; cases z) hg (by omega) (fun _ _ e => e) (fun h' v tk keep => ?_) h4
  exact ⟨.str d.shown, H, Inv.kept I keep, ⟨_, rfl⟩, q⟩
/-! ### defs that are called where no repr is under way -/
structure FnG (P : Program) (w : World) (K : PySem.W.Frag) (mg : Str → Option Value) (base : Heap) (CX : CXT) (k : Nat) (f : Addr) (fd : FuncData) (ps : List Str) (sp : Sp) : Prop where
  many : ∀ vs H Q E, sp vs H Q E → vs.length = ps.length
  goes : ∀ (A : Around) (outer : List Env) (s : Shared) (H : Hp) (args : Args) (us : List Value) (vs : List V) (Q : VK) (E : XK), A.guards = some [] → Room k A → Env0 P w K mg base A outer s H →
    BindsTo s fd args (ps.zip us) → Vals vs us → sp vs H Q E → codeAny (model P w) A (.call (.ref f) args) (CR CX outer P w H s Q E) s
section
variable {P : Program} {w : World} {K : PySem.W.Frag} {mg : Str → Option Value} {base : Heap} {CX : CXT} {k : Nat} {f : Addr} {fd : FuncData} {ps : List Str} {sp : Sp}
theorem FnG.of (F : FnOk P w K mg base CX k f fd ps sp) : FnG P w K mg base CX k f fd ps sp :=
  ⟨F.len, fun A o s H ar us vs Q E _ => F.run A o s H ar us vs Q E⟩
/-- a def by its body -/
theorem Fun.okG {x qual : Str} {st : Stmt} {N : List Str} (F : Fun K x qual st f fd) (S : FnScope N ps (defScope st)) (len : ∀ vs H Q E, sp vs H Q E → vs.length = ps.length)
    (body : ∀ (cv : Value) (A : Around) (outer : List Env) (s : Shared) (H : Hp) (vs : List V) (Q : VK) (E : XK), (A.deeper (envOfC qual (defScope st) s.heap.objs.size f cv)).guards = some [] →
      Room k (A.deeper (envOfC qual (defScope st) s.heap.objs.size f cv)) → sp vs H Q E →
      ∃ t, PSs (cxOf CX P w K mg base N qual (defScope st) f cv A outer s H E) (defBody st) t ∧ t { nx := fun _ H' => Q .non H', rt := Q } (L2.start N vs) H) : FnG P w K mg base CX (k + 1) f fd ps sp := by
  obtain ⟨_, _, _, _, _, _, cv, _, _, rfl, at_f, code_f⟩ := F.ex
  constructor
  · exact len
  · intro A outer s H ar us vs Q E guard room here bound rel prom
    have n_of := len _ _ _ _ prom
    have known : K.In s.heap := here.mod.kin.keeps fun b o e => (here.bs b o e).1
    have nolim : s.heap.NoLimit := here.mod.nolimit.keeps fun b o e => (here.bs b o e).1
    have slots : ∀ y ∈ ps.zip us, (defScope st).names.lookup y.1 = some .local ∨ ((defScope st).names.lookup y.1 = some .cell ∧ ((cellsFrom (s.heap.objs.size + 1) (defScope st).names []).lookup y.1).isSome = true) := by
      rintro ⟨m, u⟩ hy
      cases S.par m (List.of_mem_zip hy).1 with
      | inl q => exact .inl q
      | inr q => exact .inr ⟨q, PySem.W.cellsFrom_some _ _ _ (.inl q)⟩
    refine codeAny_call_function room.depth (known _ _ at_f) rfl S.co S.gen rfl (PySem.W.codeRec_of known code_f)
      (bound _ _ _ _ ?_)
    refine wpAny_newFunctionEnv_cells S.kind slots fun env isEnv s1 made => ?_
    subst isEnv
    refine ⟨nolim.keeps made.toInCall.keep, codeAny_func ?_⟩
    obtain ⟨t, term, reading⟩ := body cv A outer s H vs Q E guard (room.deeper _) prom
    have inv := inv_start (CX := CX) (E := E) S room.hd here n_of rel made
    refine wpAny_mono (term.run [] s1 (L2.start N vs) H _ inv reading) (fun out s' got => ?_) fun _ _ got => got
    cases out with
    | brk =>
      obtain ⟨_, _, _, no⟩ := got
      exact no.elim
    | cont =>
      obtain ⟨_, _, _, no⟩ := got
      exact no.elim
    | next =>
      obtain ⟨_, H', J, q⟩ := got
      exact ⟨V.non, H', J.os, J.bare, J.base, J.hok, rfl, q⟩
    | ret u =>
      obtain ⟨v, _, H', J, rv, q⟩ := got
      exact ⟨v, H', J.os, J.bare, J.base, J.hok, rv, q⟩
end
section
variable {X : Cx} {CX : CXT} {k : Nat} {f : Addr} {fd : FuncData} {ps : List Str} {sp : Sp} {dvs : List V} {ds : List Value} {E : XK} {x : Str} {p pos : Pos} {e : Expr} {es : List Expr} {t : TA}
/-- f(e, ..), f such a def -/
theorem pe_callG (guard : X.A.guards = some []) (F : FnG X.prog X.w X.K X.mg X.base CX k f fd ps sp) (room : Room k X.A) (glob : Gl X x) (at_x : X.mg x = some (.ref f)) (kept : PySem.W.keepIn X.K (.ref f) = true) (bind : Binds X.K fd ps ds) (dflt : Vals dvs ds) (pass : Passes CX X E)
    (args : PA X (e :: es) t) (nodebug : (x == ("__debug__" : Str)) = false := by decide) (first : starEach (e :: es) X.env = (false, eval e X.env) :: starEach es X.env := by rfl) (plain : (backTo pos (starEach es X.env)).any (·.1) = false := by rfl) :
    PE X (.Call (.Name x p) (e :: es) [] pos) (tCall sp dvs E t) := by
  constructor
  intro pins s σ H Q I reading
  refine wpAny_Call_Name_kw (ld_glob I glob at_x ?_ nodebug)
  refine PySem.W.callWith_K (h₀ := X.base) I.ok.mod.kin kept (thn (args.run pos pins s σ H _ I reading) ?_) first plain
  rintro us s1 ⟨vs, H1, I1, rel, prom⟩
  refine ⟨I1.kIn, ?_⟩
  have rel2 : Vals (vs ++ dvs) (us ++ ds) := rel.append dflt
  have n_of : (us ++ ds).length = ps.length := rel2.length.symm.trans (F.many _ _ _ _ prom)
  have ran := F.goes X.A X.stack s1 H1 ⟨us, []⟩ (us ++ ds) (vs ++ dvs) Q E guard room I1.env0 (bind s1 us I1.kIn n_of) rel2 prom
  refine wpAny_call (codeAny_mono ran fun out s2 got => ?_)
  match out, got with
  | .error e, got => exact pass pins σ H1 s1 e s2 I1 got
  | .ok (.ret u), got => exact I1.after got
  | .ok .next, got => exact got.elim
  | .ok .brk, got => exact got.elim
  | .ok .cont, got => exact got.elim
end
end Rw
end T_G0

section T_X5
set_option Elab.async false
set_option linter.all false
set_option maxRecDepth 100000
set_option maxHeartbeats 4000000
namespace Rw
open PySem L2 PyProof.Rows
/-! ### rows of places are shown -/
theorem spots_data : ∀ W : List V, (∀ v ∈ W, Spot v) → ∃ ds : List PyData, (∀ (K : PySem.W.Frag) (H : Hp), DpAll K H W ds) ∧ PyData.canLayAll0 ds = true ∧ PyData.depthAll ds = 0 ∧ PyData.weightAll ds ≤ 7 * W.length ∧ PyData.intsShortAll 13 ds = true ∧ PyData.showableAll ds = true
  | [], _ => ⟨[], fun _ _ => .nil, rfl, rfl, Nat.zero_le _, rfl, rfl⟩
  | v :: W, h => by
    obtain ⟨ds, g1, g2, g3, g4, g5, g6⟩ := spots_data W fun u hu => h u (List.mem_cons_of_mem _ hu)
    rcases h v List.mem_cons_self with rfl | ⟨z, rfl, hz⟩
    · refine ⟨.none :: ds, fun K H => .cons .non (g1 K H), ?_, ?_, ?_, ?_, ?_⟩
      · show (true && PyData.canLayAll0 ds) = true
        rw [g2]
        rfl
      · show max 0 (PyData.depthAll ds) = 0
        rw [g3]
        rfl
      · show 0 + 1 + PyData.weightAll ds ≤ 7 * (W.length + 1)
        omega
      · show (PyData.intsShort 13 .none && PyData.intsShortAll 13 ds) = true
        rw [g5]
        rfl
      · show (true && PyData.showableAll ds) = true
        rw [g6]
        rfl
    · have zl := nm_len hz
      refine ⟨.str z :: ds, fun K H => .cons (.str z) (g1 K H), ?_, ?_, ?_, ?_, ?_⟩
      · show (PyData.strOk z && PyData.canLayAll0 ds) = true
        rw [g2, nm_ok hz]
        rfl
      · show max 0 (PyData.depthAll ds) = 0
        rw [g3]
        rfl
      · show z.cps.size + 1 + PyData.weightAll ds ≤ 7 * (W.length + 1)
        have : z.cps.size ≤ 6 := zl
        omega
      · show (PyData.intsShort 13 (.str z) && PyData.intsShortAll 13 ds) = true
        rw [g5]
        rfl
      · show (true && PyData.showableAll ds) = true
        rw [g6]
        rfl
theorem spots_repr (W : List V) (h : ∀ v ∈ W, Spot v) (few : W.length ≤ 1000) : ∃ d : PyData, (∀ {K : PySem.W.Frag} {H : Hp} {a : Addr}, H a = some (.lst W) → Dp K H (.ref a) d) ∧ d.showable = true ∧ d.hasDict = false ∧ d.depth ≤ 64 ∧ d.shown.length ≤ sizeLine := by
  obtain ⟨ds, g1, g2, g3, g4, g5, g6⟩ := spots_data W h
  have lay : PyData.canLay0 (.list ds) = true := g2
  have dep : PyData.depth (.list ds) = 1 := by rw [show PyData.depth (.list ds) = PyData.depthAll ds + 1 from rfl, g3]
  refine ⟨.list ds, fun {K H a} ha => .lst (Evl.sq_of ha) (g1 K H), g6, PyData.hasDict_of_canLay _ lay, by rw [dep]; decide, ?_⟩
  refine PyData.shown_fits_of_layable0 (B := 13) (by decide) (by decide) ?_ g5
  show (PyData.canLay0 (.list ds) && decide (PyData.depth (.list ds) ≤ 64) && decide (PyData.weight (.list ds) ≤ 2 ^ 20)) = true
  rw [lay, dep, decide_eq_true (show PyData.weight (.list ds) ≤ 2 ^ 20 from Nat.le_trans (show PyData.weightAll ds ≤ 7 * W.length from g4) (by omega))]
  rfl
/-! ### calls by names alone -/
/-- f(k = v, ..), all by names: gV puts the values in the parameters' order -/
structure KwAll (K : PySem.W.Frag) (fd : FuncData) (ps ks : List Str) (g : List Value → List Value) (gV : List V → List V) : Prop where
  to : ∀ (s : Shared) (ws : List Value), K.In s.heap → (g ws).length = ps.length → BindsTo s fd ⟨[], ks.zip ws⟩ (ps.zip (g ws))
  rel : ∀ {zs : List V} {ws : List Value}, Vals zs ws → Vals (gV zs) (g ws)
def tCallA (sp : Sp) (gV : List V → List V) (E : XK) (tk : TA) : TE := fun σ H Q => tk σ H fun zs H1 => sp (gV zs) H1 Q E
theorem Vals.rev {zs : List V} {ws : List Value} (r : Vals zs ws) : Vals zs.reverse ws.reverse := by
  induction r with
  | nil => exact .nil
  | cons h _ ih =>
    rw [List.reverse_cons, List.reverse_cons]
    exact ih.append (.cons h .nil)
section
variable {X : Cx} {CX : CXT} {k : Nat} {f : Addr} {fd : FuncData} {ps ks : List Str} {sp : Sp} {E : XK} {x : Str} {p pos : Pos} {kws : List Keyword} {tk : TA} {g : List Value → List Value} {gV : List V → List V}
theorem pe_callA (F : FnOk X.prog X.w X.K X.mg X.base CX k f fd ps sp) (room : Room k X.A) (glob : Gl X x) (at_x : X.mg x = some (.ref f)) (kept : PySem.W.keepIn X.K (.ref f) = true) (bind : KwAll X.K fd ps ks g gV) (pass : Passes CX X E) (named : PK X kws tk)
    (hall : (backToKw pos (keywordEach kws X.env)).all (·.1.isSome) = true := by rfl) (hks : (backToKw pos (keywordEach kws X.env)).filterMap (·.1) = ks := by rfl) (nodebug : (x == ("__debug__" : Str)) = false := by decide)
    (plain : ((backTo pos (starEach [] X.env)).any (·.1) || (backToKw pos (keywordEach kws X.env)).any (·.1.isNone)) = false := by rfl) :
    PE X (.Call (.Name x p) [] kws pos) (tCallA sp gV E tk) := by
  constructor
  intro pins s σ H Q I reading
  refine wpAny_Call_Name_kw (ld_glob I glob at_x ?_ nodebug)
  refine PySem.W.callWith_KW0 (h₀ := X.base) I.ok.mod.kin kept hall ?_ plain
  refine thn (named.run pos pins s σ H _ I reading) ?_
  rintro ws s2 ⟨zs, H2, I2, rel, prom⟩
  refine ⟨I2.kIn, ?_⟩
  rw [hks]
  have rel2 := bind.rel rel
  have n_of : (g ws).length = ps.length := rel2.length.symm.trans (F.len _ _ _ _ prom)
  have ran := F.run X.A X.stack s2 H2 ⟨[], ks.zip ws⟩ (g ws) (gV zs) Q E room I2.env0 (bind.to s2 ws I2.kIn n_of) rel2 prom
  refine wpAny_call (codeAny_mono ran fun out s3 got => ?_)
  match out, got with
  | .error e, got => exact pass pins σ H2 s2 e s3 I2 got
  | .ok (.ret u), got => exact I2.after got
  | .ok .next, got => exact got.elim
  | .ok .brk, got => exact got.elim
  | .ok .cont, got => exact got.elim
end
end Rw
end T_X5

section T_Y1
set_option Elab.async false
set_option linter.all false
set_option maxRecDepth 100000
set_option maxHeartbeats 4000000
namespace Rw
open PySem L2 PyProof.Rows
/-- the places of z in the mixture of a round -/
def spotsOf (o n : List (Str × V)) (zs ys : List Str) (z : Str) : List V := if z ∈ zs then [look n z] else if (decide (z ∈ ys) && !decide (look o z = look n z)) = true then [look o z, look n z] else [look o z]
/-- a new dict of new lists -/
structure MixAt (H0 H : Hp) (D : Addr) (dots : List Str) (f : Str → List V) : Prop where
  ex : ∃ rs : List (Str × V), H D = some (.dK (tkv rs)) ∧ rs.map (·.1) = dots ∧ ∀ q ∈ rs, ∃ a : Addr, q.2 = .ref a ∧ H0 a = none ∧ H a = some (.lst (f q.1))
section
variable {P : Program} {w : World} {K : PySem.W.Frag} {mg : Str → Option Value} {base : Heap}
def spMix (C : Addr) : Sp := fun vs H Q _ => ∃ (m a b : Addr) (e : Str) (zs ys ends dots ss ps : List Str) (o n : Str → List (Str × V)), vs = [.ref m, .ref a, .ref b, .str e] ∧ NetAt C H m ends dots ss ps o n ∧ ModelOk ends dots ss ps ∧ e ∈ ends ∧
  LotAt H a zs (moving ends dots o n) ∧ LotAt H b ys (moving ends dots o n) ∧ (∀ y ∈ ys, y ∉ zs) ∧ ∀ D H', Evl.Ex H H' → H D = none → MixAt H H' D dots (spotsOf (o e) (n e) zs ys) → Q (.ref D) H'
abbrev nMix : List Str := ["net", "done", "lot", "goal", "old", "new", "mixture", "node"]
theorem sc_mix : FnScope nMix ["net", "done", "lot", "goal"] (defScope p_ways) := ⟨rfl, rfl, rfl, by decide +kernel, rfl, by decide +kernel, by decide +kernel⟩
theorem ok_mix {f C : Addr} {fd : FuncData} (F : Fun K "ways" "ways" p_ways f fd) (T : NetTxt K C) (C1 : Cal P w K mg base 5 "check_round" ["net", "done", "lot", "part"] (spRound C)) (C2 : Cal P w K mg base 3 "check_goal" ["net", "goal"] (spCheckGoal C))
    (P1 : Prp P w K mg base C 1 "tables" (spTabs C)) (P2 : Prp P w K mg base C 1 "nodes" (spDots C)) : FnOk P w K mg base CX0 6 f fd ["net", "done", "lot", "goal"] (spMix C) := by
  obtain ⟨f1, fd1, F1, k1, b1, g1⟩ := C1.ex
  obtain ⟨f2, fd2, F2, k2, b2, g2⟩ := C2.ex
  obtain ⟨p3, g3, fd3, at3, F3, b3⟩ := P1.ex
  obtain ⟨p4, g4, fd4, at4, F4, b4⟩ := P2.ex
  refine F.ok sc_mix (fun vs H Q E h => ?_) (fun cdv A outer s H vs Q E hr h => ?_)
  · obtain ⟨m, a, b, e, zs, ys, ends, dots, ss, ps, o, n, rfl, _⟩ := h
    rfl
  · obtain ⟨m, a, b, e, zs, ys, ends, dots, ss, ps, o, n, rfl, N, ok, he, La, Lb, dis, k⟩ := h
    have nd := sc_mix.nd
    have hu := hu_of hr
    have hr3 : Room 3 _ := hr.mono (by decide)
    have hr2 : Room 2 _ := hr.mono (by decide)
    have e2 := ok.e2
    have d6 := ok.d6
    refine ⟨_, PSs.nox (pss_cons (ps_expr (pe_call F1 hr rfl g1 k1 b1 .nil pass0 (pa_cons (pv 0) (pa_cons (pv 1) (pa_cons (pv 2) (pa_cons pe_str pa_nil))))))
      (pss_cons (ps_expr (pe_call F2 hr3 rfl g2 k2 b2 .nil pass0 (pa_cons (pv 0) (pa_cons (pv 3) pa_nil))))
      (pss_cons (ps_asg (pe_dget hu (pe_prop (pv 0) T.cl at3 F3 hr2 b3 .nil pass0 rfl) (pv 3) (fun _ _ => rfl)) (pg_tup rfl (pgs_cons (pg_name (i := 4) nd rfl (.inl rfl)) (pgs_cons (pg_name (i := 5) nd rfl (.inl rfl)) pgs_nil))))
      (pss_cons (ps_set (i := 6) nd rfl (.inl rfl) pe_dnewK)
      (pss_cons (ps_for PassesOwn.never rfl (pi_tup (pe_prop (pv 0) T.cl at4 F4 hr2 b4 .nil pass0 rfl)) (pg_name (i := 7) nd rfl (.inl rfl))
        (pss_one (ps_if (pt_cmpR op_in_seq (pv 7) (pv 1) rfl) (pss_one (ps_dput hu (pv 6) (pv 7) (pe_lst (pa_cons (pe_dget hu (pv 5) (pv 7) (fun _ _ => rfl)) pa_nil)) rfl))
          (pss_one (ps_if (PW.pt (pw_and (pt_cmpR op_in_seq (pv 7) (pv 2) rfl) (pw_and1 (pt_cmpR op_ne (pe_dget hu (pv 4) (pv 7) (fun _ _ => rfl)) (pe_dget hu (pv 5) (pv 7) (fun _ _ => rfl)) (nomark _)))))
            (pss_one (ps_dput hu (pv 6) (pv 7) (pe_lst (pa_cons (pe_dget hu (pv 4) (pv 7) (fun _ _ => rfl)) (pa_cons (pe_dget hu (pv 5) (pv 7) (fun _ _ => rfl)) pa_nil))) rfl))
            (pss_one (ps_dput hu (pv 6) (pv 7) (pe_lst (pa_cons (pe_dget hu (pv 4) (pv 7) (fun _ _ => rfl)) pa_nil)) rfl)))))))
      (pss_one (ps_ret (pv 6)))))))), ?_⟩
    refine ⟨.ref m, rfl, .ref a, rfl, .ref b, rfl, m, a, b, _, zs, ys, ends, dots, ss, ps, o, n, rfl, N, by omega, by omega, ok.en, La, Lb, dis, fun H1 x1 => ?_⟩
    refine ⟨.ref m, rfl, .str e, rfl, m, e, ends, dots, ss, ps, o, n, rfl, N.to x1, by omega, he, fun H2 x2 => ?_⟩
    have x12 := x1.trans x2
    have N2 := N.to x12
    obtain ⟨dx, T', N', S, Po, rows0, h1, _⟩ := N2.ex
    refine ⟨.ref m, rfl, m, dx, _, rfl, h1, m, ends, dots, ss, ps, o, n, rfl, N2, ok.e0, by omega, ok.en, fun TD TT H3 x3 _ tabs => ?_⟩
    have hTD := tabs.hd
    have ra := tabs.rows ok.en
    have x13 := x12.trans x3
    obtain ⟨p, po, pn, hv, pa⟩ := ra e he
    refine ⟨.str e, rfl, TD, .ref p, rfl, dget_of (k := Sum.inr e) hTD hv, p, _, rfl, Evl.st_of pa.hp, rfl, _, _, rfl, _, [], rfl, rfl, ?_⟩
    refine fun D hD => ?_
    have x4 : Evl.Ex H3 (upd H3 D (.dK [])) := Evl.Ex.new hD
    have hD0 : H D = none := ex_none x13 hD
    have d4 : (upd H3 D (.dK [])) D = some (.dK (tkv [])) := upd_same
    generalize upd H3 D (.dK []) = H4 at x4 d4
    have x14 := x13.trans x4
    have pa4 := pa.ex x4
    have N4 := N.to x14
    refine ⟨.ref m, rfl, m, dx, _, rfl, (x3.trans x4) _ _ h1, m, ends, dots, ss, ps, o, n, rfl, N4, fun q hq => ⟨q, rfl, ⟨_, Evl.st_of hq⟩, for_tup (K := K) (a := q) (xs := dots.map V.str)
      (fun i σ H' => ∃ x7 : Option V, σ = [some (.ref m), some (.ref a), some (.ref b), some (.str e), some (.ref po), some (.ref pn), some (.ref D), x7] ∧ i ≤ dots.length ∧ Evl.Ex H H' ∧ H' q = some (.tup (dots.map V.str)) ∧ H' po = some (.dK (tkv (canon dots (o e)))) ∧ H' pn = some (.dK (tkv (canon dots (n e)))) ∧ po ≠ D ∧ pn ≠ D ∧
        ∃ rs : List (Str × V), H' D = some (.dK (tkv rs)) ∧ rs.map (·.1) = dots.take i ∧ ∀ q ∈ rs, ∃ l : Addr, q.2 = .ref l ∧ H l = none ∧ H' l = some (.lst (spotsOf (o e) (n e) zs ys q.1)))
      ⟨_, rfl, Nat.zero_le _, x14, hq, pa4.ho, pa4.hn, ne_of_none pa.ho hD, ne_of_none pa.hn hD, [], d4, rfl, fun q hq => by cases hq⟩ (fun i σ H' _ ⟨_, _, _, _, h, _⟩ => Evl.st_of h) ?_ ?_⟩⟩
    · rintro i y σ H5 hi ⟨x7, rfl, _, x5, q5, o5, n5, npo, npn, rs, d5, hks, hrs⟩
      obtain ⟨z, hz, rfl⟩ := str_at hi
      have hil : i < dots.length := (List.getElem?_eq_some_iff.mp hz).1
      have zd := List.mem_of_getElem? hz
      have et : dots.take (i + 1) = dots.take i ++ [z] := by rw [List.take_add_one, hz]; rfl
      have zn : z ∉ dots.take i := fun hm => by
        have q1 : (dots.take (i + 1)).Nodup := ok.dn.sublist (List.take_sublist _ _)
        rw [et] at q1
        exact (List.nodup_append.mp q1).2.2 z hm z (List.mem_singleton.mpr rfl) rfl
      have c1 := look_ok pa.o1 zd
      have c2 := look_ok pa.o2 zd
      have go : DGet H5 po (.str z) (some (look (o e) z)) := by
        have t := dget_of (k := Sum.inr z) o5 c1.2
        rw [look_canon zd] at t
        exact t
      have gn : DGet H5 pn (.str z) (some (look (n e) z)) := by
        have t := dget_of (k := Sum.inr z) n5 c2.2
        rw [look_canon zd] at t
        exact t
      have sc := scal_place c1.1 c2.1
      rw [look_canon zd, look_canon zd] at sc
      have rsl : rs.length ≤ 100 := by
        have := congrArg List.length hks
        rw [List.length_map, List.length_take] at this
        omega
      have small : (tkv rs).length < sizeLine := by rw [tkv_len]; exact small1000 (by omega)
      have dput : ∀ (us : List V) (l : Addr), H5 l = none → (upd H5 l (.lst us)) D = some (.dK (tkv rs)) := fun us l hl => Evl.Ex.new hl _ _ d5
      have fin : ∀ us : List V, us = spotsOf (o e) (n e) zs ys z → ∀ l, H5 l = none →
          ∃ x7 : Option V, [some (V.ref m), some (.ref a), some (.ref b), some (.str e), some (.ref po), some (.ref pn), some (.ref D), some (.str z)] = [some (.ref m), some (.ref a), some (.ref b), some (.str e), some (.ref po), some (.ref pn), some (.ref D), x7] ∧ i + 1 ≤ dots.length ∧ Evl.Ex H (upd (upd H5 l (.lst us)) D (.dK (putK (tkv rs) (Sum.inr z) (.ref l)))) ∧
            (upd (upd H5 l (.lst us)) D (.dK (putK (tkv rs) (Sum.inr z) (.ref l)))) q = some (.tup (dots.map V.str)) ∧ (upd (upd H5 l (.lst us)) D (.dK (putK (tkv rs) (Sum.inr z) (.ref l)))) po = some (.dK (tkv (canon dots (o e)))) ∧ (upd (upd H5 l (.lst us)) D (.dK (putK (tkv rs) (Sum.inr z) (.ref l)))) pn = some (.dK (tkv (canon dots (n e)))) ∧ po ≠ D ∧ pn ≠ D ∧
            ∃ rs' : List (Str × V), (upd (upd H5 l (.lst us)) D (.dK (putK (tkv rs) (Sum.inr z) (.ref l)))) D = some (.dK (tkv rs')) ∧ rs'.map (·.1) = dots.take (i + 1) ∧ ∀ q ∈ rs', ∃ l' : Addr, q.2 = .ref l' ∧ H l' = none ∧ (upd (upd H5 l (.lst us)) D (.dK (putK (tkv rs) (Sum.inr z) (.ref l)))) l' = some (.lst (spotsOf (o e) (n e) zs ys q.1)) := by
        rintro us rfl l hl
        have y1 : Evl.Ex H5 (upd H5 l (.lst (spotsOf (o e) (n e) zs ys z))) := Evl.Ex.new hl
        have l1 : (upd H5 l (.lst (spotsOf (o e) (n e) zs ys z))) l = some (.lst (spotsOf (o e) (n e) zs ys z)) := upd_same
        have d6' := y1 _ _ d5
        have nlD : l ≠ D := (ne_of_none d5 hl).symm
        refine ⟨_, rfl, hil, (x5.trans y1).mut hD0, by rw [upd_ne (ne_of (y1 _ _ q5) d6' (by intro t; cases t))]; exact y1 _ _ q5, by rw [upd_ne npo]; exact y1 _ _ o5, by rw [upd_ne npn]; exact y1 _ _ n5, npo, npn, rs ++ [(z, .ref l)], ?_, ?_, ?_⟩
        · rw [upd_same, tkv_new (by rw [hks]; exact zn)]
        · rw [List.map_append, hks, et]
          rfl
        · intro r hr'
          rcases List.mem_append.mp hr' with hr' | hr'
          · obtain ⟨l', t1, t2, t3⟩ := hrs r hr'
            exact ⟨l', t1, t2, by rw [upd_ne (ne_of (y1 _ _ t3) d6' (by intro t; cases t))]; exact y1 _ _ t3⟩
          · rw [List.mem_singleton.mp hr']
            exact ⟨l, rfl, ex_none x5 hl, by rw [upd_ne nlD]; exact l1⟩
      refine ⟨.str z, rfl, .ref a, rfl, a, zs.map V.str, rfl, .inr (Evl.st_of (x5 _ _ La.ha)), rfl, flat_strs zs, ?_⟩
      rw [inV_str]
      by_cases mz : z ∈ zs
      · rw [decide_eq_true mz]
        refine ⟨true, rfl, iteT ?_⟩
        refine ⟨.ref pn, rfl, .str z, rfl, pn, _, rfl, gn, by show 1 ≤ sizeLine; decide, fun l hl => ⟨.ref D, rfl, .str z, rfl, D, _, rfl, DPut.k (k := Sum.inr z) (dput _ l hl) small, fin _ ?_ l hl⟩⟩
        unfold spotsOf
        rw [if_pos mz]
      · rw [decide_eq_false mz]
        refine ⟨false, rfl, iteF ?_⟩
        refine ⟨.str z, rfl, .ref b, rfl, b, ys.map V.str, rfl, .inr (Evl.st_of (x5 _ _ Lb.ha)), rfl, flat_strs ys, ?_⟩
        rw [inV_str]
        have two : (decide (z ∈ ys) && !decide (look (o e) z = look (n e) z)) = true → spotsOf (o e) (n e) zs ys z = [look (o e) z, look (n e) z] := fun t => by unfold spotsOf; rw [if_neg mz, if_pos t]
        have one : (decide (z ∈ ys) && !decide (look (o e) z = look (n e) z)) = false → spotsOf (o e) (n e) zs ys z = [look (o e) z] := fun t => by unfold spotsOf; rw [if_neg mz, if_neg (by rw [t]; decide)]
        by_cases my : z ∈ ys
        · rw [decide_eq_true my] at two one ⊢
          refine ⟨true, rfl, iteT ?_⟩
          refine ⟨.ref po, rfl, .str z, rfl, po, _, rfl, go, .ref pn, rfl, .str z, rfl, pn, _, rfl, gn, sc, _, rfl, ?_⟩
          by_cases q : look (o e) z = look (n e) z
          · rw [decide_eq_true q] at one ⊢
            refine iteF ?_
            exact ⟨.ref po, rfl, .str z, rfl, po, _, rfl, go, by show 1 ≤ sizeLine; decide, fun l hl => ⟨.ref D, rfl, .str z, rfl, D, _, rfl, DPut.k (k := Sum.inr z) (dput _ l hl) small, fin _ (one rfl).symm l hl⟩⟩
          · rw [decide_eq_false q] at two ⊢
            refine iteT ?_
            exact ⟨.ref po, rfl, .str z, rfl, po, _, rfl, go, .ref pn, rfl, .str z, rfl, pn, _, rfl, gn, by show 2 ≤ sizeLine; decide, fun l hl => ⟨.ref D, rfl, .str z, rfl, D, _, rfl, DPut.k (k := Sum.inr z) (dput _ l hl) small, fin _ (two rfl).symm l hl⟩⟩
        · rw [decide_eq_false my] at one ⊢
          refine ⟨false, rfl, iteF ?_⟩
          refine iteF ?_
          exact ⟨.ref po, rfl, .str z, rfl, po, _, rfl, go, by show 1 ≤ sizeLine; decide, fun l hl => ⟨.ref D, rfl, .str z, rfl, D, _, rfl, DPut.k (k := Sum.inr z) (dput _ l hl) small, fin _ (one rfl).symm l hl⟩⟩
    · rintro σ H5 ⟨x7, rfl, _, x5, q5, o5, n5, npo, npn, rs, d5, hks, hrs⟩
      rw [List.length_map, List.take_length] at hks
      exact ⟨.ref D, rfl, k D H5 x5 hD0 ⟨rs, d5, hks, hrs⟩⟩
end
end Rw
end T_Y1

section T_Y2
set_option Elab.async false
set_option linter.all false
set_option maxRecDepth 100000
set_option maxHeartbeats 4000000
namespace Rw
open PySem L2 PyProof.Rows
theorem dget_rd {H : Hp} {a : Addr} {kvs : List (Key × V)} {k : Key} {v : V} (h : Rd H a (.dK kvs)) (hv : valV kvs k = some v) : DGet H a (kV k) (some v) := .inl ⟨kvs, k, h, rfl, hv.symm⟩
section
variable {P : Program} {w : World} {K : PySem.W.Frag} {mg : Str → Option Value} {base : Heap}
/-! ### the law's mixture -/
end
end Rw
end T_Y2

section T_K0
set_option Elab.async false
set_option linter.all false
set_option maxRecDepth 100000
set_option maxHeartbeats 1000000
namespace Rw
open PySem PySem.Spec L2 PyProof.Rows
/-! ### rows of nodes in a mixture -/
def lastS : Str → List Str → Str
  | x, [] => x
  | _, y :: r => lastS y r
def Way (f : Str → List V) : Str → List Str → Prop
  | _, [] => True
  | x, y :: r => V.str y ∈ f x ∧ Way f y r
def lastP : List Str → Str
  | [] => Str.empty
  | x :: r => lastS x r
def IsWay (dots : List Str) (f : Str → List V) : List Str → Prop
  | [] => False
  | x :: r => Way f x r ∧ ∀ z ∈ x :: r, z ∈ dots
def Shut (f : Str → List V) : List Str → Prop
  | [] => False
  | x :: r => V.str x ∈ f (lastS x r)
def IsRing (dots : List Str) (f : Str → List V) (p : List Str) : Prop := IsWay dots f p ∧ Shut f p
def Best (dots : List Str) (f : Str → List V) (p : List Str) : Prop := IsRing dots f p ∧ ∀ q, IsRing dots f q → numRow ((q.length : Int), q) ((p.length : Int), p) = false
section
variable {dots : List Str} {f : Str → List V}
theorem lastS_mid : ∀ (x : Str) (s : List Str) (y : Str) (t : List Str), lastS x (s ++ y :: t) = lastS y t
  | _, [], _, _ => rfl
  | _, z :: s, y, t => lastS_mid z s y t
theorem way_mid : ∀ (x : Str) (s : List Str) (y : Str) (t : List Str), Way f x (s ++ y :: t) ↔ Way f x s ∧ V.str y ∈ f (lastS x s) ∧ Way f y t
  | x, [], y, t => ⟨fun h => ⟨trivial, h.1, h.2⟩, fun h => ⟨h.2.1, h.2.2⟩⟩
  | x, z :: s, y, t => by
    show (V.str z ∈ f x ∧ Way f z (s ++ y :: t)) ↔ (V.str z ∈ f x ∧ Way f z s) ∧ _
    rw [way_mid z s y t]
    exact ⟨fun h => ⟨⟨h.1, h.2.1⟩, h.2.2⟩, fun h => ⟨h.1.1, h.1.2, h.2⟩⟩
theorem isWay_ne {p : List Str} (h : IsWay dots f p) : p ≠ [] := fun e => by rw [e] at h; exact h
theorem isWay_dots {p : List Str} (h : IsWay dots f p) : ∀ z ∈ p, z ∈ dots := by
  cases p with
  | nil => exact h.elim
  | cons x r => exact h.2
theorem isWay_one {z : Str} (h : z ∈ dots) : IsWay dots f [z] := ⟨trivial, fun y hy => by rw [List.mem_singleton.mp hy]; exact h⟩
theorem isWay_snoc {p : List Str} {y : Str} (ne : p ≠ []) : IsWay dots f (p ++ [y]) ↔ IsWay dots f p ∧ V.str y ∈ f (lastP p) ∧ y ∈ dots := by
  cases p with
  | nil => exact absurd rfl ne
  | cons x r =>
    show (Way f x (r ++ [y]) ∧ ∀ z ∈ x :: (r ++ [y]), z ∈ dots) ↔ (Way f x r ∧ ∀ z ∈ x :: r, z ∈ dots) ∧ V.str y ∈ f (lastS x r) ∧ y ∈ dots
    rw [way_mid]
    refine ⟨fun h => ⟨⟨h.1.1, fun z hz => h.2 z (by rw [← List.cons_append]; exact List.mem_append_left _ hz)⟩, h.1.2.1, h.2 y (by rw [← List.cons_append]; exact List.mem_append_right _ List.mem_cons_self)⟩, fun h => ⟨⟨h.1.1, h.2.1, trivial⟩, fun z hz => ?_⟩⟩
    rw [← List.cons_append] at hz
    rcases List.mem_append.mp hz with hz | hz
    · exact h.1.2 z hz
    · rw [List.mem_singleton.mp hz]; exact h.2.2
theorem isWay_pre {p s : List Str} (ne : p ≠ []) (h : IsWay dots f (p ++ s)) : IsWay dots f p := by
  cases p with
  | nil => exact absurd rfl ne
  | cons x r =>
    cases s with
    | nil => rw [List.append_nil] at h; exact h
    | cons y t =>
      obtain ⟨h1, h2⟩ := (show Way f x (r ++ y :: t) ∧ ∀ z ∈ x :: (r ++ y :: t), z ∈ dots from h)
      exact ⟨((way_mid x r y t).mp h1).1, fun z hz => h2 z (by rw [← List.cons_append]; exact List.mem_append_left _ hz)⟩
/-- a row with a node twice has a shorter ring -/
theorem ring_of_twice : ∀ (r : List Str) (x : Str), IsWay dots f (x :: r) → ¬ (x :: r).Nodup → ∃ q, IsRing dots f q ∧ q.length < (x :: r).length
  | [], x, _, h => absurd (List.nodup_cons.mpr ⟨by simp, List.nodup_nil⟩) h
  | y :: r, x, h, hn => by
    by_cases hx : x ∈ y :: r
    · obtain ⟨s, t, e⟩ := List.append_of_mem hx
      obtain ⟨h1, h2⟩ := h
      rw [e] at h1 h2 ⊢
      have h3 := (way_mid x s x t).mp h1
      refine ⟨x :: s, ⟨⟨h3.1, fun z hz => h2 z (by rw [← List.cons_append]; exact List.mem_append_left _ hz)⟩, h3.2.1⟩, ?_⟩
      simp
    · have hr : ¬ (y :: r).Nodup := fun z => hn (List.nodup_cons.mpr ⟨hx, z⟩)
      obtain ⟨q, h1, h2⟩ := ring_of_twice r y ⟨h.1.2, fun z hz => h.2 z (List.mem_cons_of_mem _ hz)⟩ hr
      exact ⟨q, h1, Nat.lt_succ_of_lt h2⟩
theorem numRow_short {p q : List Str} (h : q.length < p.length) : numRow ((q.length : Int), q) ((p.length : Int), p) = true := by
  unfold numRow
  rw [if_neg (by show ¬ ((q.length : Int) = p.length); omega)]
  exact decide_eq_true (by show (q.length : Int) < p.length; omega)
theorem numRow_even {p q : List Str} (h : q.length = p.length) : numRow ((q.length : Int), q) ((p.length : Int), p) = lexS q p := by
  unfold numRow
  exact if_pos (by show (q.length : Int) = p.length; omega)
theorem best_nodup {p : List Str} (h : Best dots f p) : p.Nodup := by
  cases p with
  | nil => exact List.nodup_nil
  | cons x r =>
    by_cases n : (x :: r).Nodup
    · exact n
    · obtain ⟨q, h1, h2⟩ := ring_of_twice r x h.1.1 n
      have := h.2 q h1
      rw [numRow_short h2] at this
      cases this
theorem best_least {x : Str} {r : List Str} (h : Best dots f (x :: r)) : ∀ y ∈ r, x.cps.toList < y.cps.toList := by
  intro y hy
  have nd := best_nodup h
  obtain ⟨s, t, e⟩ := List.append_of_mem hy
  subst e
  obtain ⟨⟨⟨h1, h2⟩, h3⟩, h4⟩ := h
  have w := (way_mid x s y t).mp h1
  have sh : V.str x ∈ f (lastS y t) := by
    have q : V.str x ∈ f (lastS x (s ++ y :: t)) := h3
    rw [lastS_mid] at q
    exact q
  have c : IsRing dots f (y :: (t ++ x :: s)) := by
    refine ⟨⟨(way_mid y t x s).mpr ⟨w.2.2, sh, w.1⟩, fun z hz => h2 z ?_⟩, ?_⟩
    · simp only [List.mem_cons, List.mem_append] at hz ⊢
      rcases hz with rfl | hz | rfl | hz
      · exact .inr (.inr (.inl rfl))
      · exact .inr (.inr (.inr hz))
      · exact .inl rfl
      · exact .inr (.inl hz)
    · show V.str y ∈ f (lastS y (t ++ x :: s))
      rw [lastS_mid]
      exact w.2.1
  have k := h4 _ c
  have ne : x ≠ y := fun e => by
    subst e
    exact (List.nodup_cons.mp nd).1 (List.mem_append_right _ List.mem_cons_self)
  rw [numRow_even (by simp; omega), lexS_step, if_neg (fun z => ne z.symm), decide_eq_false_iff_not] at k
  by_cases g : x.cps.toList < y.cps.toList
  · exact g
  · exact absurd (txt_anti g k) ne
/-! ### the nodes behind one -/
def dotOf (dots : List Str) : V → Option Str
  | .str y => if y ∈ dots then some y else none
  | _ => none
def behind (dots : List Str) (f : Str → List V) (z : Str) : List Str := (f z).filterMap (dotOf dots)
theorem dotOf_some {v : V} {y : Str} : dotOf dots v = some y ↔ v = .str y ∧ y ∈ dots := by
  cases v with
  | str x =>
    show (if x ∈ dots then some x else none) = some y ↔ _
    by_cases h : x ∈ dots
    · rw [if_pos h]
      exact ⟨fun e => (by cases e; exact ⟨rfl, h⟩), fun e => (by cases e.1; rfl)⟩
    · rw [if_neg h]
      exact ⟨fun e => (by cases e), fun e => (by cases e.1; exact absurd e.2 h)⟩
  | _ => exact ⟨fun e => (by cases e), fun e => (by cases e.1)⟩
theorem mem_behind {z y : Str} : y ∈ behind dots f z ↔ V.str y ∈ f z ∧ y ∈ dots := by
  unfold behind
  rw [List.mem_filterMap]
  exact ⟨fun ⟨v, h1, h2⟩ => by obtain ⟨rfl, h3⟩ := dotOf_some.mp h2; exact ⟨h1, h3⟩, fun h => ⟨_, h.1, dotOf_some.mpr ⟨rfl, h.2⟩⟩⟩
theorem pick_nodup : ∀ {l : List V}, l.Nodup → (l.filterMap (dotOf dots)).Nodup
  | [], _ => List.nodup_nil
  | v :: l, h => by
    obtain ⟨h1, h2⟩ := List.nodup_cons.mp h
    rw [List.filterMap_cons]
    cases e : dotOf dots v with
    | none => exact pick_nodup h2
    | some y =>
      refine List.nodup_cons.mpr ⟨fun m => h1 ?_, pick_nodup h2⟩
      obtain ⟨u, g1, g2⟩ := List.mem_filterMap.mp m
      rw [(dotOf_some.mp e).1, ← (dotOf_some.mp g2).1]
      exact g1
/-- in order -/
noncomputable def srt (l : List Str) : List Str := by
  classical exact if h : ∃ ys : List Str, ys.Perm l ∧ sortedS ys = true then Classical.choose h else []
theorem srt_is {l ys : List Str} (h1 : ys.Perm l) (h2 : sortedS ys = true) : srt l = ys := by
  have h : ∃ ys : List Str, ys.Perm l ∧ sortedS ys = true := ⟨ys, h1, h2⟩
  have g := Classical.choose_spec h
  have e : srt l = Classical.choose h := by unfold srt; exact dif_pos h
  rw [e]
  exact sorted_uniq g.2 h2 (g.1.trans h1.symm)
/-! ### lexS over rows of one length -/
theorem lexS_more : ∀ {p q : List Str} (s t : List Str), p.length = q.length → lexS p q = true → lexS (p ++ s) (q ++ t) = true
  | [], [], _, _, _, h => nomatch h
  | [], _ :: _, _, _, e, _ => nomatch e
  | _ :: _, [], _, _, e, _ => nomatch e
  | x :: p, y :: q, s, t, e, h => by
    rw [List.cons_append, List.cons_append, lexS_step]
    rw [lexS_step] at h
    by_cases exy : x = y
    · rw [if_pos exy] at h ⊢
      exact lexS_more s t (Nat.succ.inj e) h
    · rw [if_neg exy] at h ⊢
      exact h
theorem lexS_tail : ∀ (p : List Str) {y z : Str}, y.cps.toList < z.cps.toList → lexS (p ++ [y]) (p ++ [z]) = true
  | [], y, z, h => by
    show lexS [y] [z] = true
    rw [lexS_step, if_neg (fun e => by rw [e] at h; exact List.lt_irrefl _ h)]
    exact decide_eq_true h
  | x :: p, y, z, h => by
    rw [List.cons_append, List.cons_append, lexS_step, if_pos rfl]
    exact lexS_tail p h
theorem strict_of {l : List Str} (h : sortedS l = true) (n : l.Nodup) : l.Pairwise fun a b => a.cps.toList < b.cps.toList := by
  refine List.Pairwise.imp_of_mem (R := fun a b => TLe a b ∧ a ≠ b) (fun {a b} _ _ h => ?_) ?_
  · by_cases g : a.cps.toList < b.cps.toList
    · exact g
    · exact absurd (txt_anti g h.1) h.2
  · exact List.pairwise_and_iff.mpr ⟨sorted_pair h, n⟩
/-! ### the rows of one length, in order -/
noncomputable def nexts (dots : List Str) (f : Str → List V) (p : List Str) : List (List Str) := (srt (behind dots f (lastP p))).map fun y => p ++ [y]
structure Lay (dots : List Str) (f : Str → List V) (k : Nat) (L : List (List Str)) : Prop where
  all : ∀ p, p ∈ L ↔ IsWay dots f p ∧ p.length = k + 1
  asc : L.Pairwise fun p q => lexS p q = true
  non : ∀ p, IsRing dots f p → k < p.length
  few : L.length ≤ dots.length * 2 ^ k
theorem lay_start (ds : sortedS dots = true) (dn : dots.Nodup) : Lay dots f 0 (dots.map fun z => [z]) := by
  refine ⟨fun p => ⟨fun h => ?_, fun h => ?_⟩, ?_, fun p h => ?_, by rw [List.length_map]; omega⟩
  · obtain ⟨z, hz, rfl⟩ := List.mem_map.mp h
    exact ⟨isWay_one hz, rfl⟩
  · match p, h with
    | [z], h => exact List.mem_map.mpr ⟨z, h.1.2 z List.mem_cons_self, rfl⟩
  · rw [List.pairwise_map]
    exact (strict_of ds dn).imp fun h => lexS_tail [] h
  · exact List.length_pos_iff.mpr (isWay_ne h.1)
theorem lay_hit {k : Nat} {A B : List (List Str)} {p : List Str} (h : Lay dots f k (A ++ p :: B)) (hA : ∀ q ∈ A, ¬ Shut f q) (hp : Shut f p) : Best dots f p := by
  have wp := (h.all p).mp (List.mem_append_right _ List.mem_cons_self)
  refine ⟨⟨wp.1, hp⟩, fun q hq => ?_⟩
  have lq := h.non q hq
  by_cases e : q.length = p.length
  · rw [numRow_even e]
    have mq : q ∈ A ++ p :: B := (h.all q).mpr ⟨hq.1, by rw [e]; exact wp.2⟩
    have as := h.asc
    rcases List.mem_append.mp mq with mq | mq
    · exact absurd hq.2 (hA q mq)
    · rcases List.mem_cons.mp mq with rfl | mq
      · exact lexS_self _
      · exact lexS_no ((List.pairwise_cons.mp (List.pairwise_append.mp as).2.1).1 q mq)
  · unfold numRow
    rw [if_neg (by show ¬ ((q.length : Int) = p.length); omega)]
    exact decide_eq_false (by show ¬ ((q.length : Int) < p.length); omega)
theorem lay_end {k : Nat} (h : Lay dots f k []) (p : List Str) : ¬ IsRing dots f p := fun hp => by
  have l := h.non p hp
  have e : p = p.take (k + 1) ++ p.drop (k + 1) := (List.take_append_drop _ _).symm
  have ne : p.take (k + 1) ≠ [] := fun z => by
    have := congrArg List.length z
    rw [List.length_take, List.length_nil] at this
    omega
  have w : IsWay dots f (p.take (k + 1)) := isWay_pre ne (by rw [← e]; exact hp.1)
  have := (h.all _).mpr ⟨w, by rw [List.length_take]; omega⟩
  cases this
theorem lay_len {k : Nat} {p : List Str} {L : List (List Str)} (h : Lay dots f k (p :: L)) (dn : dots.Nodup) : k + 1 ≤ dots.length := by
  have wp := (h.all p).mp List.mem_cons_self
  by_cases n : p.Nodup
  · rw [← wp.2]
    exact nodup_le p dots n (isWay_dots wp.1)
  · cases p with
    | nil => exact absurd List.nodup_nil n
    | cons x r =>
      obtain ⟨q, h1, h2⟩ := ring_of_twice r x wp.1 n
      have := h.non q h1
      have := wp.2
      omega
theorem lay_next {k : Nat} {L : List (List Str)} (h : Lay dots f k L) (hn : ∀ p ∈ L, ¬ Shut f p) (fn : ∀ z ∈ dots, (f z).Nodup ∧ (f z).length ≤ 2) (ex : ∀ p ∈ L, ∃ ys : List Str, ys.Perm (behind dots f (lastP p)) ∧ sortedS ys = true) : Lay dots f (k + 1) (L.flatMap (nexts dots f)) := by
  have lp : ∀ p ∈ L, p ≠ [] ∧ lastP p ∈ dots := fun p hp => by
    have w := ((h.all p).mp hp).1
    refine ⟨isWay_ne w, ?_⟩
    cases p with
    | nil => exact w.elim
    | cons x r =>
      have go : ∀ (r : List Str) (x : Str), lastS x r ∈ x :: r := fun r => by
        induction r with
        | nil => intro x; exact List.mem_cons_self
        | cons y r ih => intro x; exact List.mem_cons_of_mem _ (ih y)
      exact w.2 _ (go r x)
  have sp : ∀ p ∈ L, (srt (behind dots f (lastP p))).Perm (behind dots f (lastP p)) ∧ sortedS (srt (behind dots f (lastP p))) = true := fun p hp => by
    obtain ⟨ys, h1, h2⟩ := ex p hp
    rw [srt_is h1 h2]
    exact ⟨h1, h2⟩
  refine ⟨fun q => ⟨fun hq => ?_, fun hq => ?_⟩, ?_, fun q hq => ?_, ?_⟩
  · obtain ⟨p, hp, hq⟩ := List.mem_flatMap.mp hq
    obtain ⟨y, hy, rfl⟩ := List.mem_map.mp hq
    obtain ⟨w, l⟩ := (h.all p).mp hp
    have b := mem_behind.mp ((sp p hp).1.mem_iff.mp hy)
    exact ⟨(isWay_snoc (lp p hp).1).mpr ⟨w, b.1, b.2⟩, by rw [List.length_append, l]; rfl⟩
  · obtain ⟨w, l⟩ := hq
    have ne : q ≠ [] := isWay_ne w
    obtain ⟨p, y, rfl⟩ : ∃ p y, q = p ++ [y] := ⟨q.dropLast, q.getLast ne, (List.dropLast_concat_getLast ne).symm⟩
    rw [List.length_append] at l
    have l' : p.length = k + 1 := by simpa using l
    have pne : p ≠ [] := fun z => by rw [z] at l'; cases l'
    obtain ⟨w1, w2, w3⟩ := (isWay_snoc pne).mp w
    have hp := (h.all p).mpr ⟨w1, l'⟩
    exact List.mem_flatMap.mpr ⟨p, hp, List.mem_map.mpr ⟨y, (sp p hp).1.mem_iff.mpr (mem_behind.mpr ⟨w2, w3⟩), rfl⟩⟩
  · rw [List.pairwise_flatMap]
    refine ⟨fun p hp => ?_, List.Pairwise.imp_of_mem (fun {p q} hp hq pq => ?_) h.asc⟩
    · unfold nexts
      rw [List.pairwise_map]
      have nb : (srt (behind dots f (lastP p))).Nodup := (sp p hp).1.nodup_iff.mpr (pick_nodup (fn _ (lp p hp).2).1)
      exact (strict_of (sp p hp).2 nb).imp fun g => lexS_tail p g
    · intro a ha b hb
      obtain ⟨y, _, rfl⟩ := List.mem_map.mp ha
      obtain ⟨z, _, rfl⟩ := List.mem_map.mp hb
      exact lexS_more _ _ (by rw [((h.all p).mp hp).2, ((h.all q).mp hq).2]) pq
  · have l := h.non q hq
    by_cases e : q.length = k + 1
    · exact absurd hq.2 (hn q ((h.all q).mpr ⟨hq.1, e⟩))
    · omega
  · have go : ∀ M : List (List Str), (∀ p ∈ M, p ∈ L) → (M.flatMap (nexts dots f)).length ≤ 2 * M.length := fun M => by
      induction M with
      | nil => intro _; exact Nat.zero_le _
      | cons p M ih =>
        intro hM
        rw [List.flatMap_cons, List.length_append, List.length_cons]
        have i := ih fun q hq => hM q (List.mem_cons_of_mem _ hq)
        have hp := hM p List.mem_cons_self
        have j : (nexts dots f p).length ≤ 2 := by
          unfold nexts
          rw [List.length_map, (sp p hp).1.length_eq]
          exact Nat.le_trans (List.length_filterMap_le _ _) (fn _ (lp p hp).2).2
        omega
    have := go L fun p hp => hp
    have := h.few
    rw [Nat.pow_succ]
    have e : dots.length * (2 ^ k * 2) = 2 * (dots.length * 2 ^ k) := by rw [← Nat.mul_assoc, Nat.mul_comm _ 2]
    omega
end
end Rw
end T_K0

section T_K1
set_option Elab.async false
set_option linter.all false
set_option maxRecDepth 100000
set_option maxHeartbeats 4000000
namespace Rw
open PySem L2 PyProof.Rows
/-- a mixture that is read, locked or not -/
structure MixR (H : Hp) (D : Addr) (dots : List Str) (f : Str → List V) : Prop where
  ex : ∃ rs : List (Str × V), Rd H D (.dK (tkv rs)) ∧ rs.map (·.1) = dots ∧ ∀ q ∈ rs, ∃ a : Addr, q.2 = .ref a ∧ H a = some (.lst (f q.1))
theorem MixAt.r {H0 H : Hp} {D : Addr} {dots : List Str} {f : Str → List V} (M : MixAt H0 H D dots f) : MixR H D dots f := by
  obtain ⟨rs, h1, h2, h3⟩ := M.ex
  exact ⟨rs, .inl h1, h2, fun q hq => let ⟨a, e, _, h⟩ := h3 q hq; ⟨a, e, h⟩⟩
theorem rd_ex {H H' : Hp} {a : Addr} {u : HO} (x : Evl.Ex H H') (h : Rd H a u) : Rd H' a u := h.elim (fun q => .inl (x _ _ q)) fun ⟨o, q⟩ => .inr ⟨o, x _ _ q⟩
theorem MixR.to {H H' : Hp} {D : Addr} {dots : List Str} {f : Str → List V} (M : MixR H D dots f) (x : Evl.Ex H H') : MixR H' D dots f := by
  obtain ⟨rs, h1, h2, h3⟩ := M.ex
  exact ⟨rs, rd_ex x h1, h2, fun q hq => let ⟨a, e, h⟩ := h3 q hq; ⟨a, e, x _ _ h⟩⟩
/-- the list of z's places -/
theorem MixR.get {H : Hp} {D : Addr} {dots : List Str} {f : Str → List V} (M : MixR H D dots f) {z : Str} (hz : z ∈ dots) : ∃ l, DGet H D (.str z) (some (.ref l)) ∧ H l = some (.lst (f z)) := by
  obtain ⟨rs, h1, h2, h3⟩ := M.ex
  obtain ⟨v, hv, hm⟩ := tkv_some (tb := rs) (z := z) (by rw [h2]; exact hz)
  obtain ⟨a, e, h⟩ := h3 _ hm
  have e' : v = .ref a := e
  subst e'
  exact ⟨a, dget_rd (k := Sum.inr z) h1 hv, h⟩
theorem MixR.has {H : Hp} {D : Addr} {dots : List Str} {f : Str → List V} (M : MixR H D dots f) (y : Str) : ∃ r : Option V, DGet H D (.str y) r ∧ r.isSome = decide (y ∈ dots) := by
  obtain ⟨rs, h1, h2, _⟩ := M.ex
  refine ⟨valV (tkv rs) (Sum.inr y), .inl ⟨_, Sum.inr y, h1, rfl, rfl⟩, ?_⟩
  by_cases h : y ∈ dots
  · obtain ⟨v, hv, _⟩ := tkv_some (tb := rs) (z := y) (by rw [h2]; exact h)
    rw [hv, decide_eq_true h]
    rfl
  · rw [tkv_none (by rw [h2]; exact h), decide_eq_false h]
    rfl
/-- tuples of names, by their addresses -/
def TupsAt (H : Hp) (L : List (Addr × List Str)) : Prop := ∀ q ∈ L, H q.1 = some (.tup (q.2.map V.str))
theorem TupsAt.to {H H' : Hp} {L : List (Addr × List Str)} (h : TupsAt H L) (x : Evl.Ex H H') : TupsAt H' L := fun q hq => x _ _ (h q hq)
/-- what a mixture has at each node -/
structure Webs (dots : List Str) (f : Str → List V) : Prop where
  sp : ∀ z ∈ dots, ∀ v ∈ f z, Spot v
  two : ∀ z ∈ dots, (f z).length ≤ 2
  nd : ∀ z ∈ dots, (f z).Nodup
section
variable {P : Program} {w : World} {K : PySem.W.Frag} {mg : Str → Option Value} {base : Heap}
def spBehind : Sp := fun vs H Q _ => ∃ (D : Addr) (z : Str) (dots : List Str) (f : Str → List V), vs = [.ref D, .str z] ∧ MixR H D dots f ∧ z ∈ dots ∧ Webs dots f ∧
  ∀ p H', Evl.Ex H H' → H p = none → H' p = some (.lst ((behind dots f z).map V.str)) → Q (.ref p) H'
abbrev nBehind : List Str := ["mixture", "node", "place"]
theorem sc_behind : FnScope nBehind ["mixture", "node"] (defScope p_nodes_behind) := ⟨rfl, rfl, rfl, by decide +kernel, rfl, by decide +kernel, by decide +kernel⟩
theorem ok_behind {f : Addr} {fd : FuncData} (F : Fun K "nodes_behind" "nodes_behind" p_nodes_behind f fd) : FnOk P w K mg base CX0 1 f fd ["mixture", "node"] spBehind := by
  refine F.ok sc_behind (fun vs H Q E h => ?_) (fun cdv A outer s H vs Q E hr h => ?_)
  · obtain ⟨D, z, dots, f, rfl, _⟩ := h
    rfl
  · obtain ⟨D, z, dots, f, rfl, M, hz, W, k⟩ := h
    have nd := sc_behind.nd
    have hu := hu_of hr
    refine ⟨_, pss_one (ps_ret (pe_lc (own := [("place", 2)]) (g := gName 2) (tt := tB (tDInN (tVar 2) (tVar 0))) (te := tVar 2) rfl nd (pi_list (pe_dget hu (pv 0) (pv 1) (fun _ _ => rfl))) (blkOk_by (own := [("place", 2)]) (N := nBehind) (sc := defScope p_nodes_behind) (by decide +kernel))
        (fun _ _ _ _ _ => pg_name (i := 2) nd rfl (Or.inl rfl)) (fun _ _ _ _ _ => pts_one (pt_cmp (pc_dinN hu (pv 2) (pv 0)) rfl)) (fun _ _ _ _ _ => pv 2))), ?_⟩
    obtain ⟨l, gl, hl⟩ := M.get hz
    have two := W.two z hz
    refine ⟨.ref D, rfl, .str z, rfl, D, .ref l, rfl, gl, l, rfl, ⟨_, Evl.sq_of hl⟩, fun R hR => lc_list (K := K) (a := l) (xs := f z) (fun i H' => Evl.Ex H H' ∧ H' R = some (.lst ((((f z).take i).filterMap (dotOf dots)).map V.str)))
      ⟨Evl.Ex.new hR, upd_same⟩ (fun i H' _ h => Evl.sq_of (h.1 _ _ hl)) ?_ ?_⟩
    · rintro i v H1 hi ⟨x1, r1⟩
      have hil : i < (f z).length := (List.getElem?_eq_some_iff.mp hi).1
      have et : ((f z).take (i + 1)).filterMap (dotOf dots) = ((f z).take i).filterMap (dotOf dots) ++ (dotOf dots v).toList := by
        rw [List.take_add_one, hi, List.filterMap_append]
        show _ ++ List.filterMap _ [v] = _
        rw [List.filterMap_cons]
        cases dotOf dots v <;> rfl
      have sl : (((f z).take i).filterMap (dotOf dots)).length ≤ 2 := Nat.le_trans (List.length_filterMap_le _ _) (by rw [List.length_take]; omega)
      refine ⟨rfl, ?_⟩
      rcases W.sp z hz v (List.mem_of_getElem? hi) with rfl | ⟨y, rfl, _⟩
      · obtain ⟨rs, h1, _, _⟩ := (M.to x1).ex
        refine ⟨.non, rfl, .ref D, rfl, .inr ⟨D, _, rfl, rfl, h1, false, rfl, iteF ⟨x1, ?_⟩⟩⟩
        rw [r1, et]
        show some (HO.lst _) = some (HO.lst ((_ ++ []).map V.str))
        rw [List.append_nil]
      · obtain ⟨r, g, e⟩ := (M.to x1).has y
        refine ⟨.str y, rfl, .ref D, rfl, .inl ⟨D, r, rfl, g, _, rfl, ?_⟩⟩
        rw [e]
        by_cases m : y ∈ dots
        · rw [decide_eq_true m]
          refine iteT ⟨.str y, rfl, _, r1, by rw [List.length_map]; exact small1000 (by omega), x1.mut hR, ?_⟩
          rw [upd_same, et, show dotOf dots (.str y) = some y from dotOf_some.mpr ⟨rfl, m⟩, List.map_append]
          rfl
        · rw [decide_eq_false m]
          refine iteF ⟨x1, ?_⟩
          rw [r1, et, show dotOf dots (.str y) = none from if_neg m]
          show some (HO.lst _) = some (HO.lst ((_ ++ []).map V.str))
          rw [List.append_nil]
    · rintro H1 ⟨x1, r1⟩
      rw [List.take_length] at r1
      exact k R H1 x1 hR r1
theorem spotsOf_nd {o n : List (Str × V)} {zs ys : List Str} {z : Str} : (spotsOf o n zs ys z).Nodup := by
  unfold spotsOf
  split
  · exact List.nodup_cons.mpr ⟨by simp, List.nodup_nil⟩
  · split
    · rename_i h
      rw [Bool.and_eq_true] at h
      refine List.nodup_cons.mpr ⟨fun m => ?_, List.nodup_cons.mpr ⟨by simp, List.nodup_nil⟩⟩
      have e := List.mem_singleton.mp m
      have := h.2
      rw [decide_eq_true e] at this
      cases this
    · exact List.nodup_cons.mpr ⟨by simp, List.nodup_nil⟩
end
end Rw
end T_K1

section T_PQ
set_option Elab.async false
set_option linter.all false
set_option maxRecDepth 100000
set_option maxHeartbeats 4000000
namespace Rw
open PySem L2 PyProof.Rows LamX
theorem mem_spots {o n : List (Str × V)} {zs ys : List Str} {z : Str} {u : V} : u ∈ spotsOf o n zs ys z ↔ (z ∉ zs ∧ u = look o z) ∨ ((z ∈ zs ∨ z ∈ ys) ∧ u = look n z) := by
  unfold spotsOf
  by_cases h : z ∈ zs
  · rw [if_pos h, List.mem_singleton]
    exact ⟨fun q => .inr ⟨.inl h, q⟩, fun q => q.elim (fun q => absurd h q.1) (·.2)⟩
  · rw [if_neg h]
    by_cases hy : z ∈ ys
    · by_cases e : look o z = look n z
      · rw [decide_eq_true hy, decide_eq_true e, if_neg (by decide), List.mem_singleton]
        exact ⟨fun q => .inl ⟨h, q⟩, fun q => q.elim (·.2) fun q => by rw [e]; exact q.2⟩
      · rw [decide_eq_true hy, decide_eq_false e, if_pos (by decide), List.mem_cons, List.mem_singleton]
        exact ⟨fun q => q.elim (fun q => .inl ⟨h, q⟩) fun q => .inr ⟨.inr hy, q⟩, fun q => q.elim (fun q => .inl q.2) fun q => .inr q.2⟩
    · rw [decide_eq_false hy, Bool.false_and, if_neg (by decide), List.mem_singleton]
      exact ⟨fun q => .inl ⟨h, q⟩, fun q => q.elim (·.2) fun q => absurd q.1 fun t => t.elim h hy⟩
/-! ### papers: numbers of some nodes -/
def nW (dom : List Str) (g : Str → Nat) : List (Str × V) := dom.map fun z => (z, V.int (g z : Int))
theorem nW_keys {dom : List Str} {g : Str → Nat} : (nW dom g).map (·.1) = dom := by
  unfold nW
  rw [List.map_map]
  exact List.map_id' dom
theorem nW_len {dom : List Str} {g : Str → Nat} : (nW dom g).length = dom.length := by unfold nW; rw [List.length_map]
theorem nW_get {dom : List Str} {g : Str → Nat} {z : Str} (h : z ∈ dom) : valV (tkv (nW dom g)) (Sum.inr z) = some (.int (g z : Int)) := by
  obtain ⟨v, hv, hm⟩ := tkv_some (tb := nW dom g) (z := z) (by rw [nW_keys]; exact h)
  unfold nW at hm
  obtain ⟨y, _, e⟩ := List.mem_map.mp hm
  cases e
  exact hv
theorem nW_none {dom : List Str} {g : Str → Nat} {z : Str} (h : z ∉ dom) : valV (tkv (nW dom g)) (Sum.inr z) = none := tkv_none (by rw [nW_keys]; exact h)
theorem nW_has {dom : List Str} {g : Str → Nat} (y : Str) : (valV (tkv (nW dom g)) (Sum.inr y)).isSome = decide (y ∈ dom) := by
  by_cases h : y ∈ dom
  · rw [nW_get h, decide_eq_true h]
    rfl
  · rw [nW_none h, decide_eq_false h]
    rfl
theorem nW_at {dom : List Str} {g : Str → Nat} {i : Nat} {k : Key} {v : V} (h : (tkv (nW dom g))[i]? = some (k, v)) : ∃ z, dom[i]? = some z ∧ k = Sum.inr z ∧ v = .int (g z : Int) := by
  unfold tkv nW at h
  rw [List.map_map, List.getElem?_map] at h
  cases q : dom[i]? with
  | none => rw [q] at h; cases h
  | some z =>
    rw [q] at h
    have e := Option.some.inj h
    exact ⟨z, rfl, (congrArg Prod.fst e).symm, (congrArg Prod.snd e).symm⟩
def putG (g : Str → Nat) (z : Str) (m : Nat) : Str → Nat := fun y => if y = z then m else g y
theorem putG_at (g : Str → Nat) (z : Str) (m : Nat) : putG g z m z = m := if_pos rfl
theorem putG_ne {g : Str → Nat} {z y : Str} {m : Nat} (h : y ≠ z) : putG g z m y = g y := if_neg h
theorem nW_new {dom : List Str} {g : Str → Nat} {z : Str} {m : Nat} (h : z ∉ dom) : putK (tkv (nW dom g)) (Sum.inr z) (.int (m : Int)) = tkv (nW (dom ++ [z]) (putG g z m)) := by
  rw [tkv_new (by rw [nW_keys]; exact h)]
  unfold nW
  rw [List.map_append]
  refine congrArg tkv (congr (congrArg _ (List.map_congr_left fun y hy => ?_)) ?_)
  · rw [putG_ne fun e => h (by rw [← e]; exact hy)]
  · show [(z, V.int (m : Int))] = [(z, V.int (putG g z m z : Int))]
    rw [putG_at]
theorem nW_old {dom : List Str} {g : Str → Nat} {z : Str} {m : Nat} (h : z ∈ dom) : putK (tkv (nW dom g)) (Sum.inr z) (.int (m : Int)) = tkv (nW dom (putG g z m)) := by
  rw [tkv_old (by rw [nW_keys]; exact h)]
  unfold nW
  rw [List.map_map]
  refine congrArg tkv (List.map_congr_left fun y hy => ?_)
  show (if y = z then (y, V.int (m : Int)) else (y, V.int (g y : Int))) = _
  by_cases e : y = z
  · rw [if_pos e, e, putG_at]
  · rw [if_neg e, putG_ne e]
theorem nW_congr {dom : List Str} {g h : Str → Nat} (e : ∀ z ∈ dom, g z = h z) : nW dom g = nW dom h := List.map_congr_left fun z hz => by rw [e z hz]
/-- a paper for a wish and a goal -/
structure Pap (wd e : Str) (starts ss ps dots : List Str) (f : Str → List V) (dom : List Str) (g : Str → Nat) : Prop where
  st : ∀ z ∈ starts, z ∈ dom
  p0 : wd = ("posts" : Str) → ∀ z ∈ ss, g z ≤ stepP ps 0 (.str z)
  lost : wd = ("lost" : Str) → ∀ z ∈ dom, V.non ∉ f z
  goal : wd = ("posts" : Str) → ∀ z ∈ dom, V.str e ∈ f z → ps.length ≤ g z
  beh : ∀ z ∈ dom, ∀ y ∈ behind dots f z, y ∈ dom
  fall : wd = ("home" : Str) ∨ wd = ("rings" : Str) → ∀ z ∈ dom, ∀ y ∈ behind dots f z, g y < g z
  pst : wd = ("posts" : Str) → ∀ z ∈ dom, ∀ y ∈ behind dots f z, g y ≤ stepP ps (g z) (.str y)
theorem stepP_up {ps : List Str} {k : Nat} {v : V} : k ≤ stepP ps k v ∧ stepP ps k v ≤ k + 1 := by
  unfold stepP
  cases ps[k]? with
  | none => exact ⟨Nat.le_refl _, by show k ≤ k + 1; omega⟩
  | some z =>
    show k ≤ (if v = V.str z then k + 1 else k) ∧ (if v = V.str z then k + 1 else k) ≤ k + 1
    split <;> omega
theorem stepP_mono {ps : List Str} {k j : Nat} {v : V} (h : k ≤ j) : stepP ps k v ≤ stepP ps j v := by
  by_cases e : k = j
  · rw [e]; exact Nat.le_refl _
  · have h1 := (stepP_up (ps := ps) (k := k) (v := v)).2
    have h2 := (stepP_up (ps := ps) (k := j) (v := v)).1
    omega
/-- what a walk keeps -/
theorem track_keep {tb : List (Str × V)} (I : List Str → V → Prop) (step : ∀ zs z u, I zs (.str z) → valV (tkv tb) (Sum.inr z) = some u → I (zs ++ [z]) u) : ∀ (k : Nat) (zs : List Str) (v : V), I zs v → ∃ ys u, track tb k zs v = ys.map V.str ++ [u] ∧ I ys u := by
  intro k
  induction k with
  | zero => exact fun zs v h => ⟨zs, v, rfl, h⟩
  | succ k ih =>
    intro zs v h
    show ∃ ys u, (match v with
      | .str z => match valV (tkv tb) (Sum.inr z) with
        | some u => if z ∈ zs then zs.map V.str ++ [v] else track tb k (zs ++ [z]) u
        | none => zs.map V.str ++ [v]
      | _ => zs.map V.str ++ [v]) = ys.map V.str ++ [u] ∧ I ys u
    split
    · rename_i z
      cases q : valV (tkv tb) (Sum.inr z) with
      | none => exact ⟨zs, .str z, rfl, h⟩
      | some u =>
        show ∃ ys u', (if z ∈ zs then zs.map V.str ++ [V.str z] else track tb k (zs ++ [z]) u) = _ ∧ _
        by_cases m : z ∈ zs
        · rw [if_pos m]; exact ⟨zs, .str z, rfl, h⟩
        · rw [if_neg m]; exact ih _ _ (step zs z u h q)
    · exact ⟨zs, v, rfl, h⟩
section
variable {ends dots ss ps : List Str} {o n : Str → List (Str × V)} {wd e z : Str} {zs ys on dom : List Str} {g : Str → Nat}
/-- the way that a node has at a moment is one of its ways in the round -/
theorem now_way (tn : dots.Nodup) (hz : ∀ y ∈ on, y ∈ zs ∨ y ∈ ys) (hd : ∀ y ∈ zs, y ∈ on) {u : V} {y : Str} (h : valV (tkv (nowTab dots (o e) (n e) on)) (Sum.inr y) = some u) : y ∈ dots ∧ u ∈ spotsOf (o e) (n e) zs ys y := by
  have yd : y ∈ dots := Decidable.byContradiction fun c => by
    rw [tkv_none (by rw [nowTab_keys]; exact c)] at h
    cases h
  refine ⟨yd, ?_⟩
  have h' := nowTab_get (o := o e) (n := n e) (on := on) tn yd
  rw [h'] at h
  rw [← Option.some.inj h]
  by_cases m : y ∈ on
  · rw [if_pos m]
    exact mem_spots.mpr (.inr ⟨hz y m, rfl⟩)
  · rw [if_neg m]
    exact mem_spots.mpr (.inl ⟨fun c => m (hd y c), rfl⟩)
theorem pap_sound (h : Pap wd e (startsOf wd dots ss) ss ps dots (spotsOf (o e) (n e) zs ys) dom g) (w4 : wd = ("home" : Str) ∨ wd = ("lost" : Str) ∨ wd = ("posts" : Str) ∨ wd = ("rings" : Str)) (tn : dots.Nodup) (ed : e ∉ dots) (sub : ∀ y ∈ dom, y ∈ dots)
    (pl : ∀ y ∈ dots, ∀ u ∈ spotsOf (o e) (n e) zs ys y, u = .non ∨ u = .str e ∨ ∃ x ∈ dots, u = .str x)
    (hz : ∀ y ∈ on, y ∈ zs ∨ y ∈ ys) (hd : ∀ y ∈ zs, y ∈ on) (zm : z ∈ startsOf wd dots ss) : brk dots ps o n wd on e z = false := by
  have zd := h.st z zm
  have zdots := sub z zd
  unfold brk walkOf
  rcases w4 with w4 | w4 | w4 | w4
  · obtain ⟨xs, u, e1, h1, h2⟩ := track_keep (tb := nowTab dots (o e) (n e) on) (fun l v => (∀ x ∈ l, x ∈ dom) ∧ ∀ y, v = .str y → y ∈ dots → y ∈ dom ∧ ∀ x ∈ l, g y < g x) (fun l y u hi q => by
      obtain ⟨yd, um⟩ := now_way tn hz hd q
      obtain ⟨i1, i2⟩ := hi
      obtain ⟨y1, y2⟩ := i2 y rfl yd
      refine ⟨fun x hx => ?_, fun y' ey yd' => ?_⟩
      · rcases List.mem_append.mp hx with hx | hx
        · exact i1 x hx
        · rw [List.mem_singleton.mp hx]; exact y1
      · subst ey
        have bm := mem_behind.mpr ⟨um, yd'⟩
        have fl := h.fall (.inl w4) y y1 y' bm
        refine ⟨h.beh y y1 y' bm, fun x hx => ?_⟩
        rcases List.mem_append.mp hx with hx | hx
        · exact Nat.lt_trans fl (y2 x hx)
        · rw [List.mem_singleton.mp hx]; exact fl) (dots.length + 1) [] (.str z) ⟨(fun x hx => nomatch hx), fun y ey _ => by cases ey; exact ⟨zd, (fun x hx => nomatch hx)⟩⟩
    rw [e1]
    unfold breaksB
    rw [if_neg (by rw [w4]; decide), if_neg (by rw [w4]; decide), lastV_snoc, List.dropLast_concat]
    refine decide_eq_false fun c => ?_
    obtain ⟨y, hy, ey⟩ := List.mem_map.mp c
    have := (h2 y ey.symm (sub y (h1 y hy))).2 y hy
    omega
  · obtain ⟨xs, u, e1, h1⟩ := track_keep (tb := nowTab dots (o e) (n e) on) (fun _ v => v = .str e ∨ ∃ y ∈ dom, v = .str y) (fun l y u hi q => by
      obtain ⟨yd, um⟩ := now_way tn hz hd q
      have y1 : y ∈ dom := by
        rcases hi with hi | ⟨y', h1, h2⟩
        · cases hi; exact absurd yd ed
        · cases h2; exact h1
      rcases pl y yd u um with rfl | rfl | ⟨x, hx, rfl⟩
      · exact absurd um (h.lost w4 y y1)
      · exact .inl rfl
      · exact .inr ⟨x, h.beh y y1 x (mem_behind.mpr ⟨um, hx⟩), rfl⟩) (dots.length + 1) [] (.str z) (.inr ⟨z, zd, rfl⟩)
    rw [e1]
    unfold breaksB
    rw [if_pos w4, lastV_snoc]
    refine decide_eq_false fun c => ?_
    subst c
    rcases h1 with h1 | ⟨y, _, h1⟩ <;> cases h1
  · have zs' : z ∈ ss := by
      unfold startsOf at zm
      rw [if_neg (by rw [w4]; decide)] at zm
      exact zm
    obtain ⟨xs, u, e1, h1, h2⟩ := track_keep (tb := nowTab dots (o e) (n e) on) (fun l v => (∀ y, v = .str y → y ∈ dots → y ∈ dom ∧ g y ≤ stepP ps (passedBy ps (l.map V.str)) (.str y)) ∧ (v = .str e → ps.length ≤ passedBy ps (l.map V.str))) (fun l y u hi q => by
      obtain ⟨yd, um⟩ := now_way tn hz hd q
      obtain ⟨y1, y2⟩ := hi.1 y rfl yd
      have ep : passedBy ps ((l ++ [y]).map V.str) = stepP ps (passedBy ps (l.map V.str)) (.str y) := by
        unfold passedBy
        rw [List.map_append, List.foldl_append]
        rfl
      rw [ep]
      refine ⟨fun y' ey yd' => ?_, fun ue => ?_⟩
      · subst ey
        have bm := mem_behind.mpr ⟨um, yd'⟩
        exact ⟨h.beh y y1 y' bm, Nat.le_trans (h.pst w4 y y1 y' bm) (stepP_mono y2)⟩
      · subst ue
        exact Nat.le_trans (h.goal w4 y y1 um) y2) (dots.length + 1) [] (.str z) ⟨fun y ey _ => by cases ey; exact ⟨zd, h.p0 w4 z zs'⟩, fun c => by cases c; exact absurd zdots ed⟩
    rw [e1]
    unfold breaksB
    rw [if_neg (by rw [w4]; decide), if_pos w4, lastV_snoc]
    by_cases c : u = .str e
    · have ep : passedBy ps (xs.map V.str ++ [u]) = stepP ps (passedBy ps (xs.map V.str)) u := by
        unfold passedBy
        rw [List.foldl_append]
        rfl
      have := h2 c
      have := (stepP_up (ps := ps) (k := passedBy ps (xs.map V.str)) (v := u)).1
      rw [ep, decide_eq_false (show ¬ stepP ps (passedBy ps (xs.map V.str)) u < ps.length by omega), Bool.and_false]
    · rw [decide_eq_false c, Bool.false_and]
  · obtain ⟨xs, u, e1, h1, h2⟩ := track_keep (tb := nowTab dots (o e) (n e) on) (fun l v => (∀ x ∈ l, x ∈ dom) ∧ ∀ y, v = .str y → y ∈ dots → y ∈ dom ∧ ∀ x ∈ l, g y < g x) (fun l y u hi q => by
      obtain ⟨yd, um⟩ := now_way tn hz hd q
      obtain ⟨i1, i2⟩ := hi
      obtain ⟨y1, y2⟩ := i2 y rfl yd
      refine ⟨fun x hx => ?_, fun y' ey yd' => ?_⟩
      · rcases List.mem_append.mp hx with hx | hx
        · exact i1 x hx
        · rw [List.mem_singleton.mp hx]; exact y1
      · subst ey
        have bm := mem_behind.mpr ⟨um, yd'⟩
        have fl := h.fall (.inr w4) y y1 y' bm
        refine ⟨h.beh y y1 y' bm, fun x hx => ?_⟩
        rcases List.mem_append.mp hx with hx | hx
        · exact Nat.lt_trans fl (y2 x hx)
        · rw [List.mem_singleton.mp hx]; exact fl) (dots.length + 1) [] (.str z) ⟨(fun x hx => nomatch hx), fun y ey _ => by cases ey; exact ⟨zd, (fun x hx => nomatch hx)⟩⟩
    rw [e1]
    unfold breaksB
    rw [if_neg (by rw [w4]; decide), if_neg (by rw [w4]; decide), lastV_snoc, List.dropLast_concat]
    refine decide_eq_false fun c => ?_
    obtain ⟨y, hy, ey⟩ := List.mem_map.mp c
    have := (h2 y ey.symm (sub y (h1 y hy))).2 y hy
    omega
end
end Rw
end T_PQ

section T_G2
set_option Elab.async false
set_option linter.all false
set_option maxRecDepth 100000
set_option maxHeartbeats 2000000
namespace Rw
open PySem PySem.Spec L2 PyProof.Rows
/-! ### data with dicts -/
def kD : Key → PyData
  | .inl i => .int i
  | .inr x => .str x
mutual
inductive Dq (K : PySem.W.Frag) (H : Hp) : V → PyData → Prop
  | non : Dq K H .non .none
  | bl (b : Bool) : Dq K H (.bl b) (.bool b)
  | int (i : Int) : Dq K H (.int i) (.int i)
  | str (x : Str) : Dq K H (.str x) (.str x)
  | lst {a : Addr} {xs : List V} {ds : List PyData} : SqL K H a xs → DqAll K H xs ds → Dq K H (.ref a) (.list ds)
  | tup {a : Addr} {xs : List V} {ds : List PyData} : SqT K H a xs → DqAll K H xs ds → Dq K H (.ref a) (.tuple ds)
  | dic {a : Addr} {kvs : List (Key × V)} {ds : List (PyData × PyData)} : Rd H a (.dK kvs) → DqKv K H kvs ds → Dq K H (.ref a) (.dict ds)
inductive DqAll (K : PySem.W.Frag) (H : Hp) : List V → List PyData → Prop
  | nil : DqAll K H [] []
  | cons {v : V} {vs : List V} {d : PyData} {ds : List PyData} : Dq K H v d → DqAll K H vs ds → DqAll K H (v :: vs) (d :: ds)
inductive DqKv (K : PySem.W.Frag) (H : Hp) : List (Key × V) → List (PyData × PyData) → Prop
  | nil : DqKv K H [] []
  | cons {k : Key} {v : V} {kvs : List (Key × V)} {d : PyData} {ds : List (PyData × PyData)} : Dq K H v d → DqKv K H kvs ds → DqKv K H ((k, v) :: kvs) ((kD k, d) :: ds)
end
section
variable {X : Cx} {pins : List (Addr × Obj)} {σ : L2.St} {H : Hp} {s : Shared}
/-- sys.modules is a dict -/
def SysDict (h : Heap) : Prop := ∃ o es ep, h.get? sysModules = some o ∧ o.data = .dict es ep
theorem SysDict.ne {h : Heap} {a : Addr} {o : Obj} {its : Array Value} {n : Nat} (hs : SysDict h) (ha : h.get? a = some o) (hd : o.data = .seq its n) : a ≠ sysModules := fun e => by
  obtain ⟨u, es, ep, hu, hq⟩ := hs
  subst e
  rw [ha] at hu
  cases hu
  rw [hd] at hq
  cases hq
mutual
theorem Dq.reads (I : Inv X pins σ H s) (hs : SysDict s.heap) : ∀ (d : PyData) (v : V) (u : Value), Dq X.K H v d → RelV v u → ∃ as, Reads s.heap u d as ∧ sysModules ∉ as
  | .none, _, _, h, r => by
    cases h
    cases r
    exact ⟨_, Reads.none, by simp⟩
  | .bool b, _, _, h, r => by
    cases h
    cases r
    exact ⟨_, Reads.bool b, by simp⟩
  | .int i, _, _, h, r => by
    cases h
    obtain ⟨t, rfl⟩ := r
    exact ⟨_, Reads.int i t, by simp⟩
  | .str x, _, _, h, r => by
    cases h
    obtain ⟨t, rfl⟩ := r
    exact ⟨_, Reads.str x t, by simp⟩
  | .list ds, _, _, h, r => by
    cases h with
    | lst hq ha =>
      cases r
      obtain ⟨its, rv, ⟨o, n, ho, hc, _, hd⟩, _⟩ := I.list hq
      obtain ⟨as, hr, no⟩ := Dq.readsAll I hs ds _ its ha rv
      refine ⟨_, Reads.list ho hc hd hr, fun m => ?_⟩
      rcases List.mem_cons.mp m with e | m
      · exact hs.ne ho hd e.symm
      · exact no m
  | .tuple ds, _, _, h, r => by
    cases h with
    | tup hq ha =>
      cases r
      obtain ⟨its, rv, ⟨o, ho, hc, n, hd⟩, _⟩ := I.tuple hq
      obtain ⟨as, hr, no⟩ := Dq.readsAll I hs ds _ its ha rv
      exact ⟨_, Reads.tuple ho hc hd hr, no⟩
  | .dict ds, _, _, h, r => by
    cases h with
    | dic hq ha =>
      cases r
      obtain ⟨_, low, vs, pairs, o, es, ep, ho, exact_, hdat, _, prs, _⟩ := dk_rd I.hok hq
      obtain ⟨as, bs, h1, h2, n1, n2⟩ := Dq.readsKv I hs ds _ vs es.toList ha pairs prs
      refine ⟨_, Reads.dict ho exact_.1 hdat h1 h2, fun m => ?_⟩
      rcases List.mem_append.mp m with m | m
      · rcases List.mem_cons.mp m with e | m
        · exact absurd e.symm (by simpa using low)
        · exact n1 m
      · exact n2 m
theorem Dq.readsAll (I : Inv X pins σ H s) (hs : SysDict s.heap) : ∀ (ds : List PyData) (vs : List V) (us : List Value), DqAll X.K H vs ds → Vals vs us → ∃ as, ReadsAll s.heap us ds as ∧ sysModules ∉ as
  | [], _, _, h, r => by
    cases h
    cases r
    exact ⟨_, ReadsAll.nil, by simp⟩
  | d :: ds, _, _, h, r => by
    cases h with
    | cons h1 h2 =>
      cases r with
      | cons r1 r2 =>
        obtain ⟨as, q1, n1⟩ := Dq.reads I hs d _ _ h1 r1
        obtain ⟨bs, q2, n2⟩ := Dq.readsAll I hs ds _ _ h2 r2
        exact ⟨_, ReadsAll.cons q1 q2, fun m => (List.mem_append.mp m).elim n1 n2⟩
theorem Dq.readsKv (I : Inv X pins σ H s) (hs : SysDict s.heap) : ∀ (ds : List (PyData × PyData)) (kvs : List (Key × V)) (vs : List (Key × Value)) (es : List DictEntry), DqKv X.K H kvs ds → KV kvs vs → Pairs (mixKind X.prog X.w) es vs →
    ∃ as bs, ReadsAll s.heap (es.map (·.key)) (ds.map (·.1)) as ∧ ReadsAll s.heap (es.map (·.val)) (ds.map (·.2)) bs ∧ sysModules ∉ as ∧ sysModules ∉ bs
  | [], _, _, _, h, r, p => by
    cases h
    cases r
    cases p
    exact ⟨_, _, ReadsAll.nil, ReadsAll.nil, by simp, by simp⟩
  | (k0, d) :: ds, _, _, _, h, r, p => by
    cases h with
    | @cons k v kvs _ _ h1 h2 =>
      cases r with
      | @cons _ q _ vs r1 r2 =>
        obtain ⟨k1, u⟩ := q
        obtain ⟨ek, rv⟩ := r1
        have ek' : k = k1 := ek
        subst ek'
        cases p with
        | @cons e _ es _ p1 p2 p3 =>
          obtain ⟨as, bs, q1, q2, n1, n2⟩ := Dq.readsKv I hs ds kvs vs es h2 r2 p3
          obtain ⟨cs, q3, n3⟩ := Dq.reads I hs d v u h1 rv
          have key : Reads s.heap e.key (kD k) [] := by
            rcases keyIs_shape (show keyIs k e.key = true from p1) with ⟨i, t, rfl, ev⟩ | ⟨x, t, rfl, ev⟩
            · rw [ev]
              exact Reads.int i t
            · rw [ev]
              exact Reads.str x t
          have val : e.val = u := p2
          refine ⟨[] ++ as, cs ++ bs, ReadsAll.cons key q1, ?_, n1, fun m => (List.mem_append.mp m).elim n3 n2⟩
          show ReadsAll s.heap (e.val :: es.map (·.val)) (d :: ds.map (·.2)) (cs ++ bs)
          rw [val]
          exact ReadsAll.cons q3 q2
end
end
def rReprQ (K : PySem.W.Frag) : List V → Hp → VK → Prop := fun xs H Q => ∃ (a : Addr) (d : PyData), xs = [.ref a] ∧ Dq K H (.ref a) d ∧ d.showable = true ∧ d.depth ≤ 64 ∧ d.shown.length ≤ sizeLine ∧ Q (.str d.shown) H
theorem call_reprQ {X : Cx} (hg : X.A.guards = some []) (hu : X.A.units + 70 < cLine) (sys : SysDict X.base) : CallR X (.builtin "repr") (rReprQ X.K) := by
  intro pins s σ H xs us Q I r h
  obtain ⟨a, d, rfl, hd, h1, h3, h4, q⟩ := h
  obtain ⟨u, rfl, ru⟩ := vals1 r
  obtain ⟨as, rd, no⟩ := Dq.reads I (let ⟨o, es, ep, h1, h2⟩ := sys; ⟨o, es, ep, I.bk _ _ h1, h2⟩) d (.ref a) u hd ru
  cases ru
  refine repr_of_reads' rd h1 (fun _ => no) hg (by omega) (fun _ _ e => e) (fun h' v tk keep => ?_) h4
  exact ⟨.str d.shown, H, Inv.kept I keep, ⟨_, rfl⟩, q⟩
end Rw
end T_G2

section T_Y3
set_option Elab.async false
set_option linter.all false
set_option maxRecDepth 100000
set_option maxHeartbeats 4000000
namespace Rw
open PySem L2 PyProof.Rows
/-! ### mixtures are shown -/
theorem nm_short {z : Str} (h : Nm z) : PyData.leavesShort 13 (.str z) = true := PyData.leavesShort_of_canLay0 13 (.str z) (nm_ok h) rfl
theorem spots_q : ∀ W : List V, (∀ v ∈ W, Spot v) → ∃ ds : List PyData, (∀ (K : PySem.W.Frag) (H : Hp), DqAll K H W ds) ∧ PyData.leavesShortAll 13 ds = true ∧ PyData.depthAll ds = 0 ∧ PyData.weightAll ds ≤ 7 * W.length ∧ PyData.showableAll ds = true
  | [], _ => ⟨[], fun _ _ => .nil, rfl, rfl, Nat.zero_le _, rfl⟩
  | v :: W, h => by
    obtain ⟨ds, g1, g2, g3, g4, g6⟩ := spots_q W fun u hu => h u (List.mem_cons_of_mem _ hu)
    rcases h v List.mem_cons_self with rfl | ⟨z, rfl, hz⟩
    · refine ⟨.none :: ds, fun K H => .cons .non (g1 K H), ?_, ?_, ?_, ?_⟩
      · show (true && PyData.leavesShortAll 13 ds) = true
        rw [g2]
        rfl
      · show max 0 (PyData.depthAll ds) = 0
        rw [g3]
        rfl
      · show 0 + 1 + PyData.weightAll ds ≤ 7 * (W.length + 1)
        omega
      · show (true && PyData.showableAll ds) = true
        rw [g6]
        rfl
    · have zl := nm_len hz
      refine ⟨.str z :: ds, fun K H => .cons (.str z) (g1 K H), ?_, ?_, ?_, ?_⟩
      · show (PyData.leavesShort 13 (.str z) && PyData.leavesShortAll 13 ds) = true
        rw [g2, nm_short hz]
        rfl
      · show max 0 (PyData.depthAll ds) = 0
        rw [g3]
        rfl
      · show z.cps.size + 1 + PyData.weightAll ds ≤ 7 * (W.length + 1)
        have : z.cps.size ≤ 6 := zl
        omega
      · show (true && PyData.showableAll ds) = true
        rw [g6]
        rfl
theorem mix_kvs (f : Str → List V) : ∀ dots : List Str, (∀ z ∈ dots, Nm z ∧ (∀ v ∈ f z, Spot v) ∧ (f z).length ≤ 2) → ∃ kvs : List (PyData × PyData),
    (∀ (K : PySem.W.Frag) (H : Hp) (rs : List (Str × V)), rs.map (·.1) = dots → (∀ q ∈ rs, ∃ l : Addr, q.2 = .ref l ∧ H l = some (.lst (f q.1))) → DqKv K H (tkv rs) kvs) ∧ PyData.leavesShortKv 13 kvs = true ∧ PyData.depthKv kvs ≤ 1 ∧ PyData.weightKv kvs ≤ 30 * dots.length ∧ PyData.showableKv kvs = true
  | [], _ => by
    refine ⟨[], fun K H rs h _ => ?_, rfl, Nat.zero_le _, Nat.zero_le _, rfl⟩
    cases rs with
    | nil => exact .nil
    | cons _ _ => cases h
  | z :: r, h => by
    obtain ⟨kvs, g1, g2, g3, g4, g5⟩ := mix_kvs f r fun y hy => h y (List.mem_cons_of_mem _ hy)
    obtain ⟨hz, hs, hl⟩ := h z List.mem_cons_self
    obtain ⟨ds, k1, k2, k3, k4, k5⟩ := spots_q (f z) hs
    have zl : z.cps.size ≤ 6 := nm_len hz
    refine ⟨(.str z, .list ds) :: kvs, fun K H rs hk hq => ?_, ?_, ?_, ?_, ?_⟩
    · cases rs with
      | nil => cases hk
      | cons q rs =>
        have e1 : q.1 = z := (List.cons.inj hk).1
        have e2 : rs.map (·.1) = r := (List.cons.inj hk).2
        obtain ⟨l, l1, l2⟩ := hq q List.mem_cons_self
        obtain ⟨q1, q2⟩ := q
        cases e1
        cases l1
        exact .cons (k := Sum.inr q1) (.lst (Evl.sq_of l2) (k1 K H)) (g1 K H rs e2 fun t ht => hq t (List.mem_cons_of_mem _ ht))
    · show (PyData.leavesShort 13 (.str z) && PyData.leavesShortAll 13 ds && PyData.leavesShortKv 13 kvs) = true
      rw [nm_short hz, k2, g2]
      rfl
    · show max (max 0 (PyData.depthAll ds + 1)) (PyData.depthKv kvs) ≤ 1
      omega
    · show z.cps.size + PyData.weightAll ds + 2 + PyData.weightKv kvs ≤ 30 * (r.length + 1)
      omega
    · show (true && PyData.showableAll ds && PyData.showableKv kvs) = true
      rw [k5, g5]
      rfl
theorem mix_repr (f : Str → List V) (dots : List Str) (h : ∀ z ∈ dots, Nm z ∧ (∀ v ∈ f z, Spot v) ∧ (f z).length ≤ 2) (few : dots.length ≤ 100) : ∃ d : PyData, (∀ {K : PySem.W.Frag} {H0 H : Hp} {D : Addr}, MixAt H0 H D dots f → Dq K H (.ref D) d) ∧ d.showable = true ∧ d.depth ≤ 64 ∧ d.shown.length ≤ sizeLine := by
  obtain ⟨kvs, g1, g2, g3, g4, g5⟩ := mix_kvs f dots h
  refine ⟨.dict kvs, fun {K H0 H D} M => ?_, g5, ?_, ?_⟩
  · obtain ⟨rs, h1, h2, h3⟩ := M.ex
    refine .dic (.inl h1) (g1 K H rs h2 fun q hq => ?_)
    obtain ⟨l, l1, _, l3⟩ := h3 q hq
    exact ⟨l, l1, l3⟩
  · show PyData.depthKv kvs + 1 ≤ 64
    omega
  · exact PyData.shown_fits (B := 13) (by decide) (by decide) g2 (Nat.le_trans (show PyData.weightKv kvs ≤ 30 * dots.length from g4) (by omega))
theorem spotsOf_ok {dots : List Str} {e z : Str} {o n : List (Str × V)} {zs ys : List Str} (h1 : TabOk dots e o) (h2 : TabOk dots e n) (hz : ∀ y ∈ dots, Nm y) (he : Nm e) (zd : z ∈ dots) : (∀ v ∈ spotsOf o n zs ys z, Spot v) ∧ (spotsOf o n zs ys z).length ≤ 2 := by
  have a := place_spot (look_ok h1 zd).1 hz he
  have b := place_spot (look_ok h2 zd).1 hz he
  unfold spotsOf
  split
  · exact ⟨fun v hv => by rw [List.mem_singleton.mp hv]; exact b, by show 1 ≤ 2; decide⟩
  · split
    · refine ⟨fun v hv => ?_, by show 2 ≤ 2; decide⟩
      rcases List.mem_cons.mp hv with rfl | hv
      · exact a
      · rw [List.mem_singleton.mp hv]; exact b
    · exact ⟨fun v hv => by rw [List.mem_singleton.mp hv]; exact a, by show 1 ≤ 2; decide⟩
end Rw
end T_Y3

section T_K2
set_option Elab.async false
set_option linter.all false
set_option maxRecDepth 100000
set_option maxHeartbeats 4000000
namespace Rw
open PySem L2 PyProof.Rows
/-! ### comprehensions with two for -/
theorem lc2_out {J : It} {n : Nat} {G : Hp → Prop} {Y : Nat → Hp → V → Hp → Prop} (wk : Walk J n G Y) {g g1 : TG} {tt tt1 : TT} {te : TE} {wi1 : TI} {vs vs1 : List Nat} {σ : L2.St} {H1 : Hp} {D : Addr} {Qd : Hp → Prop} (Pv : Nat → Hp → Prop) (start : Pv 0 (upd H1 D (.lst []))) (hG : ∀ i H, i ≤ n → Pv i H → G H)
    (turn : ∀ i x H H', i < n → Pv i H → Y i H x H' → g x (wipe σ vs) H' fun σ2 H2 => wipe σ2 vs = wipe σ vs ∧ tt σ2 H2 fun b H3 => if b = true then wi1 σ2 H3 fun J1 H4 => ∃ W1 : Nat → Nat → Hp → Prop, (∃ m, W1 0 m H4) ∧ ∀ j k H, W1 j k H →
      (J1.stop j H ∧ Pv (i + 1) H) ∨ (J1.go j H ∧ ∃ Nx1 : Hp → Prop, (∀ H', Nx1 H' → ∃ k', k' < k ∧ W1 (j + 1) k' H') ∧ ∀ x H', J1.yld j H x H' → g1 x (wipe σ2 vs1) H' fun σ3 H5 => wipe σ3 vs1 = wipe σ2 vs1 ∧ tt1 σ3 H5 fun b H6 =>
        if b = true then te σ3 H6 fun y H7 => ∃ acc, H7 D = some (.lst acc) ∧ acc.length < sizeLine ∧ Nx1 (upd H7 D (.lst (acc ++ [y]))) else Nx1 H6) else Pv (i + 1) H3) (fin : ∀ H, Pv n H → Qd H) :
    ∃ W : Nat → Nat → Hp → Prop, (∃ m, W 0 m (upd H1 D (.lst []))) ∧ ∀ i m H, W i m H →
      (J.stop i H ∧ Qd H) ∨ (J.go i H ∧ ∃ Nx : Hp → Prop, (∀ H', Nx H' → ∃ m', m' < m ∧ W (i + 1) m' H') ∧ ∀ x H', J.yld i H x H' → g x (wipe σ vs) H' fun σ2 H2 => wipe σ2 vs = wipe σ vs ∧ tt σ2 H2 fun b H3 =>
        if b = true then wi1 σ2 H3 fun J1 H4 => ∃ W1 : Nat → Nat → Hp → Prop, (∃ m, W1 0 m H4) ∧ ∀ j k H, W1 j k H →
          (J1.stop j H ∧ Nx H) ∨ (J1.go j H ∧ ∃ Nx1 : Hp → Prop, (∀ H', Nx1 H' → ∃ k', k' < k ∧ W1 (j + 1) k' H') ∧ ∀ x H', J1.yld j H x H' → g1 x (wipe σ2 vs1) H' fun σ3 H5 => wipe σ3 vs1 = wipe σ2 vs1 ∧ tt1 σ3 H5 fun b H6 =>
            if b = true then te σ3 H6 fun y H7 => ∃ acc, H7 D = some (.lst acc) ∧ acc.length < sizeLine ∧ Nx1 (upd H7 D (.lst (acc ++ [y]))) else Nx1 H6)
        else Nx H3) := by
  refine ⟨fun i m H => m = n - i ∧ i ≤ n ∧ Pv i H, ⟨n, by simp, Nat.zero_le _, start⟩, ?_⟩
  rintro i m H ⟨rfl, hi, p⟩
  by_cases lt : i < n
  · exact .inr ⟨wk.goes i H lt (hG i H hi p), Pv (i + 1), fun H' p' => ⟨n - (i + 1), by omega, rfl, lt, p'⟩, fun x H' y => turn i x H H' lt p (wk.yields i H x H' lt (hG i H hi p) y)⟩
  · have e : i = n := by omega
    subst e
    exact .inl ⟨wk.stops H (hG _ H hi p), fin H p⟩
theorem lc2_in {J : It} {n : Nat} {G : Hp → Prop} {Y : Nat → Hp → V → Hp → Prop} (wk : Walk J n G Y) {g1 : TG} {tt1 : TT} {te : TE} {vs1 : List Nat} {σ : L2.St} {H4 : Hp} {D : Addr} {Nx : Hp → Prop} (Pv : Nat → Hp → Prop) (start : Pv 0 H4) (hG : ∀ i H, i ≤ n → Pv i H → G H)
    (turn : ∀ j x H H', j < n → Pv j H → Y j H x H' → g1 x (wipe σ vs1) H' fun σ3 H5 => wipe σ3 vs1 = wipe σ vs1 ∧ tt1 σ3 H5 fun b H6 =>
      if b = true then te σ3 H6 fun y H7 => ∃ acc, H7 D = some (.lst acc) ∧ acc.length < sizeLine ∧ Pv (j + 1) (upd H7 D (.lst (acc ++ [y]))) else Pv (j + 1) H6) (fin : ∀ H, Pv n H → Nx H) :
    ∃ W1 : Nat → Nat → Hp → Prop, (∃ m, W1 0 m H4) ∧ ∀ j k H, W1 j k H →
      (J.stop j H ∧ Nx H) ∨ (J.go j H ∧ ∃ Nx1 : Hp → Prop, (∀ H', Nx1 H' → ∃ k', k' < k ∧ W1 (j + 1) k' H') ∧ ∀ x H', J.yld j H x H' → g1 x (wipe σ vs1) H' fun σ3 H5 => wipe σ3 vs1 = wipe σ vs1 ∧ tt1 σ3 H5 fun b H6 =>
        if b = true then te σ3 H6 fun y H7 => ∃ acc, H7 D = some (.lst acc) ∧ acc.length < sizeLine ∧ Nx1 (upd H7 D (.lst (acc ++ [y]))) else Nx1 H6) := by
  refine ⟨fun j k H => k = n - j ∧ j ≤ n ∧ Pv j H, ⟨n, by simp, Nat.zero_le _, start⟩, ?_⟩
  rintro j k H ⟨rfl, hj, p⟩
  by_cases lt : j < n
  · exact .inr ⟨wk.goes j H lt (hG j H hj p), Pv (j + 1), fun H' p' => ⟨n - (j + 1), by omega, rfl, lt, p'⟩, fun x H' y => turn j x H H' lt p (wk.yields j H x H' lt (hG j H hj p) y)⟩
  · have e : j = n := by omega
    subst e
    exact .inl ⟨wk.stops H (hG _ H hj p), fin H p⟩
theorem flat_spots : ∀ {l : List V}, (∀ v ∈ l, Spot v) → l.all flatV = true
  | [], _ => rfl
  | v :: l, h => by
    rw [List.all_cons, flat_spots fun u hu => h u (List.mem_cons_of_mem _ hu)]
    rcases h v List.mem_cons_self with rfl | ⟨y, rfl, _⟩ <;> rfl
theorem inV_spots (z : Str) : ∀ {l : List V}, (∀ v ∈ l, Spot v) → inV (.str z) l = decide (V.str z ∈ l)
  | [], _ => rfl
  | v :: l, h => by
    have ih := inV_spots z fun u hu => h u (List.mem_cons_of_mem _ hu)
    show (eqV v (.str z) || inV (.str z) l) = _
    rw [ih]
    rcases h v List.mem_cons_self with rfl | ⟨y, rfl, _⟩
    · show (false || _) = _
      rw [Bool.false_or]
      exact decide_eq_decide.mpr ⟨fun q => List.mem_cons_of_mem _ q, fun q => (List.mem_cons.mp q).resolve_left (fun e => nomatch e)⟩
    · have e : eqV (.str y) (.str z) = decide (y = z) := by
        have := inV_str z [y]
        show eqV (.str y) (.str z) = _
        have t : inV (.str z) ([y].map V.str) = (eqV (.str y) (.str z) || false) := rfl
        rw [this, Bool.or_false] at t
        rw [← t]
        exact decide_eq_decide.mpr ⟨fun q => (List.mem_singleton.mp q).symm, fun q => List.mem_singleton.mpr q.symm⟩
      rw [e, ← Bool.decide_or]
      exact decide_eq_decide.mpr ⟨fun q => q.elim (fun q => by rw [q]; exact List.mem_cons_self) fun q => List.mem_cons_of_mem _ q, fun q => (List.mem_cons.mp q).elim (fun e => .inl (V.str.inj e).symm) .inr⟩
theorem tups_put {H : Hp} {R : Addr} {l l' : List V} {L : List (Addr × List Str)} (h : TupsAt H L) (hR : H R = some (.lst l)) : TupsAt (upd H R (.lst l')) L := fun q hq => by
  rw [upd_ne (ne_of (h q hq) hR (by intro z; cases z))]
  exact h q hq
theorem tups_snoc {H : Hp} {L : List (Addr × List Str)} {t : Addr} {p : List Str} (h : TupsAt H L) (ht : H t = some (.tup (p.map V.str))) : TupsAt H (L ++ [(t, p)]) := fun q hq => by
  rcases List.mem_append.mp hq with hq | hq
  · exact h q hq
  · rw [List.mem_singleton.mp hq]
    exact ht
theorem refs_at {L : List (Addr × List Str)} {i : Nat} {x : V} (h : (L.map fun q => V.ref q.1)[i]? = some x) : ∃ q, L[i]? = some q ∧ x = .ref q.1 := by
  rw [List.getElem?_map] at h
  cases e : L[i]? with
  | none => rw [e] at h; cases h
  | some q => rw [e] at h; exact ⟨q, rfl, (Option.some.inj h).symm⟩
theorem cut_at {α : Type} {L : List α} {i : Nat} {q : α} (h : L[i]? = some q) : L = L.take i ++ q :: L.drop (i + 1) := by
  obtain ⟨hi, e⟩ := List.getElem?_eq_some_iff.mp h
  have z := (List.take_append_drop i L).symm
  rw [List.drop_eq_getElem_cons hi, e] at z
  exact z
/-- what ring gives -/
def RingIs (dots : List Str) (f : Str → List V) (v : V) (H : Hp) : Prop := (v = .non ∧ ∀ p, ¬ IsRing dots f p) ∨ ∃ a p, v = .ref a ∧ H a = some (.tup (p.map V.str)) ∧ Best dots f p
theorem RingIs.to {dots : List Str} {f : Str → List V} {v : V} {H H' : Hp} (h : RingIs dots f v H) (x : Evl.Ex H H') : RingIs dots f v H' := h.elim .inl fun ⟨a, p, e, q, b⟩ => .inr ⟨a, p, e, x _ _ q, b⟩
theorem at_last {x : Str} {r : List Str} : atI ((x :: r).map V.str) (-1) = some (V.str (lastS x r)) := by
  have e : ∀ (r : List Str) (x : Str), ∃ s : List Str, x :: r = s ++ [lastS x r] := fun r => by
    induction r with
    | nil => intro x; exact ⟨[], rfl⟩
    | cons y r ih => intro x; obtain ⟨s, e⟩ := ih y; exact ⟨x :: s, congrArg (x :: ·) e⟩
  obtain ⟨s, e⟩ := e r x
  rw [e, List.map_append]
  exact atI_last _ _
theorem last_in : ∀ (r : List Str) (x : Str), lastS x r ∈ x :: r
  | [], _ => List.mem_cons_self
  | y :: r, _ => List.mem_cons_of_mem _ (last_in r y)
section
variable {P : Program} {w : World} {K : PySem.W.Frag} {mg : Str → Option Value} {base : Heap}
def spRing (C : Addr) : Sp := fun vs H Q _ => ∃ (m a b : Addr) (e : Str) (zs ys ends dots ss ps : List Str) (o n : Str → List (Str × V)), vs = [.ref m, .ref a, .ref b, .str e] ∧ NetAt C H m ends dots ss ps o n ∧ ModelOk ends dots ss ps ∧ e ∈ ends ∧ TabOk dots e (o e) ∧ TabOk dots e (n e) ∧
  LotAt H a zs (moving ends dots o n) ∧ LotAt H b ys (moving ends dots o n) ∧ (∀ y ∈ ys, y ∉ zs) ∧ ∀ v H', Evl.Ex H H' → RingIs dots (spotsOf (o e) (n e) zs ys) v H' → Q v H'
theorem webs_of {ends dots ss ps : List Str} {e : Str} {o n : List (Str × V)} {zs ys : List Str} (ok : ModelOk ends dots ss ps) (he : e ∈ ends) (t1 : TabOk dots e o) (t2 : TabOk dots e n) : Webs dots (spotsOf o n zs ys) :=
  ⟨fun z hz => (spotsOf_ok t1 t2 ok.dm (ok.em e he) hz).1, fun z hz => (spotsOf_ok t1 t2 ok.dm (ok.em e he) hz).2, fun z hz => spotsOf_nd⟩
abbrev nLRing : List Str := ["mixture", "paths", "path", "node", "begun", "place"]
abbrev tLastOf (K : PySem.W.Frag) (i : Nat) : TE := tOp (rIxT K) (tVar i) (tUn (rU fun i => .int (-i)) (tC (.int 1)))
structure MixW (H : Hp) (D : Addr) (dots : List Str) (f : Str → List V) : Prop where
  ex : ∃ rs : List (Str × V), H D = some (.dK (tkv rs)) ∧ rs.map (·.1) = dots ∧ ∀ q ∈ rs, ∃ a : Addr, q.2 = .ref a ∧ H a = some (.lst (f q.1))
theorem MixAt.mw {H0 H : Hp} {D : Addr} {dots : List Str} {f : Str → List V} (M : MixAt H0 H D dots f) : MixW H D dots f := by
  obtain ⟨rs, h1, h2, h3⟩ := M.ex
  exact ⟨rs, h1, h2, fun q hq => let ⟨a, e, _, h⟩ := h3 q hq; ⟨a, e, h⟩⟩
theorem MixW.r {H : Hp} {D : Addr} {dots : List Str} {f : Str → List V} (M : MixW H D dots f) : MixR H D dots f := by
  obtain ⟨rs, h1, h2, h3⟩ := M.ex
  exact ⟨rs, .inl h1, h2, h3⟩
def spLRing : Sp := fun vs H Q _ => ∃ (D : Addr) (dots : List Str) (f : Str → List V), vs = [.ref D] ∧ MixW H D dots f ∧ Webs dots f ∧ dots.length ≤ 6 ∧ dots.Nodup ∧ sortedS dots = true ∧ ∀ v H', Evl.Ex H H' → RingIs dots f v H' → Q v H'
end
end Rw
end T_K2

section T_FI
set_option Elab.async false
set_option linter.all false
set_option maxRecDepth 100000
set_option maxHeartbeats 8000000
namespace Rw
open PySem L2 PyProof.Rows LamX
theorem inV_nonS {l : List V} (h : ∀ v ∈ l, Spot v) : inV .non l = decide (V.non ∈ l) := by
  induction l with
  | nil => rfl
  | cons v l ih =>
    show (eqV v .non || inV .non l) = _
    rw [ih fun u hu => h u (List.mem_cons_of_mem _ hu)]
    rcases h v List.mem_cons_self with rfl | ⟨y, rfl, _⟩
    · exact (decide_eq_true (List.mem_cons_self)).symm
    · show (false || _) = _
      rw [Bool.false_or]
      exact decide_eq_decide.mpr ⟨fun q => List.mem_cons_of_mem _ q, fun q => (List.mem_cons.mp q).resolve_left (fun e => nomatch e)⟩
/-- what a paper must have with one of its nodes -/
def FitsP (wd e : Str) (ps dots : List Str) (f : Str → List V) (dom : List Str) (g : Str → Nat) (z : Str) : Prop :=
  (∀ y ∈ behind dots f z, y ∈ dom) ∧ (wd = ("lost" : Str) → V.non ∉ f z) ∧ (wd = ("posts" : Str) → (V.str e ∈ f z → ps.length ≤ g z) ∧ ∀ y ∈ behind dots f z, g y ≤ stepP ps (g z) (.str y)) ∧ (wd = ("home" : Str) ∨ wd = ("rings" : Str) → ∀ y ∈ behind dots f z, g y < g z)
abbrev wish4 (wd : Str) : Prop := wd = ("home" : Str) ∨ wd = ("lost" : Str) ∨ wd = ("posts" : Str) ∨ wd = ("rings" : Str)
theorem all_map {α : Type} {l : List α} {p : α → Bool} : (l.map p).all id = l.all p := by rw [List.all_map]; rfl
theorem all_dec {l : List Str} {p : Str → Prop} [DecidablePred p] : (l.all fun y => decide (p y)) = true ↔ ∀ y ∈ l, p y := by
  rw [List.all_eq_true]
  exact forall_congr' fun y => forall_congr' fun _ => decide_eq_true_iff
section
variable {P : Program} {w : World} {K : PySem.W.Frag} {mg : Str → Option Value} {base : Heap}
/-! ### posts that are passed with a place, behind any number -/
def spPassedAny : Sp := fun vs H Q _ => ∃ (a : Addr) (ps : List Str) (k : Nat) (v : V), vs = [.ref a, .int (k : Int), v] ∧ SqT K H a (ps.map V.str) ∧ ps.length ≤ 100 ∧ Spot v ∧ Q (.int (stepP ps k v : Int)) H
theorem ok_passed_any {f : Addr} {fd : FuncData} (F : Fun K "passed_with" "passed_with" p_passed_with f fd) (mLen : mg "len" = none) : FnOk P w K mg base CX0 1 f fd ["posts", "passed", "place"] (spPassedAny (K := K)) := by
  refine F.ok sc_passed_with (fun vs H Q E h => ?_) (fun cdv A outer s H vs Q E hr h => ?_)
  · obtain ⟨a, ps, k, v, rfl, _⟩ := h
    rfl
  · obtain ⟨a, ps, k, v, rfl, ha, few, hv, q⟩ := h
    refine ⟨_, pss_one (ps_ret (pe_ifExp (PW.pt (pw_and (pt_cmpR op_lt (pv 1) (pe_callB call_len (by rfl) mLen PySem.boot_len (pa_cons (pv 0) pa_nil)) (nomark _)) (pw_and1 (pt_cmpR op_eq (pe_ix ix_tup (pv 0) (pv 1) (fun _ _ => rfl)) (pv 2) (nomark _))))) (pe_op op_add (pv 1) pe_int) (pv 1))), ?_⟩
    refine ⟨.int k, rfl, .ref a, rfl, .ref a, (ps.map V.str).length, rfl, .inr ⟨_, ha, rfl⟩, (k : Int), ((ps.map V.str).length : Int), rfl, rfl, _, rfl, ?_⟩
    by_cases lt : k < ps.length
    · rw [decide_eq_true (show (k : Int) < ((ps.map V.str).length : Int) by rw [List.length_map]; omega)]
      have gk : ps[k]? = some ps[k] := List.getElem?_eq_getElem lt
      have sc : scal (.str ps[k]) v = true := by rcases hv with rfl | ⟨y, rfl, _⟩ <;> rfl
      refine iteT ⟨.ref a, rfl, .int k, rfl, a, ps.map V.str, (k : Int), .str ps[k], rfl, rfl, ha, atI_nat (by rw [List.getElem?_map, gk]; rfl), v, rfl, sc, _, rfl, ?_⟩
      by_cases e : V.str ps[k] = v
      · rw [decide_eq_true e]
        refine iteT ⟨.int k, rfl, (k : Int), 1, rfl, rfl, ?_⟩
        have q' : stepP ps k v = k + 1 := by unfold stepP; rw [gk]; exact if_pos e.symm
        rw [q'] at q
        exact q
      · rw [decide_eq_false e]
        refine iteF ⟨.int k, rfl, ?_⟩
        have q' : stepP ps k v = k := by unfold stepP; rw [gk]; exact if_neg fun z => e z.symm
        rw [q'] at q
        exact q
    · rw [decide_eq_false (show ¬ (k : Int) < ((ps.map V.str).length : Int) by rw [List.length_map]; omega)]
      refine iteF (iteF ⟨.int k, rfl, ?_⟩)
      have q' : stepP ps k v = k := by unfold stepP; rw [List.getElem?_eq_none (by omega)]
      rw [q'] at q
      exact q
/-! ### fits -/
def spFits (C : Addr) : Sp := fun vs H Q _ => ∃ (m D pa : Addr) (wd e z : Str) (dom : List Str) (g : Str → Nat) (f : Str → List V) (ends dots ss ps : List Str) (o n : Str → List (Str × V)), vs = [.ref m, .ref D, .str wd, .str e, .ref pa, .str z] ∧ NetAt C H m ends dots ss ps o n ∧ ps.length ≤ 100 ∧ MixR H D dots f ∧ Webs dots f ∧ Rd H pa (.dK (tkv (nW dom g))) ∧ z ∈ dots ∧ z ∈ dom ∧ wish4 wd ∧
  ∀ b H', Evl.Ex H H' → (b = true ↔ FitsP wd e ps dots f dom g z) → Q (.bl b) H'
abbrev nFits : List Str := ["net", "mixture", "wish", "goal", "paper", "node", "behind", "place"]
theorem sc_fits : FnScope nFits ["net", "mixture", "wish", "goal", "paper", "node"] (defScope p_fits) := ⟨rfl, rfl, rfl, by decide +kernel, rfl, by decide +kernel, by decide +kernel⟩
theorem ok_fits {f C : Addr} {fd : FuncData} (F : Fun K "fits" "fits" p_fits f fd) (T : NetTxt K C) (C1 : Cal P w K mg base 1 "nodes_behind" ["mixture", "node"] spBehind) (C2 : Cal P w K mg base 1 "passed_with" ["posts", "passed", "place"] (spPassedAny (K := K))) (P1 : Prp P w K mg base C 1 "posts" (spPosts C)) (mAll : mg "all" = none) (mLen : mg "len" = none) :
    FnOk P w K mg base CX0 3 f fd ["net", "mixture", "wish", "goal", "paper", "node"] (spFits C) := by
  obtain ⟨f1, fd1, F1, k1, b1, g1⟩ := C1.ex
  obtain ⟨f2, fd2, F2, k2, b2, g2⟩ := C2.ex
  obtain ⟨p3, g3, fd3, at3, F3, b3⟩ := P1.ex
  refine F.ok sc_fits (fun vs H Q E h => ?_) (fun cdv A outer s H vs Q E hr h => ?_)
  · obtain ⟨m, D, pa, wd, e, z, dom, g, f, ends, dots, ss, ps, o, n, rfl, _⟩ := h
    rfl
  · obtain ⟨m, D, pa, wd, e, z, dom, g, f, ends, dots, ss, ps, o, n, rfl, N, p100, M, W, hpa, zd, zm, w4, k⟩ := h
    have nd := sc_fits.nd
    have hu := hu_of hr
    have hr1 : Room 1 _ := hr.mono (by decide)
    refine ⟨_, pss_cons (ps_set (i := 6) nd rfl (.inl rfl) (pe_call F1 hr1 rfl g1 k1 b1 .nil pass0 (pa_cons (pv 1) (pa_cons (pv 5) pa_nil))))
      (pss_cons (ps_if (pt_not (pt_val (pe_callB (cr_all rfl) (by rfl) mAll (by decide +kernel) (pa_cons
          (pe_lc (own := [("place", 7)]) (g := gName 7) (tt := tYes) (te := tDIn (tVar 7) (tVar 4)) rfl nd (pi_list (pv 6)) (blkOk_by (own := [("place", 7)]) (N := nFits) (sc := defScope p_fits) (by decide +kernel))
            (fun _ _ _ _ _ => pg_name (i := 7) nd rfl (Or.inl rfl)) (fun _ _ _ _ _ => pts_nil) (fun _ _ _ _ _ => pe_cmp (pc_din hu (pv 7) (pv 4)) rfl)) pa_nil)))) (pss_one (ps_ret pe_bl)) pss_nil)
      (pss_cons (ps_if (pt_cmpR op_eq (pv 2) pe_str (nomark _)) (pss_one (ps_ret (pe_cmpR op_notIn_seq pe_non (pe_dget hu (pv 1) (pv 5) (fun _ _ => rfl)) rfl))) pss_nil)
      (pss_cons (ps_if (pt_cmpR op_eq (pv 2) pe_str (nomark _))
        (C8.pss_cut (ps_if (PW.pt (pw_and (pt_cmpR op_in_seq (pv 3) (pe_dget hu (pv 1) (pv 5) (fun _ _ => rfl)) rfl) (pw_and1 (pt_cmpR op_lt (pe_dget hu (pv 4) (pv 5) (fun _ _ => rfl)) (pe_callB call_len (by rfl) mLen PySem.boot_len (pa_cons (pe_prop (pv 0) T.cl at3 F3 hr b3 .nil pass0 rfl) pa_nil)) (nomark _))))) (pss_one (ps_ret pe_bl)) pss_nil)
        (pss_one (ps_ret (pe_callB (cr_all rfl) (by rfl) mAll (by decide +kernel) (pa_cons
          (pe_lc (own := [("place", 7)]) (g := gName 7) (tt := tYes) (te := tOp (rI0 fun i j => .bl (decide (i ≤ j))) (tDGet (tVar 4) (tVar 7)) (tCall (spPassedAny (K := K)) [] E0 (tCons (tProp C (spPosts C) [] E0 (tVar 0)) (tCons (tDGet (tVar 4) (tVar 5)) (tCons (tVar 7) tNil))))) rfl nd (pi_list (pv 6)) (blkOk_by (own := [("place", 7)]) (N := nFits) (sc := defScope p_fits) (by decide +kernel))
            (fun _ _ _ _ _ => pg_name (i := 7) nd rfl (Or.inl rfl)) (fun _ _ _ _ _ => pts_nil) (fun _ _ _ _ _ => pe_cmpR op_le (pe_dget hu (pv 4) (pv 7) (fun _ _ => rfl)) (pe_call F2 hr1 rfl g2 k2 b2 .nil pass0 (pa_cons (pe_prop (pv 0) T.cl at3 F3 hr b3 .nil pass0 rfl) (pa_cons (pe_dget hu (pv 4) (pv 5) (fun _ _ => rfl)) (pa_cons (pv 7) pa_nil)))) (nomark _))) pa_nil))))) pss_nil)
      (pss_one (ps_ret (pe_callB (cr_all rfl) (by rfl) mAll (by decide +kernel) (pa_cons
          (pe_lc (own := [("place", 7)]) (g := gName 7) (tt := tYes) (te := tOp (rI0 fun i j => .bl (decide (i < j))) (tDGet (tVar 4) (tVar 7)) (tDGet (tVar 4) (tVar 5))) rfl nd (pi_list (pv 6)) (blkOk_by (own := [("place", 7)]) (N := nFits) (sc := defScope p_fits) (by decide +kernel))
            (fun _ _ _ _ _ => pg_name (i := 7) nd rfl (Or.inl rfl)) (fun _ _ _ _ _ => pts_nil) (fun _ _ _ _ _ => pe_cmpR op_lt (pe_dget hu (pv 4) (pv 7) (fun _ _ => rfl)) (pe_dget hu (pv 4) (pv 5) (fun _ _ => rfl)) (nomark _))) pa_nil))))))), ?_⟩
    refine ⟨.ref D, rfl, .str z, rfl, D, z, dots, f, rfl, M, zd, W, fun bb H1 x1 hbb hb1 => ?_⟩
    obtain ⟨B, hB⟩ : ∃ B, B = behind dots f z := ⟨_, rfl⟩
    have two : B.length ≤ 2 := by rw [hB]; exact Nat.le_trans (List.length_filterMap_le _ _) (W.two z zd)
    rw [← hB] at hb1
    have bnm : ∀ y ∈ B, Nm y := fun y hy => by
      rw [hB] at hy
      rcases W.sp z zd _ (mem_behind.mp hy).1 with c | ⟨y', c, h⟩
      · cases c
      · cases c; exact h
    -- all([place in paper for place in behind])
    refine ⟨.ref bb, rfl, bb, rfl, ⟨_, Evl.sq_of hb1⟩, fun R hR => lc_list (K := K) (a := bb) (xs := B.map V.str)
      (fun i H' => Evl.Ex H1 H' ∧ H' R = some (.lst ((B.take i).map fun y => V.bl (decide (y ∈ dom))))) ⟨Evl.Ex.new hR, upd_same⟩ (fun i H' _ h => Evl.sq_of (h.1 _ _ hb1)) ?_ ?_⟩
    · rintro i v H2 hi ⟨x2, r2⟩
      obtain ⟨y, hy, rfl⟩ := str_at hi
      have et : B.take (i + 1) = B.take i ++ [y] := by rw [List.take_add_one, hy]; rfl
      refine ⟨rfl, yes_if ⟨.str y, rfl, .ref pa, rfl, pa, _, rfl, .inl ⟨_, Sum.inr y, rd_ex (x1.trans x2) hpa, rfl, rfl⟩, ?_⟩⟩
      rw [nW_has]
      refine ⟨_, r2, by rw [List.length_map, List.length_take]; exact small1000 (by omega), x2.mut hR, ?_⟩
      rw [upd_same, et, List.map_append]
      rfl
    rintro H2 ⟨x2, r2⟩
    rw [List.length_map, List.take_length] at r2
    refine ⟨R, B.map fun y => decide (y ∈ dom), rfl, Evl.sq_of (by rw [r2, List.map_map]; rfl), ?_⟩
    rw [all_map]
    have x12 := x1.trans x2
    obtain ⟨l, gl, hl⟩ := (M.to x12).get zd
    have spo := W.sp z zd
    cases hin : B.all fun y => decide (y ∈ dom) with
    | false =>
      refine ⟨false, rfl, iteT (k false H2 x12 ⟨(fun c => nomatch c), fun c => ?_⟩)⟩
      rw [all_dec.mpr (by rw [hB]; exact c.1)] at hin
      cases hin
    | true =>
    have hin' : ∀ y ∈ B, y ∈ dom := all_dec.mp hin
    refine ⟨true, rfl, iteF ?_⟩
    refine ⟨.str wd, rfl, rfl, _, rfl, ite2 (fun q => ?_) (fun q => ?_)⟩
    · have ew : wd = ("lost" : Str) := by simpa using of_decide_eq_true q
      refine ⟨.ref D, rfl, .str z, rfl, D, _, rfl, gl, l, _, rfl, .inl (Evl.sq_of hl), rfl, flat_spots spo, ?_⟩
      rw [if_pos (by decide), inV_nonS spo]
      refine k _ H2 x12 ⟨fun c => ⟨by rw [← hB]; exact hin', fun _ => ?_, fun c2 => ?_, fun c2 => ?_⟩, fun c => ?_⟩
      · have := c
        rw [Bool.not_eq_true', decide_eq_false_iff_not] at this
        exact this
      · rw [ew] at c2; exact absurd c2 (by decide)
      · rw [ew] at c2; exact absurd c2 (by decide)
      · rw [Bool.not_eq_true', decide_eq_false_iff_not]
        exact c.2.1 ew
    · have ew : ¬ wd = ("lost" : Str) := fun z => by subst z; exact absurd q (by decide)
      refine ⟨.str wd, rfl, rfl, _, rfl, ite2 (fun q2 => ?_) (fun q2 => ?_)⟩
      · have ew2 : wd = ("posts" : Str) := by simpa using of_decide_eq_true q2
        have gz : ∀ {Hx : Hp}, Evl.Ex H Hx → ∀ {y : Str}, y ∈ dom → DGet Hx pa (.str y) (some (.int (g y : Int))) := fun x y hy => .inl ⟨_, Sum.inr y, rd_ex x hpa, rfl, (nW_get hy).symm⟩
        obtain ⟨dx, T', N', S, Po, rows, h1, _⟩ := (N.to x12).ex
        refine ⟨fun σ' H' => σ' = [some (.ref m), some (.ref D), some (.str wd), some (.str e), some (.ref pa), some (.str z), some (.ref bb), none] ∧ Evl.Ex H1 H' ∧ (V.str e ∈ f z → ps.length ≤ g z), ?_, ?_⟩
        · refine ⟨.str e, rfl, .ref D, rfl, .str z, rfl, D, _, rfl, gl, l, _, rfl, .inl (Evl.sq_of hl), rfl, flat_spots spo, _, rfl, ?_⟩
          rw [if_neg (by decide), inV_spots e spo]
          by_cases ce : V.str e ∈ f z
          · rw [decide_eq_true ce]
            refine iteT ⟨.ref pa, rfl, .str z, rfl, pa, _, rfl, gz x12 zm, .ref m, rfl, m, dx, _, rfl, h1, m, ends, dots, ss, ps, o, n, rfl, N.to x12, fun p hp => ⟨.ref p, ps.length, rfl, .inr ⟨_, Evl.st_of hp, by rw [List.length_map]⟩, _, _, rfl, rfl, _, rfl, ?_⟩⟩
            by_cases lt : g z < ps.length
            · rw [decide_eq_true (show (g z : Int) < (ps.length : Int) by omega)]
              refine iteT (k false H2 x12 ⟨(fun c => nomatch c), fun c => ?_⟩)
              have := (c.2.2.1 ew2).1 ce
              omega
            · rw [decide_eq_false (show ¬ (g z : Int) < (ps.length : Int) by omega)]
              exact iteF ⟨rfl, x2, fun _ => by omega⟩
          · rw [decide_eq_false ce]
            exact iteF (iteF ⟨rfl, x2, fun c => absurd c ce⟩)
        rintro σ H3 ⟨rfl, x3, hge⟩
        have x13 := x1.trans x3
        have hb3 := x3 _ _ hb1
        refine ⟨.ref bb, rfl, bb, rfl, ⟨_, Evl.sq_of hb3⟩, fun R2 hR2 => lc_list (K := K) (a := bb) (xs := B.map V.str)
          (fun i H' => Evl.Ex H3 H' ∧ H' R2 = some (.lst ((B.take i).map fun y => V.bl (decide (g y ≤ stepP ps (g z) (.str y)))))) ⟨Evl.Ex.new hR2, upd_same⟩ (fun i H' _ h => Evl.sq_of (h.1 _ _ hb3)) ?_ ?_⟩
        · rintro i v H4 hi ⟨x4, r4⟩
          obtain ⟨y, hy, rfl⟩ := str_at hi
          have et : B.take (i + 1) = B.take i ++ [y] := by rw [List.take_add_one, hy]; rfl
          have yB := List.mem_of_getElem? hy
          have x14 := x13.trans x4
          obtain ⟨dx4, T4, N4', S4, Po4, rows4, h4, _⟩ := (N.to x14).ex
          refine ⟨rfl, yes_if ⟨.ref pa, rfl, .str y, rfl, pa, _, rfl, gz x14 (hin' y yB), .ref m, rfl, m, dx4, _, rfl, h4, m, ends, dots, ss, ps, o, n, rfl, N.to x14, fun p hp => ⟨.ref pa, rfl, .str z, rfl, pa, _, rfl, gz x14 zm, .str y, rfl, p, ps, g z, .str y, rfl, Evl.st_of hp, p100, .inr ⟨y, rfl, bnm y yB⟩, _, _, rfl, rfl, ?_⟩⟩⟩
          refine ⟨_, r4, by rw [List.length_map, List.length_take]; exact small1000 (by omega), x4.mut hR2, ?_⟩
          rw [upd_same, et, List.map_append]
          refine congrArg (fun q => some (HO.lst (_ ++ [q]))) (congrArg V.bl ?_)
          exact decide_eq_decide.mpr ⟨fun c => by omega, fun c => by omega⟩
        · rintro H4 ⟨x4, r4⟩
          rw [List.length_map, List.take_length] at r4
          refine ⟨R2, B.map fun y => decide (g y ≤ stepP ps (g z) (.str y)), rfl, Evl.sq_of (by rw [r4, List.map_map]; rfl), ?_⟩
          rw [all_map]
          refine k _ H4 (x13.trans x4) ⟨fun c => ⟨by rw [← hB]; exact hin', fun c2 => absurd c2 ew, fun _ => ⟨hge, by rw [← hB]; exact all_dec.mp c⟩, fun c2 => ?_⟩, fun c => all_dec.mpr (by rw [hB]; exact (c.2.2.1 ew2).2)⟩
          rw [ew2] at c2
          exact absurd c2 (by decide)
      · have ew2 : ¬ wd = ("posts" : Str) := fun z => by subst z; exact absurd q2 (by decide)
        have whr : wd = ("home" : Str) ∨ wd = ("rings" : Str) := by
          rcases w4 with c | c | c | c
          · exact .inl c
          · exact absurd c ew
          · exact absurd c ew2
          · exact .inr c
        have gz : ∀ {Hx : Hp}, Evl.Ex H Hx → ∀ {y : Str}, y ∈ dom → DGet Hx pa (.str y) (some (.int (g y : Int))) := fun x y hy => .inl ⟨_, Sum.inr y, rd_ex x hpa, rfl, (nW_get hy).symm⟩
        have hb3 := x2 _ _ hb1
        refine ⟨.ref bb, rfl, bb, rfl, ⟨_, Evl.sq_of hb3⟩, fun R2 hR2 => lc_list (K := K) (a := bb) (xs := B.map V.str)
          (fun i H' => Evl.Ex H2 H' ∧ H' R2 = some (.lst ((B.take i).map fun y => V.bl (decide (g y < g z))))) ⟨Evl.Ex.new hR2, upd_same⟩ (fun i H' _ h => Evl.sq_of (h.1 _ _ hb3)) ?_ ?_⟩
        · rintro i v H4 hi ⟨x4, r4⟩
          obtain ⟨y, hy, rfl⟩ := str_at hi
          have et : B.take (i + 1) = B.take i ++ [y] := by rw [List.take_add_one, hy]; rfl
          have yB := List.mem_of_getElem? hy
          have x14 := x12.trans x4
          refine ⟨rfl, yes_if ⟨.ref pa, rfl, .str y, rfl, pa, _, rfl, gz x14 (hin' y yB), .ref pa, rfl, .str z, rfl, pa, _, rfl, gz x14 zm, _, _, rfl, rfl, ?_⟩⟩
          refine ⟨_, r4, by rw [List.length_map, List.length_take]; exact small1000 (by omega), x4.mut hR2, ?_⟩
          rw [upd_same, et, List.map_append]
          refine congrArg (fun q => some (HO.lst (_ ++ [q]))) (congrArg V.bl ?_)
          exact decide_eq_decide.mpr ⟨fun c => by omega, fun c => by omega⟩
        · rintro H4 ⟨x4, r4⟩
          rw [List.length_map, List.take_length] at r4
          refine ⟨R2, B.map fun y => decide (g y < g z), rfl, Evl.sq_of (by rw [r4, List.map_map]; rfl), ?_⟩
          rw [all_map]
          exact k _ H4 (x12.trans x4) ⟨fun c => ⟨by rw [← hB]; exact hin', fun c2 => absurd c2 ew, fun c2 => absurd c2 ew2, fun _ => by rw [← hB]; exact all_dec.mp c⟩, fun c => all_dec.mpr (by rw [hB]; exact c.2.2.2 whr)⟩
end
end Rw
end T_FI

section T_BG
set_option Elab.async false
set_option linter.all false
set_option maxRecDepth 100000
set_option maxHeartbeats 8000000
namespace Rw
open PySem L2 PyProof.Rows
section
variable {P : Program} {w : World} {K : PySem.W.Frag} {mg : Str → Option Value} {base : Heap}
/-! ### whether posts are passed -/
def spIsPassed : Sp := fun vs H Q _ => ∃ (m r nb tb sb pb : Addr) (row : List V) (ends dots ss ps : List Str) (rows : List (Str × V)) (o n : Str → List (Str × V)), vs = [.ref m, .ref r] ∧ ModelR H m nb tb sb pb ends dots ss ps rows o n ∧ H r = some (.lst row) ∧ (∀ v ∈ row, Spot v) ∧
  ∀ H', Evl.Ex H H' → Q (.bl (!decide (passedBy ps row < ps.length))) H'
abbrev nIsPassed : List Str := ["model", "row", "left", "place"]
theorem sc_is_passed : FnScope nIsPassed ["model", "row"] (defScope s_is_passed) := ⟨rfl, rfl, rfl, by decide +kernel, rfl, by decide +kernel, by decide +kernel⟩
theorem ok_is_passed {f : Addr} {fd : FuncData} (F : Fun K "_law_is_passed" "_law_is_passed" s_is_passed f fd) (mList : mg "list" = none) : FnOk P w K mg base CX0 1 f fd ["model", "row"] spIsPassed := by
  refine F.ok sc_is_passed (fun vs H Q E h => ?_) (fun cdv A outer s H vs Q E hr h => ?_)
  · obtain ⟨m, r, nb, tb, sb, pb, row, ends, dots, ss, ps, rows, o, n, rfl, _⟩ := h
    rfl
  · obtain ⟨m, r, nb, tb, sb, pb, row, ends, dots, ss, ps, rows, o, n, rfl, MS, hrow, hsp, k⟩ := h
    have nd := sc_is_passed.nd
    have hu := hu_of hr
    refine ⟨_, pss_cons (ps_set (i := 2) nd rfl (.inl rfl) (pe_callTy call_list_of (by rfl) mList (by decide +kernel) (pa_cons (pe_dget hu (pv 0) pe_str (fun _ _ => rfl)) pa_nil)))
      (pss_cons (ps_for PassesOwn.never rfl (pi_list (pv 1)) (pg_name (i := 3) nd rfl (.inl rfl))
        (pss_one (ps_if (PW.pt (pw_and (pt_cmpR (op_neD hr.units) (pv 2) (pe_lst pa_nil) (nomark _)) (pw_and1 (pt_cmpR op_eq (pv 3) (pe_ix ix_list (pv 2) pe_int (fun _ _ => rfl)) (nomark _)))))
          (pss_one (ps_expr (pe_bm PySem.F.plainAttrs_list PySem.F.slot_list_pop PySem.F.type_list_pop mt_popAt (pv 2) (pa_cons pe_int pa_nil)))) pss_nil)))
      (pss_one (ps_ret (pe_cmpR (op_eqD hr.units) (pv 2) (pe_lst pa_nil) (nomark _))))), ?_⟩
    have ok := MS.ok
    have p2 := ok.p2
    have pnm : ∀ z ∈ ps, Nm z := fun z hz => ok.dm z (ok.pd z hz)
    refine ⟨.ref m, rfl, m, _, rfl, dgK MS.hm (mkS_marks _ _ _ _), pb, _, rfl, .inl (Evl.sq_of MS.hp), fun l hl => ?_⟩
    have x1 : Evl.Ex H (upd H l (.lst (ps.map V.str))) := Evl.Ex.new hl
    have l1 : (upd H l (.lst (ps.map V.str))) l = some (.lst ((ps.drop 0).map V.str)) := upd_same
    generalize upd H l (.lst (ps.map V.str)) = H1 at x1 l1
    refine ⟨.ref r, rfl, r, rfl, ⟨_, Evl.sq_of (x1 _ _ hrow)⟩, for_list (K := K) (a := r) (xs := row)
      (fun i σ H' => ∃ (kk : Nat) (x3 : Option V), σ = [some (.ref m), some (.ref r), some (.ref l), x3] ∧ kk ≤ ps.length ∧ kk = (row.take i).foldl (stepP ps) 0 ∧ Evl.Ex H H' ∧ H' l = some (.lst ((ps.drop kk).map V.str)))
      ⟨0, none, rfl, Nat.zero_le _, rfl, x1, l1⟩ (fun i σ H' _ ⟨_, _, _, _, _, h, _⟩ => Evl.sq_of (h _ _ hrow)) ?_ ?_⟩
    · rintro i v σ H2 hi ⟨kk, x3, rfl, hk, ek, x2, l2⟩
      have hv := hsp v (List.mem_of_getElem? hi)
      have next : stepP ps kk v = (row.take (i + 1)).foldl (stepP ps) 0 := by
        rw [List.take_add_one, hi, List.foldl_append, ← ek]
        rfl
      refine ⟨.ref l, rfl, Nat.zero_le _, fun p hp => ?_⟩
      have x3' : Evl.Ex H2 (upd H2 p (.lst [])) := Evl.Ex.new hp
      obtain ⟨dd, g1, g2, g3⟩ := data_list (K := K) (Evl.sq_of (x3' _ _ l2)) fun v hv => by
        obtain ⟨z, hz, rfl⟩ := List.mem_map.mp hv
        exact nm_data (pnm z (List.mem_of_mem_drop hz))
      refine ⟨dd, .list [], g1, .lst (Evl.sq_of upd_same) .nil, g2, by rfl, _, rfl, ?_⟩
      rw [g3]
      have l3 := x3' _ _ l2
      have x23 := x2.trans x3'
      generalize upd H2 p (.lst []) = H3 at l3 x23
      by_cases lt : kk < ps.length
      · have ed : ps.drop kk = ps[kk] :: ps.drop (kk + 1) := (List.getElem_cons_drop lt).symm
        have gk : ps[kk]? = some ps[kk] := List.getElem?_eq_getElem lt
        have ne : ((ps.drop kk).map V.str).isEmpty = false := by rw [ed]; rfl
        rw [ne]
        refine iteT ?_
        have sc : scal v (.str ps[kk]) = true := by rcases hv with rfl | ⟨y, rfl, _⟩ <;> rfl
        refine ⟨v, rfl, .ref l, rfl, l, _, 0, .str ps[kk], rfl, rfl, Evl.sq_of l3, atI_nat (j := 0) (by rw [ed]; rfl), sc, _, rfl, ?_⟩
        by_cases e : v = .str ps[kk]
        · rw [decide_eq_true e]
          refine iteT ?_
          refine ⟨.ref l, rfl, .inl ⟨rfl, _, Evl.sq_of l3⟩, l, _, 0, 0, .str ps[kk], rfl, rfl, l3, by decide +kernel, by decide +kernel, ?_, by rw [ed]; rfl, ?_⟩
          · simp [seqIndex?]
            omega
          · have sk : stepP ps kk v = kk + 1 := by unfold stepP; rw [gk]; exact if_pos e
            refine ⟨kk + 1, some v, rfl, lt, by rw [← next, sk], x23.mut hl, ?_⟩
            rw [upd_same, ed]
            rfl
        · rw [decide_eq_false e]
          refine iteF ?_
          have sk : stepP ps kk v = kk := by unfold stepP; rw [gk]; exact if_neg e
          exact ⟨kk, some v, rfl, hk, by rw [← next, sk], x23, l3⟩
      · have ed : ps.drop kk = [] := List.drop_of_length_le (by omega)
        have ne : ((ps.drop kk).map V.str).isEmpty = true := by rw [ed]; rfl
        rw [ne]
        refine iteF (iteF ?_)
        have sk : stepP ps kk v = kk := by unfold stepP; rw [List.getElem?_eq_none (by omega)]
        exact ⟨kk, some v, rfl, hk, by rw [← next, sk], x23, l3⟩
    · rintro σ H2 ⟨kk, x3, rfl, hk, ek, x2, l2⟩
      rw [List.take_length] at ek
      refine ⟨.ref l, rfl, Nat.zero_le _, fun p hp => ?_⟩
      have x3' : Evl.Ex H2 (upd H2 p (.lst [])) := Evl.Ex.new hp
      obtain ⟨dd, g1, g2, g3⟩ := data_list (K := K) (Evl.sq_of (x3' _ _ l2)) fun v hv => by
        obtain ⟨z, hz, rfl⟩ := List.mem_map.mp hv
        exact nm_data (pnm z (List.mem_of_mem_drop hz))
      refine ⟨dd, .list [], g1, .lst (Evl.sq_of upd_same) .nil, g2, by rfl, ?_⟩
      rw [g3]
      have e1 : ((ps.drop kk).map V.str).isEmpty = !decide (passedBy ps row < ps.length) := by
        have e2 : passedBy ps row = kk := ek.symm
        rw [e2]
        by_cases lt : kk < ps.length
        · rw [decide_eq_true lt, (List.getElem_cons_drop lt).symm]
          rfl
        · rw [decide_eq_false lt, List.drop_of_length_le (by omega)]
          rfl
      rw [e1]
      exact k _ (x2.trans x3')
/-! ### whether a row of places breaks a wish -/
def spIsBad : Sp := fun vs H Q _ => ∃ (m r nb tb sb pb : Addr) (wd e : Str) (zs : List Str) (v : V) (ends dots ss ps : List Str) (rows : List (Str × V)) (o n : Str → List (Str × V)), vs = [.ref m, .str e, .ref r, .str wd] ∧ ModelR H m nb tb sb pb ends dots ss ps rows o n ∧ H r = some (.lst (zs.map V.str ++ [v])) ∧ (∀ z ∈ zs, Nm z) ∧ Spot v ∧
  ∀ H', Evl.Ex H H' → Q (.bl (breaksB wd e ps (zs.map V.str ++ [v]))) H'
abbrev nIsBad : List Str := ["model", "target", "row", "word"]
theorem sc_is_bad : FnScope nIsBad ["model", "target", "row", "word"] (defScope s_is_bad) := ⟨rfl, rfl, rfl, by decide +kernel, rfl, by decide +kernel, by decide +kernel⟩
theorem ok_is_bad {f : Addr} {fd : FuncData} (F : Fun K "_law_is_bad" "_law_is_bad" s_is_bad f fd) (C1 : Cal P w K mg base 1 "_law_is_passed" ["model", "row"] spIsPassed) : FnOk P w K mg base CX0 2 f fd ["model", "target", "row", "word"] spIsBad := by
  obtain ⟨f2, fd2, F2, k2, b2, g2⟩ := C1.ex
  refine F.ok sc_is_bad (fun vs H Q E h => ?_) (fun cdv A outer s H vs Q E hr h => ?_)
  · obtain ⟨m, r, nb, tb, sb, pb, wd, e, zs, v, ends, dots, ss, ps, rows, o, n, rfl, _⟩ := h
    rfl
  · obtain ⟨m, r, nb, tb, sb, pb, wd, e, zs, v, ends, dots, ss, ps, rows, o, n, rfl, MS, hrow, hz, hv, k⟩ := h
    refine ⟨_, pss_cons (ps_if (pt_cmpR op_eq (pv 3) pe_str (nomark _)) (pss_one (ps_ret (pe_cmpR op_isN (pe_ix ix_list (pv 2) (pe_un un_neg pe_int) (fun _ _ => rfl)) pe_non (nomark _)))) pss_nil)
      (pss_cons (ps_if (pt_cmpR op_eq (pv 3) pe_str (nomark _)) (pss_one (ps_ret (pe_and (pe_cmpR op_eq (pe_ix ix_list (pv 2) (pe_un un_neg pe_int) (fun _ _ => rfl)) (pv 1) (nomark _))
          (pe_one (pe_not (pe_call F2 hr rfl g2 k2 b2 .nil pass0 (pa_cons (pv 0) (pa_cons (pv 2) pa_nil)))))))) pss_nil)
      (pss_one (ps_ret (pe_cmpR op_in_seq (pe_ix ix_list (pv 2) (pe_un un_neg pe_int) (fun _ _ => rfl)) (pe_slice sl_list (pv 2) po_none (po_some (pe_un un_neg pe_int))) rfl)))), ?_⟩
    have hl := Evl.sq_of (K := K) hrow
    have spots : ∀ u ∈ zs.map V.str ++ [v], Spot u := fun u hu => by
      rcases List.mem_append.mp hu with hu | hu
      · obtain ⟨z, hz', rfl⟩ := List.mem_map.mp hu
        exact .inr ⟨z, rfl, hz z hz'⟩
      · rw [List.mem_singleton.mp hu]
        exact hv
    refine ⟨.str wd, rfl, rfl, _, rfl, ite2 (fun q => ?_) (fun q => ?_)⟩
    · have ew : wd = ("lost" : Str) := by simpa using of_decide_eq_true q
      refine ⟨.ref r, rfl, 1, rfl, r, _, -1, v, rfl, rfl, hl, atI_last _ _, rfl, ?_⟩
      have eb : breaksB wd e ps (zs.map V.str ++ [v]) = decide (v = .non) := by unfold breaksB; rw [if_pos ew, lastV_snoc]
      rw [← eb]
      exact k H (Evl.Ex.refl _)
    · have ew : ¬ wd = ("lost" : Str) := fun z => by subst z; exact absurd q (by decide)
      refine ⟨.str wd, rfl, rfl, _, rfl, ite2 (fun q2 => ?_) (fun q2 => ?_)⟩
      · have ew2 : wd = ("posts" : Str) := by simpa using of_decide_eq_true q2
        have eb : breaksB wd e ps (zs.map V.str ++ [v]) = (decide (v = .str e) && decide (passedBy ps (zs.map V.str ++ [v]) < ps.length)) := by unfold breaksB; rw [if_neg ew, if_pos ew2, lastV_snoc]
        have sc : scal v (.str e) = true := by rcases hv with rfl | ⟨y, rfl, _⟩ <;> rfl
        refine ⟨.ref r, rfl, 1, rfl, r, _, -1, v, rfl, rfl, hl, atI_last _ _, .str e, rfl, sc, decide (v = .str e), rfl, ?_⟩
        by_cases ve : v = .str e
        · rw [decide_eq_true ve]
          refine iteT ?_
          refine ⟨.ref m, rfl, .ref r, rfl, m, r, nb, tb, sb, pb, _, ends, dots, ss, ps, rows, o, n, rfl, MS, hrow, spots, fun H1 x1 => ?_⟩
          rw [decide_eq_true ve, Bool.true_and] at eb
          refine ⟨_, rfl, ?_⟩
          have kk := k H1 x1
          rw [eb] at kk
          rw [Bool.not_not]
          exact kk
        · rw [decide_eq_false ve]
          refine iteF ?_
          rw [decide_eq_false ve, Bool.false_and] at eb
          rw [← eb]
          exact k H (Evl.Ex.refl _)
      · have ew2 : ¬ wd = ("posts" : Str) := fun z => by subst z; exact absurd q2 (by decide)
        have eb : breaksB wd e ps (zs.map V.str ++ [v]) = decide (v ∈ zs.map V.str) := by unfold breaksB; rw [if_neg ew, if_neg ew2, lastV_snoc, List.dropLast_concat]
        refine ⟨.ref r, rfl, 1, rfl, r, _, -1, v, rfl, rfl, hl, atI_last _ _, .ref r, rfl, 1, rfl, _, rfl, r, _, rfl, hl, fun c hc => ?_⟩
        have ecut : cutV (zs.map V.str ++ [v]) none (some (-1)) = zs.map V.str := by
          rw [cut_last]
          exact List.dropLast_concat
        rw [ecut]
        have fl : flatV v = true := by rcases hv with rfl | ⟨y, rfl, _⟩ <;> rfl
        refine ⟨c, zs.map V.str, rfl, .inl (Evl.sq_of upd_same), fl, flat_strs zs, ?_⟩
        rw [inV_spot hv, ← eb]
        exact k _ (Evl.Ex.new hc)
end
end Rw
end T_BG

section T_TD
set_option Elab.async false
set_option linter.all false
set_option maxRecDepth 100000
set_option maxHeartbeats 4000000
/-! ### {k: v for ..}, its keys being tuples -/
namespace L2
open PySem PySem.Spec PyProof.Rows
theorem d_dictSetT {X : Cx} {pins : List (Addr × Obj)} {σ : L2.St} {H : Hp} {s : Shared} {E : Value → Shared → Prop} {D b : Addr} {kvs : List (List Key × V)} {k : List Key} {v : V} {r : Value} {Q : Unit → Shared → Prop}
    (room : (tupleKind (mixKind X.prog X.w)).room X.A) (I : L2.Inv X pins σ H s) (e : H D = some (.dT kvs)) (l : kvs.length < sizeLine) (eb : H b = some (.tup (k.map kV))) (rv : L2.RelV v r) (h : ∀ s', L2.Inv X pins σ (upd H D (.dT (putK kvs k v))) s' → Q () s') :
    wpAny (model X.prog X.w) X.A (dictSet D (.ref b) r) Q E s := by
  obtain ⟨z, hd, xs, rel, dd⟩ := dt_of I.hok e
  have hz : xs.length ≤ sizeLine := by rw [← Paired.length rel]; exact z
  have hl : (putK kvs k v).length ≤ sizeLine := by have := length_putK kvs k v; omega
  refine wpAny_dictSet_heap room (key_of I.hok eb) dd (fun h' dd' hs => h _ ?_) hz
  obtain ⟨q, es, ep, hq, h2, h3, h4, _, h5⟩ := dd'
  exact d_write I (by rw [e]; trivial) hs ⟨q, hq⟩ ⟨hl, hd, storedH xs k b r, KT.keeps (KT.put rel k eb rv) (fun c ys ec => by rw [upd_ne (ne_of ec e fun z => nomatch z)]; exact ec), q, es, ep, hq, h2, h3, h4, h5⟩
/-- one turn of such a comprehension -/
def stepT (g : TG) (tt : TT) (tk tv : TE) (vs : List Nat) (σ : L2.St) (D : Addr) (x : V) (H' : Hp) (Nx : Hp → Prop) : Prop :=
  g x (wipe σ vs) H' fun σ2 H2 => wipe σ2 vs = wipe σ vs ∧ tt σ2 H2 fun b H3 => if b = true then tk σ2 H3 fun y H4 => tv σ2 H4 fun z H5 =>
    ∃ kvs k a, y = V.ref a ∧ H5 a = some (.tup (k.map kV)) ∧ H5 D = some (.dT kvs) ∧ kvs.length < sizeLine ∧ Nx (upd H5 D (.dT (putK kvs k z))) else Nx H3
def turnT (g : TG) (tt : TT) (tk tv : TE) (vs : List Nat) (σ : L2.St) (D : Addr) (J : It) (W : Nat → Nat → Hp → Prop) (Qd : Hp → Prop) : Prop :=
  ∀ i m H, W i m H → J.stop i H ∧ Qd H ∨ J.go i H ∧ ∃ Nx : Hp → Prop, (∀ H', Nx H' → ∃ m', m' < m ∧ W (i + 1) m' H') ∧ ∀ x H', J.yld i H x H' → stepT g tt tk tv vs σ D x H' Nx
def tDcT : TI → TG → TT → TE → TE → List Nat → TE := fun wi g tt tk tv vs σ H Q =>
  wi σ H fun J H1 => ∀ D, H1 D = none → ∃ W : Nat → Nat → Hp → Prop, (∃ m, W 0 m (upd H1 D (.dT []))) ∧ turnT g tt tk tv vs σ D J W (Q (.ref D))
theorem dcT_loop {Xb : Cx} {fp : List Addr} {it : Addr} {tn : Nat → Heap → Prop} {J : It} {kx vx tg iter : Expr} {ifs : List Expr} {scope : Scope} {pos : Pos} {g : TG} {tt : TT} {tk tv : TE} {vs : List Nat} {σ : L2.St} {D : Addr} {W : Nat → Nat → Hp → Prop} {Qd : Hp → Prop} {R : Result → Shared → Prop}
    (hc : Xb.calm = true) (hxe : Xb.xe = fun _ _ => False) (room : (tupleKind (mixKind Xb.prog Xb.w)).room Xb.A) (pg : PG Xb tg g) (pt : PTs Xb ifs tt) (pk : PE Xb kx tk) (pe : PE Xb vx tv) (T : Turn Xb.prog Xb.w Xb.K tg J fp it tn)
    (stat : ∀ {σ' : L2.St} {H' : Hp} {s' : Shared}, L2.Inv Xb [] σ' H' s' → (∀ b ∈ fp, H' b = none) → ∀ b ∈ fp, FpOk Xb [] H' b)
    (turn : turnT g tt tk tv vs σ D J W Qd) (done : ∀ {H6 : Hp} {s6 : Shared}, L2.Inv Xb [] (wipe σ vs) H6 s6 → Qd H6 → R (.ok .next) s6)
    {n : Nat} {s : Shared} (hI : ∃ i H', L2.Inv Xb [] (wipe σ vs) H' s ∧ tn i s.heap ∧ (∀ b ∈ fp, H' b = none) ∧ W i n H') :
    codeAny (model Xb.prog Xb.w) Xb.A (Code.compLoop (kx.DictComp vx [⟨tg, iter, ifs, 0⟩] scope pos) 0 (.ref it) (.ref D) Xb.env) R s := by
  refine compLoop_anyD (fun n s' => ∃ i H', L2.Inv Xb [] (wipe σ vs) H' s' ∧ tn i s'.heap ∧ (∀ b ∈ fp, H' b = none) ∧ W i n H') (fun n s5 a => ?_) n hI
  obtain ⟨i, H5, I5, st5, n5, w5⟩ := a
  rcases turn i n H5 w5 with ⟨stop, qq⟩ | ⟨go, Nx, hNx, step⟩
  · refine thnF (T.done Xb rfl rfl rfl hc i [] s5 _ H5 _ I5 (stat I5 n5) st5 stop) fun r s6 x => ?_
    obtain ⟨hr, I6⟩ := x
    subst hr
    exact done I6 qq
  · refine thnF (T.item Xb rfl rfl rfl hc i [] s5 _ H5 _ I5 (stat I5 n5) st5 go) fun r s6 x => ?_
    obtain ⟨u, hr, h6⟩ := x
    subst hr
    refine thnF h6 fun _ s7 x => ?_
    obtain ⟨x, H7, I7, r7, y7, st7, n7⟩ := x
    have I7' := Inv.pinned I7 (stat I7 n7) (T.obj (i + 1) s7.heap st7)
    have z := pg.run ([] ++ pinsAt fp s7.heap) s7 (wipe σ vs) H7 x u _ I7' r7 (step x H7 y7)
    rw [hxe] at z
    refine thnF z fun _ s8 x => ?_
    obtain ⟨σ8, H8, I8, hw8, q8⟩ := x
    have z := pt.run _ s8 σ8 H8 _ I8 q8
    rw [hxe] at z
    refine thnF z fun b s9 x => ?_
    obtain ⟨H9, I9, q9⟩ := x
    have fin : ∀ {s' : Shared} {H' : Hp}, L2.Inv Xb ([] ++ pinsAt fp s7.heap) σ8 H' s' → Nx H' → ∃ m, m < n ∧ ∃ i H', L2.Inv Xb [] (wipe σ vs) H' s' ∧ tn i s'.heap ∧ (∀ b ∈ fp, H' b = none) ∧ W i m H' := fun {s' H'} I' nx => by
      obtain ⟨m', hm, w'⟩ := hNx H' nx
      have pin' : ∀ b ∈ fp, ∀ o, s7.heap.get? b = some o → s'.heap.get? b = some o ∧ H' b = none := fun b hb o e => by
        have z := I'.pin (b, o) (List.mem_append_right _ (List.mem_append_right [] (mem_pinsAt hb e)))
        exact ⟨z.1, z.2.1⟩
      have hl : (wipe σ vs).length = σ8.length := by rw [← hw8, wipe_length]
      refine ⟨m', hm, i + 1, H', Inv.weak (Inv.unpinned I') hl (fun j v e => (wipe_some (by rw [hw8]; exact e)).1), T.keep (i + 1) s7.heap s'.heap st7 (fun b hb o e => (pin' b hb o e).1), fun b hb => ?_, w'⟩
      obtain ⟨o, e, _⟩ := T.obj (i + 1) s7.heap st7 b hb
      exact (pin' b hb o e).2
    cases b with
    | false => exact fin I9 q9
    | true =>
      have q9' : tk σ8 H9 fun y H4 => tv σ8 H4 fun z H5 => ∃ kvs k a, y = V.ref a ∧ H5 a = some (.tup (k.map kV)) ∧ H5 D = some (.dT kvs) ∧ kvs.length < sizeLine ∧ Nx (upd H5 D (.dT (putK kvs k z))) := q9
      have z := pk.run _ s9 σ8 H9 _ I9 q9'
      rw [hxe] at z
      refine thnF z fun kv s10 x => ?_
      obtain ⟨y, H10, I10, r10, q10⟩ := x
      have z := pe.run _ s10 σ8 H10 _ I10 q10
      rw [hxe] at z
      refine thnF z fun vv s11 x => ?_
      obtain ⟨z, H11, I11, r11, kvs, k, a, ey, ha, hD, hz, nx⟩ := x
      subst ey
      obtain rfl : kv = Value.ref a := r10
      exact d_dictSetT room I11 hD hz ha r11 fun s12 I12 => fin I12 nx
theorem dcT_core {X : Cx} {pins : List (Addr × Obj)} {s : Shared} {σ : L2.St} {H : Hp} {Q : VK} {kx vx tg iter : Expr} {ifs : List Expr} {scope : Scope} {own : List (Str × Nat)} {pos pos' : Pos} {wi : TI} {g : TG} {tt : TT} {tk tv : TE} {use : Option (Value → Sem Unit)} {Qf : Value → Shared → Prop}
    (room : (tupleKind (mixKind X.prog X.w)).room X.A) (hc : X.calm = true) (hN : X.N.Nodup) (I : L2.Inv X pins σ H s) (hi : PI X tg iter wi) (ok : BlkOk X.N X.env.scope scope own)
    (hg : ∀ (s : Shared) (H : Hp) (C : Addr) (cl : List (Str × Addr)) (fp : List Addr), PG (X.blk s H scope (compEnvC scope cl C X.env) fp) tg g)
    (ht : ∀ (s : Shared) (H : Hp) (C : Addr) (cl : List (Str × Addr)) (fp : List Addr), PTs (X.blk s H scope (compEnvC scope cl C X.env) fp) ifs tt)
    (hk : ∀ (s : Shared) (H : Hp) (C : Addr) (cl : List (Str × Addr)) (fp : List Addr), PE (X.blk s H scope (compEnvC scope cl C X.env) fp) kx tk)
    (he : ∀ (s : Shared) (H : Hp) (C : Addr) (cl : List (Str × Addr)) (fp : List Addr), PE (X.blk s H scope (compEnvC scope cl C X.env) fp) vx tv)
    (hs : ∀ x, foldedSetIterable iter X.env x = pure x) (h : tDcT wi g tt tk tv (own.map (·.2)) σ H Q)
    (hRR : ∀ (D C : Addr) (s' : Shared) (m : Str → Option Value) (H' : Hp), L2.Inv X pins σ H' s' → Q (V.ref D) H' → s'.heap.Ns C m → FpOk X pins H' C → compPost (model X.prog X.w) X.A X.xe use Qf (Value.ref D) C (Except.ok Flow.next) s') :
    wpAny (model X.prog X.w) X.A (comprehension (kx.DictComp vx [⟨tg, iter, ifs, 0⟩] scope pos) scope X.env pos' newDict false (eval iter X.env) use) Qf X.xe s := by
  have hfree : ∀ y ∈ scope.names, y.2 = NameKind.free → ∃ c, List.lookup y.1 X.env.cells = some c := fun y hy e => by
    rcases ok.free y hy e with k | k
    · exact I.ok.has y.1 (.inl k)
    · exact I.ok.has y.1 (.inr k)
  refine wpAny_comprehension_free rfl hs (closure_ok hfree) ok.kind (fun y hy e => by rw [ok.uniq y hy, e]) (thn (hi.run pins s σ H _ I h) fun xv s1 hx => thn hx fun itv s2 h2 => ?_)
  obtain ⟨it, fp, tn, J, H2, e, I2, T, st2, f2, q⟩ := h2
  subst e
  refine wpAny_newObj_type (newEnv_comp ?_)
  have hDn : H2 s2.heap.objs.size = none := HOk.fresh I2.hok (Nat.le_refl _)
  obtain ⟨W, ⟨m0, w0⟩, turn⟩ := q s2.heap.objs.size hDn
  have I3 : L2.Inv X pins σ (upd H2 s2.heap.objs.size (.dT [])) { s2 with heap := s2.heap.push { cls := Value.type "dict", data := Data.dict #[] } } :=
    Inv.laid (t' := s2.toks) I2 (fun b o e => Heap.get?_push_of_some _ e) (Nat.le_refl _) (dt_empty s2.heap (Inv.big I2))
  have sz : ∀ b ∈ fp, b < s2.heap.objs.size := fun b hb => by
    obtain ⟨o, e, _⟩ := T.obj 0 s2.heap st2 b hb
    exact Heap.lt_size e
  have f3 : ∀ b ∈ fp, FpOk X pins (upd H2 s2.heap.objs.size (.dT [])) b ∧ b < (s2.heap.push { cls := Value.type "dict", data := Data.dict #[] }).objs.size := fun b hb => by
    have hlt := sz b hb
    refine ⟨⟨by rw [upd_ne (Nat.ne_of_lt hlt)]; exact (f2 b hb).1, (f2 b hb).2⟩, ?_⟩
    rw [Heap.size_push]
    exact Nat.lt_succ_of_lt hlt
  have I4 := block_start I3 ok hN f3
  have st4 : tn 0 (pushCells ((s2.heap.push { cls := Value.type "dict", data := Data.dict #[] }).push { cls := Value.type "dict", data := Data.dict #[] }) scope.names) :=
    T.keep 0 s2.heap _ st2 fun b _ o e => pushCells_keeps scope.names _ b o (Heap.get?_push_of_some _ (Heap.get?_push_of_some _ e))
  refine (fun loop => codeAny_compStart_dict loop (T.self X.A 0 _ _ _ st4 loop)) ?_
  refine (dcT_loop (Xb := X.blk { s2 with heap := s2.heap.push { cls := Value.type "dict", data := Data.dict #[] } } (upd H2 s2.heap.objs.size (.dT [])) scope
      (compEnvC scope (cellsFrom ((s2.heap.push { cls := Value.type "dict", data := Data.dict #[] }).objs.size + 1) scope.names (cloFrom X.env.cells scope.names [])) (s2.heap.push { cls := Value.type "dict", data := Data.dict #[] }).objs.size X.env) fp)
      hc rfl room (hg _ _ _ _ _) (ht _ _ _ _ _) (hk _ _ _ _ _) (he _ _ _ _ _) T
      (fun {σ' H' s'} I' hn b hb => ⟨hn b hb, (I'.ok.exf b hb).1, I'.ok.exfs b hb, Or.inl hb, fun x c e => (I'.ok.exf b hb).2 x c e, fun p hp => absurd (show p ∈ ([] : List (Addr × Obj)) ++ [] from hp) (by simp)⟩)
      turn (fun {H6 s6} I6 qq => ?_) ⟨0, _, I4, st4, fun b hb => (f3 b hb).1.1, w0⟩)
  · have I7 := Inv.call' I3 I6.os I6.base I6.hok I6.bare fun b hb => ⟨(f3 b hb).1.2.2.2.1, (f3 b hb).1.2.1, (f3 b hb).1.2.2.2.2.1, (f3 b hb).1.2.2.2.2.2⟩
    have nC : H6 (s2.heap.push { cls := Value.type "dict", data := Data.dict #[] }).objs.size = none := I6.free
    obtain ⟨m, hn, _⟩ := I6.loc
    exact hRR s2.heap.objs.size _ s6 m H6 I7 qq hn (Inv.fpOk I3 (Nat.le_refl _) nC)
theorem roomT {P : Program} {w : World} {K : Type} [DecidableEq K] {knd : PySem.KeyKind P w K} {A : Around} (h : A.units < cLine) : (tupleKind knd).room A := h
theorem pe_dcT {X : Cx} {kx vx tg iter : Expr} {ifs : List Expr} {scope : Scope} {own : List (Str × Nat)} {pos : Pos} {wi : TI} {g : TG} {tt : TT} {tk tv : TE} (hu : X.A.units + 1 < cLine) (hc : X.calm = true) (hN : X.N.Nodup) (hi : PI X tg iter wi) (ok : BlkOk X.N X.env.scope scope own)
    (hg : ∀ (s : Shared) (H : Hp) (C : Addr) (cl : List (Str × Addr)) (fp : List Addr), PG (X.blk s H scope (compEnvC scope cl C X.env) fp) tg g)
    (ht : ∀ (s : Shared) (H : Hp) (C : Addr) (cl : List (Str × Addr)) (fp : List Addr), PTs (X.blk s H scope (compEnvC scope cl C X.env) fp) ifs tt)
    (hk : ∀ (s : Shared) (H : Hp) (C : Addr) (cl : List (Str × Addr)) (fp : List Addr), PE (X.blk s H scope (compEnvC scope cl C X.env) fp) kx tk)
    (he : ∀ (s : Shared) (H : Hp) (C : Addr) (cl : List (Str × Addr)) (fp : List Addr), PE (X.blk s H scope (compEnvC scope cl C X.env) fp) vx tv)
    (hs : ∀ x, foldedSetIterable iter X.env x = pure x := by intro _; rfl) : PE X (.DictComp kx vx [⟨tg, iter, ifs, 0⟩] scope pos) (tDcT wi g tt tk tv (own.map (·.2))) := by
  refine ⟨fun pins s σ H Q I h => ?_⟩
  rw [arm_eval_DictComp]
  refine dcT_core (roomT (by omega)) hc hN I hi ok hg ht hk he hs h fun D C s' m H' I' q hn f => ?_
  refine ⟨m, hn, fun h'' sb => ?_⟩
  obtain ⟨f0, f1, f2, f3, f4, f5⟩ := f
  exact ⟨V.ref D, H', Inv.turned I' (fun b o hb e => (sb.2 b hb).trans e) f0 f1 f3 f4 f5, rfl, q⟩
theorem dcT_it {J : It} {n : Nat} {G : Hp → Prop} {Y : Nat → Hp → V → Hp → Prop} (Wk : Walk J n G Y) {g : TG} {tt : TT} {tk tv : TE} {vs : List Nat} {σ : L2.St} {H1 : Hp} {D : Addr} {Qd : Hp → Prop} (Pv : Nat → Hp → Prop) (h0 : Pv 0 (upd H1 D (.dT [])))
    (hG : ∀ i H, i ≤ n → Pv i H → G H) (hstep : ∀ i x H H', i < n → Pv i H → Y i H x H' → stepT g tt tk tv vs σ D x H' (Pv (i + 1))) (hfin : ∀ H, Pv n H → Qd H) : ∃ W : Nat → Nat → Hp → Prop, (∃ m, W 0 m (upd H1 D (.dT []))) ∧ turnT g tt tk tv vs σ D J W Qd := by
  refine ⟨fun i m H => i ≤ n ∧ m = n - i ∧ Pv i H, ⟨n, Nat.zero_le _, rfl, h0⟩, ?_⟩
  rintro i m H ⟨hi, rfl, hp⟩
  by_cases e : i = n
  · subst e
    exact .inl ⟨Wk.stops H (hG _ H hi hp), hfin H hp⟩
  · have lt : i < n := by omega
    exact .inr ⟨Wk.goes i H lt (hG i H hi hp), Pv (i + 1), fun H' h => ⟨n - (i + 1), by omega, by omega, rfl, h⟩, fun x H' y => hstep i x H H' lt hp (Wk.yields i H x H' lt (hG i H hi hp) y)⟩
end L2
end T_TD

section T_BH
set_option Elab.async false
set_option linter.all false
set_option maxRecDepth 100000
set_option maxHeartbeats 8000000
namespace Rw
open PySem L2 PyProof.Rows
/-! ### dicts whose keys are tuples of names -/
def kT (T : List (List Str × Addr)) : List (List Key × V) := T.map fun t => (t.1.map Sum.inr, .ref t.2)
theorem inr_inj {a b : List Str} (h : a.map (Sum.inr : Str → Key) = b.map Sum.inr) : a = b := (List.map_inj_right (fun _ _ z => Sum.inr.inj z)).mp h
theorem keyS (p : List Str) : (p.map (Sum.inr : Str → Key)).map kV = p.map V.str := by rw [List.map_map]; rfl
theorem kT_none {T : List (List Str × Addr)} {p : List Str} (h : p ∉ T.map (·.1)) : valV (kT T) (p.map Sum.inr) = none := by
  induction T with
  | nil => rfl
  | cons t T ih =>
    show valV ((t.1.map Sum.inr, V.ref t.2) :: kT T) (p.map Sum.inr) = none
    rw [valV_neg (fun e => h (by rw [← inr_inj e]; exact List.mem_cons_self))]
    exact ih fun q => h (List.mem_cons_of_mem _ q)
theorem kT_get {T : List (List Str × Addr)} {t : List Str × Addr} (nd : (T.map (·.1)).Nodup) (h : t ∈ T) : valV (kT T) (t.1.map Sum.inr) = some (.ref t.2) := by
  induction T with
  | nil => cases h
  | cons u T ih =>
    show valV ((u.1.map Sum.inr, V.ref u.2) :: kT T) (t.1.map Sum.inr) = _
    rcases List.mem_cons.mp h with rfl | h
    · exact valV_pos rfl
    · have nd' := List.nodup_cons.mp nd
      rw [valV_neg (fun e => nd'.1 (show u.1 ∈ T.map (·.1) by rw [inr_inj e]; exact List.mem_map_of_mem h))]
      exact ih nd'.2 h
theorem kT_new {T : List (List Str × Addr)} {p : List Str} {a : Addr} (h : p ∉ T.map (·.1)) : putK (kT T) (p.map Sum.inr) (.ref a) = kT (T ++ [(p, a)]) := by
  rw [putK_new _ (kT_none h)]
  unfold kT
  rw [List.map_append]
  rfl
theorem kT_len (T : List (List Str × Addr)) : (kT T).length = T.length := by unfold kT; rw [List.length_map]
theorem parts0_nodup : ∀ (r : List Str), r.reverse.Nodup → (parts0 r.reverse).Nodup
  | [], _ => by decide
  | z :: r, h => by
    rw [List.reverse_cons] at h ⊢
    rw [parts0_snoc, List.nodup_append]
    have h' := List.nodup_append.mp h
    have ih := parts0_nodup r h'.1
    refine ⟨ih, ?_, fun a ha b hb e => ?_⟩
    · refine List.Pairwise.map _ (R := fun a b : List Str => a ≠ b) (fun a b ne e => ne ?_) ih
      exact (List.append_inj' e rfl).1
    · obtain ⟨c, _, rfl⟩ := List.mem_map.mp hb
      have hz : z ∈ a := by rw [e]; exact List.mem_append_right _ List.mem_cons_self
      exact h'.2.2 z ((parts0_sub ha).subset hz) z List.mem_cons_self rfl
theorem partsS_perm (zs : List Str) : (partsS zs).Perm (parts0 zs) := by
  unfold partsS
  split
  · rename_i c
    exact (Classical.choose_spec c).1
  · exact List.Perm.refl _
theorem partsS_nodup {zs : List Str} (h : zs.Nodup) : (partsS zs).Nodup := by
  rw [(partsS_perm zs).nodup_iff]
  have := parts0_nodup zs.reverse (by rw [List.reverse_reverse]; exact h)
  rwa [List.reverse_reverse] at this
theorem partsS_len {zs : List Str} (h : zs.length ≤ 6) : (partsS zs).length ≤ 64 := by
  rw [(partsS_perm zs).length_eq, parts0_len _ zs rfl]
  exact Nat.le_trans (Nat.pow_le_pow_right (by decide) h) (by decide)
/-! ### the wishes that are broken at a moment -/
abbrev wishes4 : List Str := ["home", "lost", "posts", "rings"]
def badB (ends dots ss ps : List Str) (o n : Str → List (Str × V)) (on : List Str) (wd : Str) : Bool := (places wd ends dots ss).any fun q => brk dots ps o n wd on q.1 q.2
def bads (ends dots ss ps : List Str) (o n : Str → List (Str × V)) (on : List Str) : List Str := wishes4.filter (badB ends dots ss ps o n on)
theorem wishes4_sorted : sortedS wishes4 = true := by decide +kernel
theorem bads_is {ends dots ss ps : List Str} {o n : Str → List (Str × V)} {on ws ys : List Str} (h : ∀ x, x ∈ ws ↔ x ∈ wishes4 ∧ badB ends dots ss ps o n on x = true) (hp : ys.Perm (seen ws)) (hs : sortedS ys = true) : ys = bads ends dots ss ps o n on := by
  refine sorted_uniq hs (sorted_sub List.filter_sublist wishes4_sorted) (hp.trans ?_)
  obtain ⟨h1, h2, _⟩ := seen_rev ws
  refine (List.perm_ext_iff_of_nodup h1 (List.Pairwise.filter _ (by decide +kernel))).mpr fun x => ?_
  rw [h2, h, List.mem_filter]
/-- a dict from parts to the wishes that f tells -/
structure BadAt (H : Hp) (b : Addr) (f : List Str → List Str) (Ps : List (List Str)) : Prop where
  ex : ∃ T : List (List Str × Addr), H b = some (.dT (kT T)) ∧ T.map (·.1) = Ps ∧ ∀ t ∈ T, H t.2 = some (.lst ((f t.1).map V.str))
theorem BadAt.to {H H' : Hp} {b : Addr} {f : List Str → List Str} {Ps : List (List Str)} (h : BadAt H b f Ps) (x : Evl.Ex H H') : BadAt H' b f Ps := by
  obtain ⟨T, h1, h2, h3⟩ := h
  exact ⟨T, x _ _ h1, h2, fun t ht => x _ _ (h3 t ht)⟩
theorem badB_mem {ends dots ss ps : List Str} {o n : Str → List (Str × V)} {on : List Str} {wd : Str} : badB ends dots ss ps o n on wd = true ↔ ∃ e ∈ ends, ∃ z ∈ startsOf wd dots ss, brk dots ps o n wd on e z = true := by
  unfold badB places
  rw [List.any_eq_true]
  constructor
  · rintro ⟨q, hq, h⟩
    obtain ⟨e, he, hq⟩ := List.mem_flatMap.mp hq
    obtain ⟨z, hz, rfl⟩ := List.mem_map.mp hq
    exact ⟨e, he, z, hz, h⟩
  · rintro ⟨e, he, z, hz, h⟩
    exact ⟨(e, z), List.mem_flatMap.mpr ⟨e, he, List.mem_map_of_mem hz⟩, h⟩
theorem row_form {dots ss : List Str} {e : Str} {o n : Str → List (Str × V)} {on : List Str} {z : Str} (ho : TabOk dots e (o e)) (hn : TabOk dots e (n e)) (dm : ∀ y ∈ dots, Nm y) (em : Nm e) (hz : z ∈ dots) :
    ∃ (zs : List Str) (u : V), walkOf (nowTab dots (o e) (n e) on) (dots.length + 1) z = zs.map V.str ++ [u] ∧ Spot u ∧ ∀ y ∈ zs, Nm y := by
  have LD : LeadOk dots (nowTab dots (o e) (n e) on) := nowTab_lead ho hn dm em
  obtain ⟨zs, u, ew, hu⟩ := track_form (tb := nowTab dots (o e) (n e) on) LD.sp (dots.length + 1) [] (.str z) (.inr ⟨z, rfl, dm z hz⟩)
  refine ⟨zs, u, ew, hu, fun y hy => ?_⟩
  have q1 := track_spots (tb := nowTab dots (o e) (n e) on) LD.sp (dots.length + 1) [] (.str z) (fun _ h => nomatch h) (.inr ⟨z, rfl, dm z hz⟩) (.str y) (by rw [ew]; exact List.mem_append_left _ (List.mem_map_of_mem hy))
  rcases q1 with q1 | ⟨y', q1, q2⟩
  · cases q1
  · cases q1
    exact q2
theorem filter_nil_iff {zs : List Str} {p : Str → Bool} : (zs.filter p).isEmpty = true ↔ ∀ z ∈ zs, ¬ p z = true := by
  rw [List.isEmpty_iff, List.filter_eq_nil_iff]
end Rw
end T_BH

section T_RD
set_option Elab.async false
set_option linter.all false
set_option maxRecDepth 100000
set_option maxHeartbeats 8000000
namespace Rw
open PySem L2 PyProof.Rows
/-! ### tuples of names as data -/
theorem dpa_strs {K : PySem.W.Frag} {H : Hp} : ∀ zs : List Str, DpAll K H (zs.map V.str) (zs.map PyData.str)
  | [] => .nil
  | z :: zs => .cons (.str z) (dpa_strs zs)
theorem eqvAll_strs : ∀ zs ys : List Str, PyData.eqvAll (zs.map PyData.str) (ys.map PyData.str) = decide (zs = ys)
  | [], [] => rfl
  | [], _ :: _ => rfl
  | _ :: _, [] => rfl
  | z :: zs, y :: ys => by
    show (PyData.eqv (.str z) (.str y) && PyData.eqvAll (zs.map PyData.str) (ys.map PyData.str)) = _
    rw [eqvAll_strs zs ys, show PyData.eqv (.str z) (.str y) = (z == y) from rfl]
    by_cases e : z = y
    · subst e
      by_cases f : zs = ys
      · subst f; simp
      · simp [f]
    · simp [e]
theorem dp_row {K : PySem.W.Frag} {H : Hp} {a : Addr} {zs : List Str} (h : H a = some (.tup (zs.map V.str))) : Dp K H (.ref a) (.tuple (zs.map PyData.str)) := .tup (Evl.st_of h) (dpa_strs zs)
theorem dpa_rows {K : PySem.W.Frag} {H : Hp} : ∀ {L : List (Addr × List Str)}, RowsT H L → DpAll K H (L.map fun q => V.ref q.1) (L.map fun q => PyData.tuple (q.2.map PyData.str))
  | [], _ => .nil
  | q :: L, h => .cons (dp_row (h q List.mem_cons_self)) (dpa_rows fun r hr => h r (List.mem_cons_of_mem _ hr))
theorem lay_strs : ∀ {zs : List Str}, (∀ z ∈ zs, Nm z) → PyData.canLayAll0 (zs.map PyData.str) = true ∧ PyData.depthAll (zs.map PyData.str) = 0
  | [], _ => ⟨rfl, rfl⟩
  | z :: zs, h => by
    obtain ⟨h1, h2⟩ := lay_strs fun y hy => h y (List.mem_cons_of_mem _ hy)
    constructor
    · show (PyData.strOk z && PyData.canLayAll0 (zs.map PyData.str)) = true
      rw [h1, nm_ok (h z List.mem_cons_self)]
      rfl
    · show max 0 (PyData.depthAll (zs.map PyData.str)) = 0
      rw [h2]
      rfl
theorem row_shaped {zs : List Str} (h : ∀ z ∈ zs, Nm z) : SeqAt.shaped (.tuple (zs.map PyData.str)) = true := by
  obtain ⟨h1, h2⟩ := lay_strs h
  exact shaped_tup h1 (by omega)
theorem lay_rows : ∀ {L : List (Addr × List Str)}, (∀ q ∈ L, ∀ z ∈ q.2, Nm z) → PyData.canLayAll0 (L.map fun q => PyData.tuple (q.2.map PyData.str)) = true ∧ PyData.depthAll (L.map fun q => PyData.tuple (q.2.map PyData.str)) ≤ 1
  | [], _ => ⟨rfl, Nat.zero_le _⟩
  | q :: L, h => by
    obtain ⟨h1, h2⟩ := lay_rows fun r hr => h r (List.mem_cons_of_mem _ hr)
    obtain ⟨h3, h4⟩ := lay_strs (h q List.mem_cons_self)
    constructor
    · show (PyData.canLayAll0 (q.2.map PyData.str) && PyData.canLayAll0 (L.map fun q => PyData.tuple (q.2.map PyData.str))) = true
      rw [h1, h3]
      rfl
    · show max (PyData.depthAll (q.2.map PyData.str) + 1) (PyData.depthAll (L.map fun q => PyData.tuple (q.2.map PyData.str))) ≤ 1
      omega
theorem rows_shaped {L : List (Addr × List Str)} (h : ∀ q ∈ L, ∀ z ∈ q.2, Nm z) : SeqAt.shaped (.list (L.map fun q => PyData.tuple (q.2.map PyData.str))) = true := by
  obtain ⟨h1, h2⟩ := lay_rows h
  unfold SeqAt.shaped
  rw [show PyData.canLay0 (.list (L.map fun q => PyData.tuple (q.2.map PyData.str))) = PyData.canLayAll0 (L.map fun q => PyData.tuple (q.2.map PyData.str)) from rfl, h1, show PyData.depth (.list (L.map fun q => PyData.tuple (q.2.map PyData.str))) = PyData.depthAll (L.map fun q => PyData.tuple (q.2.map PyData.str)) + 1 from rfl]
  exact decide_eq_true (show PyData.depthAll _ + 1 ≤ 64 by omega)
theorem any_rows (L : List (Addr × List Str)) (zs : List Str) : ((L.map fun q => PyData.tuple (q.2.map PyData.str)).any fun z => PyData.eqv z (.tuple (zs.map PyData.str))) = decide (zs ∈ L.map (·.2)) := by
  induction L with
  | nil => rfl
  | cons q L ih =>
    show (PyData.eqvAll (q.2.map PyData.str) (zs.map PyData.str) || (L.map fun q => PyData.tuple (q.2.map PyData.str)).any fun z => PyData.eqv z (.tuple (zs.map PyData.str))) = _
    rw [ih, eqvAll_strs]
    by_cases e : q.2 = zs
    · rw [decide_eq_true e, decide_eq_true (show zs ∈ (q :: L).map (·.2) by rw [← e]; exact List.mem_cons_self)]
      rfl
    · rw [decide_eq_false e, Bool.false_or]
      by_cases m : zs ∈ L.map (·.2)
      · rw [decide_eq_true m, decide_eq_true (show zs ∈ (q :: L).map (·.2) from List.mem_cons_of_mem _ m)]
      · rw [decide_eq_false m, decide_eq_false (fun h : zs ∈ (q :: L).map (·.2) => (List.mem_cons.mp h).elim (fun h => e h.symm) m)]
end Rw
end T_RD

section T_WB
set_option Elab.async false
set_option linter.all false
set_option maxRecDepth 100000
set_option maxHeartbeats 8000000
namespace Rw
open PySem L2 PyProof.Rows
theorem tkv_re {tb : List (Str × V)} {z : Str} {u v : V} (h : z ∉ tb.map (·.1)) : putK (tkv (tb ++ [(z, u)])) (Sum.inr z) v = tkv (tb ++ [(z, v)]) := by
  rw [tkv_old (by rw [List.map_append]; exact List.mem_append_right _ List.mem_cons_self), List.map_append]
  congr 2
  · refine (List.map_congr_left fun q hq => ?_).trans (List.map_id _)
    rw [if_neg fun c => h (by rw [← c]; exact List.mem_map_of_mem hq)]
    rfl
  · show [if z = z then (z, v) else (z, u)] = _
    rw [if_pos rfl]
section
variable {P : Program} {w : World} {K : PySem.W.Frag} {mg : Str → Option Value} {base : Heap}
/-! ### the ways of a round, as this law lists them -/
def spWebV : Sp := fun vs H Q _ => ∃ (m a b nb tb sb pb : Addr) (e : Str) (zs ys ends dots ss ps : List Str) (rows : List (Str × V)) (o n : Str → List (Str × V)), vs = [.ref m, .ref a, .ref b, .str e] ∧ ModelR H m nb tb sb pb ends dots ss ps rows o n ∧ H a = some (.tup (zs.map V.str)) ∧ H b = some (.tup (ys.map V.str)) ∧ (∀ y ∈ ys, y ∉ zs) ∧ e ∈ ends ∧
  ∀ D H', Evl.Ex H H' → H D = none → MixAt H H' D dots (spotsOf (o e) (n e) zs ys) → Q (.ref D) H'
abbrev nWebV : List Str := ["model", "done", "fresh", "target", "first", "later", "found", "node"]
theorem sc_webV : FnScope nWebV ["model", "done", "fresh", "target"] (defScope s_web) := ⟨rfl, rfl, rfl, by decide +kernel, rfl, by decide +kernel, by decide +kernel⟩
theorem ok_webV {f : Addr} {fd : FuncData} (F : Fun K "_law_web" "_law_web" s_web f fd) : FnOk P w K mg base CX0 1 f fd ["model", "done", "fresh", "target"] spWebV := by
  refine F.ok sc_webV (fun vs H Q E h => ?_) (fun cdv A outer s H vs Q E hr h => ?_)
  · obtain ⟨m, a, b, nb, tb, sb, pb, e, zs, ys, ends, dots, ss, ps, rows, o, n, rfl, _⟩ := h
    rfl
  · obtain ⟨m, a, b, nb, tb, sb, pb, e, zs, ys, ends, dots, ss, ps, rows, o, n, rfl, MS, ha, hb, dis, he, k⟩ := h
    have nd := sc_webV.nd
    have hu := hu_of hr
    refine ⟨_, pss_cons (ps_asg (pe_dget hu (pe_dget hu (pv 0) pe_str (fun _ _ => rfl)) (pv 3) (fun _ _ => rfl)) (pg_tup rfl (pgs_cons (pg_name (i := 4) nd rfl (.inl rfl)) (pgs_cons (pg_name (i := 5) nd rfl (.inl rfl)) pgs_nil))))
      (pss_cons (ps_set (i := 6) nd rfl (.inl rfl) pe_dnewK)
      (pss_cons (ps_for PassesOwn.never rfl (pi_list (pe_dget hu (pv 0) pe_str (fun _ _ => rfl))) (pg_name (i := 7) nd rfl (.inl rfl))
        (C8.pss_cut (ps_dput hu (pv 6) (pv 7) (pe_ifExp (pt_cmpR op_in_seq (pv 7) (pv 1) rfl) (pe_lst (pa_cons (pe_dget hu (pv 5) (pv 7) (fun _ _ => rfl)) pa_nil)) (pe_lst (pa_cons (pe_dget hu (pv 4) (pv 7) (fun _ _ => rfl)) pa_nil))) rfl)
        (pss_one (ps_if (PW.pt (pw_and (pt_cmpR op_in_seq (pv 7) (pv 2) rfl) (pw_and1 (pt_cmpR op_ne (pe_dget hu (pv 5) (pv 7) (fun _ _ => rfl)) (pe_dget hu (pv 4) (pv 7) (fun _ _ => rfl)) (nomark _)))))
          (pss_one (ps_dput hu (pv 6) (pv 7) (pe_lst (pa_cons (pe_dget hu (pv 4) (pv 7) (fun _ _ => rfl)) (pa_cons (pe_dget hu (pv 5) (pv 7) (fun _ _ => rfl)) pa_nil))) rfl)) pss_nil))))
      (pss_one (ps_ret (pv 6))))), ?_⟩
    have ok := MS.ok
    have d6 := ok.d6
    obtain ⟨pr, po, pn, hv, pa⟩ := MS.ra e he
    refine ⟨.ref m, rfl, m, _, rfl, dgK MS.hm (mkS_tables _ _ _ _), .str e, rfl, tb, _, rfl, dgR (k := Sum.inr e) MS.ht hv, pr, _, rfl, Evl.st_of pa.hp, rfl, _, _, rfl, _, [], rfl, rfl, ?_⟩
    refine fun Fd hF => ?_
    have x1 : Evl.Ex H (upd H Fd (.dK [])) := Evl.Ex.new hF
    have f1 : (upd H Fd (.dK [])) Fd = some (.dK (tkv [])) := upd_same
    generalize upd H Fd (.dK []) = H1 at x1 f1
    obtain ⟨fs, hfs⟩ : ∃ fs, fs = spotsOf (o e) (n e) zs ys := ⟨_, rfl⟩
    rw [← hfs] at k
    refine ⟨.ref m, rfl, m, _, rfl, dgK (x1 _ _ MS.hm) (mkS_nodes _ _ _ _), nb, rfl, ⟨_, Evl.sq_of (x1 _ _ MS.hn)⟩, for_list (K := K) (a := nb) (xs := dots.map V.str)
      (fun i σ H' => ∃ (x7 : Option V) (rs : List (Str × V)), σ = [some (.ref m), some (.ref a), some (.ref b), some (.str e), some (.ref po), some (.ref pn), some (.ref Fd), x7] ∧ Evl.Ex H H' ∧ H' Fd = some (.dK (tkv rs)) ∧ rs.map (·.1) = dots.take i ∧ ∀ q ∈ rs, ∃ a : Addr, q.2 = .ref a ∧ H a = none ∧ H' a = some (.lst (fs q.1)))
      ⟨none, [], rfl, x1, f1, rfl, fun q hq => nomatch hq⟩ (fun i σ H' _ ⟨_, _, _, x, _⟩ => Evl.sq_of (x _ _ MS.hn)) ?_ ?_⟩
    · rintro i v σ H2 hi ⟨x7, rs, rfl, x2, f2, hk, hrs⟩
      obtain ⟨z, hz, rfl⟩ := str_at hi
      have zd := List.mem_of_getElem? hz
      have etake : dots.take (i + 1) = dots.take i ++ [z] := by rw [List.take_add_one, hz]; rfl
      have hzn : z ∉ rs.map (·.1) := fun hm => by
        rw [hk] at hm
        have h1 : (dots.take (i + 1)).Nodup := ok.dn.sublist (List.take_sublist _ _)
        rw [etake] at h1
        exact (List.nodup_append.mp h1).2.2 z hm z (List.mem_singleton.mpr rfl) rfl
      have rl : rs.length ≤ 6 := by
        have := congrArg List.length hk
        rw [List.length_map, List.length_take] at this
        omega
      have c1 := look_ok pa.o1 zd
      have c2 := look_ok pa.o2 zd
      have pa2 := pa.ex x2
      have go : DGet H2 po (.str z) (some (look (o e) z)) := dgK (k := Sum.inr z) pa2.ho c1.2
      have gn : DGet H2 pn (.str z) (some (look (n e) z)) := dgK (k := Sum.inr z) pa2.hn c2.2
      have sc := scal_place c2.1 c1.1
      obtain ⟨y0, hy0⟩ : ∃ y0, y0 = if z ∈ zs then look (n e) z else look (o e) z := ⟨_, rfl⟩
      have room : (tkv rs).length < sizeLine := by rw [tkv_len]; exact small1000 (by omega)
      refine ⟨fun σ' H' => σ' = [some (.ref m), some (.ref a), some (.ref b), some (.str e), some (.ref po), some (.ref pn), some (.ref Fd), some (.str z)] ∧ ∃ l : Addr, H l = none ∧ Evl.Ex H H' ∧ H' Fd = some (.dK (tkv (rs ++ [(z, .ref l)]))) ∧ H' l = some (.lst [y0]) ∧ ∀ q ∈ rs, ∃ a : Addr, q.2 = .ref a ∧ H a = none ∧ H' a = some (.lst (fs q.1)), ?_, ?_⟩
      · have fin : ∀ l, H2 l = none → [some (V.ref m), some (.ref a), some (.ref b), some (.str e), some (.ref po), some (.ref pn), some (.ref Fd), some (.str z)] = [some (.ref m), some (.ref a), some (.ref b), some (.str e), some (.ref po), some (.ref pn), some (.ref Fd), some (.str z)] ∧ ∃ l' : Addr, H l' = none ∧ Evl.Ex H (upd (upd H2 l (.lst [y0])) Fd (.dK (putK (tkv rs) (Sum.inr z) (.ref l)))) ∧ (upd (upd H2 l (.lst [y0])) Fd (.dK (putK (tkv rs) (Sum.inr z) (.ref l)))) Fd = some (.dK (tkv (rs ++ [(z, .ref l')]))) ∧ (upd (upd H2 l (.lst [y0])) Fd (.dK (putK (tkv rs) (Sum.inr z) (.ref l)))) l' = some (.lst [y0]) ∧
            ∀ q ∈ rs, ∃ a : Addr, q.2 = .ref a ∧ H a = none ∧ (upd (upd H2 l (.lst [y0])) Fd (.dK (putK (tkv rs) (Sum.inr z) (.ref l)))) a = some (.lst (fs q.1)) := fun l hl => by
          have ln : l ≠ Fd := fun c => by rw [c, f2] at hl; cases hl
          refine ⟨rfl, l, ex_none x2 hl, (x2.trans (Evl.Ex.new hl)).mut hF, by rw [upd_same, tkv_new hzn], by rw [upd_ne ln]; exact upd_same, fun q hq => ?_⟩
          obtain ⟨a', e', h0', h'⟩ := hrs q hq
          have h2' := (Evl.Ex.new (o := .lst [y0]) hl) _ _ h'
          exact ⟨a', e', h0', by rw [upd_ne (ne_of h' f2 (by intro z; cases z))]; exact h2'⟩
        refine ⟨.str z, rfl, .ref a, rfl, a, zs.map V.str, rfl, .inr (Evl.st_of (x2 _ _ ha)), rfl, flat_strs zs, _, rfl, ?_⟩
        rw [inV_str]
        by_cases mz : z ∈ zs
        · rw [if_pos mz] at hy0
          subst hy0
          rw [decide_eq_true mz]
          refine iteT ⟨.ref pn, rfl, .str z, rfl, pn, _, rfl, gn, by show 1 ≤ sizeLine; decide, fun l hl => ?_⟩
          exact ⟨.ref Fd, rfl, .str z, rfl, Fd, _, rfl, DPut.k (k := Sum.inr z) ((Evl.Ex.new hl) _ _ f2) room, fin l hl⟩
        · rw [if_neg mz] at hy0
          subst hy0
          rw [decide_eq_false mz]
          refine iteF ⟨.ref po, rfl, .str z, rfl, po, _, rfl, go, by show 1 ≤ sizeLine; decide, fun l hl => ?_⟩
          exact ⟨.ref Fd, rfl, .str z, rfl, Fd, _, rfl, DPut.k (k := Sum.inr z) ((Evl.Ex.new hl) _ _ f2) room, fin l hl⟩
      rintro σ H3 ⟨rfl, l, l0, x3, f3, l3, old⟩
      have pa3 := pa.ex x3
      have go3 : DGet H3 po (.str z) (some (look (o e) z)) := dgK (k := Sum.inr z) pa3.ho c1.2
      have gn3 : DGet H3 pn (.str z) (some (look (n e) z)) := dgK (k := Sum.inr z) pa3.hn c2.2
      have keep : fs z = [y0] → ∃ (x7 : Option V) (rs' : List (Str × V)), [some (V.ref m), some (.ref a), some (.ref b), some (.str e), some (.ref po), some (.ref pn), some (.ref Fd), some (.str z)] = [some (.ref m), some (.ref a), some (.ref b), some (.str e), some (.ref po), some (.ref pn), some (.ref Fd), x7] ∧ Evl.Ex H H3 ∧ H3 Fd = some (.dK (tkv rs')) ∧ rs'.map (·.1) = dots.take (i + 1) ∧ ∀ q ∈ rs', ∃ a : Addr, q.2 = .ref a ∧ H a = none ∧ H3 a = some (.lst (fs q.1)) := fun e1 => by
        refine ⟨_, rs ++ [(z, .ref l)], rfl, x3, f3, by rw [List.map_append, hk, etake]; rfl, fun q hq => ?_⟩
        rcases List.mem_append.mp hq with hq | hq
        · exact old q hq
        · rw [List.mem_singleton.mp hq]
          exact ⟨l, rfl, l0, by rw [l3, e1]⟩
      refine ⟨.str z, rfl, .ref b, rfl, b, ys.map V.str, rfl, .inr (Evl.st_of (x3 _ _ hb)), rfl, flat_strs ys, _, rfl, ?_⟩
      rw [inV_str]
      by_cases my : z ∈ ys
      · rw [decide_eq_true my]
        have mz : z ∉ zs := dis z my
        rw [if_neg mz] at hy0
        refine ⟨.ref pn, rfl, .str z, rfl, pn, _, rfl, gn3, .ref po, rfl, .str z, rfl, po, _, rfl, go3, sc, _, rfl, ?_⟩
        by_cases q : look (n e) z = look (o e) z
        · rw [decide_eq_true q]
          refine iteF (keep ?_)
          rw [hfs, hy0]
          unfold spotsOf
          rw [if_neg mz, if_neg (by rw [decide_eq_true q.symm]; simp)]
        · rw [decide_eq_false q]
          refine iteT ?_
          refine ⟨.ref po, rfl, .str z, rfl, po, _, rfl, go3, .ref pn, rfl, .str z, rfl, pn, _, rfl, gn3, by show 2 ≤ sizeLine; decide, fun l2 hl2 => ?_⟩
          have ln : l2 ≠ Fd := fun c => by rw [c, f3] at hl2; cases hl2
          refine ⟨.ref Fd, rfl, .str z, rfl, Fd, _, rfl, DPut.k (k := Sum.inr z) ((Evl.Ex.new hl2) _ _ f3) (by rw [tkv_len, List.length_append, List.length_singleton]; exact small1000 (by omega)), ?_⟩
          refine ⟨_, rs ++ [(z, .ref l2)], rfl, (x3.trans (Evl.Ex.new hl2)).mut hF, by rw [upd_same, tkv_re hzn], by rw [List.map_append, hk, etake]; rfl, fun q' hq' => ?_⟩
          rcases List.mem_append.mp hq' with hq' | hq'
          · obtain ⟨a', e', h0', h'⟩ := old q' hq'
            have h2' := (Evl.Ex.new (o := .lst [look (o e) z, look (n e) z]) hl2) _ _ h'
            exact ⟨a', e', h0', by rw [upd_ne (ne_of h' f3 (by intro z; cases z))]; exact h2'⟩
          · rw [List.mem_singleton.mp hq']
            refine ⟨l2, rfl, ex_none x3 hl2, ?_⟩
            have ew : fs z = [look (o e) z, look (n e) z] := by
              rw [hfs]
              unfold spotsOf
              rw [if_neg mz, if_pos (by rw [decide_eq_true my, decide_eq_false fun c => q c.symm]; rfl)]
            show upd (upd H3 l2 _) Fd _ l2 = some (.lst (fs z))
            rw [upd_ne ln, upd_same, ew]
      · rw [decide_eq_false my]
        refine iteF (iteF (keep ?_))
        rw [hfs, hy0]
        unfold spotsOf
        by_cases mz : z ∈ zs
        · rw [if_pos mz, if_pos mz]
        · rw [if_neg mz, if_neg mz, if_neg (by rw [decide_eq_false my]; simp)]
    · rintro σ H2 ⟨x7, rs, rfl, x2, f2, hk, hrs⟩
      rw [List.length_map, List.take_length] at hk
      exact ⟨.ref Fd, rfl, k Fd H2 x2 hF ⟨rs, f2, hk, hrs⟩⟩
/-! ### posts that are passed with a place -/
def spLNext : Sp := fun vs H Q _ => ∃ (m nb tb sb pb : Addr) (k : Nat) (v : V) (ends dots ss ps : List Str) (rows : List (Str × V)) (o n : Str → List (Str × V)), vs = [.ref m, .int (k : Int), v] ∧ ModelR H m nb tb sb pb ends dots ss ps rows o n ∧ Spot v ∧ Q (.int (stepP ps k v : Int)) H
abbrev nLNext : List Str := ["model", "count", "place", "marks"]
theorem sc_lnext : FnScope nLNext ["model", "count", "place"] (defScope s_next) := ⟨rfl, rfl, rfl, by decide +kernel, rfl, by decide +kernel, by decide +kernel⟩
theorem ok_lnext {f : Addr} {fd : FuncData} (F : Fun K "_law_next" "_law_next" s_next f fd) (mLen : mg "len" = none) : FnOk P w K mg base CX0 1 f fd ["model", "count", "place"] spLNext := by
  refine F.ok sc_lnext (fun vs H Q E h => ?_) (fun cdv A outer s H vs Q E hr h => ?_)
  · obtain ⟨m, nb, tb, sb, pb, k, v, ends, dots, ss, ps, rows, o, n, rfl, _⟩ := h
    rfl
  · obtain ⟨m, nb, tb, sb, pb, k, v, ends, dots, ss, ps, rows, o, n, rfl, MS, hv, q⟩ := h
    have nd := sc_lnext.nd
    have hu := hu_of hr
    refine ⟨_, pss_cons (ps_set (i := 3) nd rfl (.inl rfl) (pe_dget hu (pv 0) pe_str (fun _ _ => rfl)))
      (pss_one (ps_ret (pe_ifExp (PW.pt (pw_and (pt_cmpR op_lt (pv 1) (pe_callB call_len (by rfl) mLen PySem.boot_len (pa_cons (pv 3) pa_nil)) (nomark _)) (pw_and1 (pt_cmpR op_eq (pe_ix ix_list (pv 3) (pv 1) (fun _ _ => rfl)) (pv 2) (nomark _))))) (pe_op op_add (pv 1) pe_int) (pv 1)))), ?_⟩
    refine ⟨.ref m, rfl, m, _, rfl, dgK MS.hm (mkS_marks _ _ _ _), ?_⟩
    refine ⟨.int k, rfl, .ref pb, rfl, .ref pb, (ps.map V.str).length, rfl, .inl ⟨_, Evl.sq_of MS.hp, rfl⟩, (k : Int), ((ps.map V.str).length : Int), rfl, rfl, _, rfl, ?_⟩
    by_cases lt : k < ps.length
    · rw [decide_eq_true (show (k : Int) < ((ps.map V.str).length : Int) by rw [List.length_map]; omega)]
      have gk : ps[k]? = some ps[k] := List.getElem?_eq_getElem lt
      have sc : scal (.str ps[k]) v = true := by rcases hv with rfl | ⟨y, rfl, _⟩ <;> rfl
      refine iteT ⟨.ref pb, rfl, .int k, rfl, pb, ps.map V.str, (k : Int), .str ps[k], rfl, rfl, Evl.sq_of MS.hp, atI_nat (by rw [List.getElem?_map, gk]; rfl), v, rfl, sc, _, rfl, ?_⟩
      by_cases e : V.str ps[k] = v
      · rw [decide_eq_true e]
        refine iteT ⟨.int k, rfl, (k : Int), 1, rfl, rfl, ?_⟩
        have q' : stepP ps k v = k + 1 := by unfold stepP; rw [gk]; exact if_pos e.symm
        rw [q'] at q
        exact q
      · rw [decide_eq_false e]
        refine iteF ⟨.int k, rfl, ?_⟩
        have q' : stepP ps k v = k := by unfold stepP; rw [gk]; exact if_neg fun z => e z.symm
        rw [q'] at q
        exact q
    · rw [decide_eq_false (show ¬ (k : Int) < ((ps.map V.str).length : Int) by rw [List.length_map]; omega)]
      refine iteF (iteF ⟨.int k, rfl, ?_⟩)
      have q' : stepP ps k v = k := by unfold stepP; rw [List.getElem?_eq_none (by omega)]
      rw [q'] at q
      exact q
end
end Rw
end T_WB

section T_RK
set_option Elab.async false
set_option linter.all false
set_option maxRecDepth 100000
set_option maxHeartbeats 16000000
namespace Rw
open PySem L2 PyProof.Rows
/-- the heap without one object -/
def woA (a : Addr) (H : Hp) : Hp := fun b => if b = a then none else H b
theorem woA_none {a : Addr} {H : Hp} : woA a H a = none := if_pos rfl
theorem woA_ne {a b : Addr} {H : Hp} (ne : b ≠ a) : woA a H b = H b := if_neg ne
theorem woA_ex (a : Addr) (H : Hp) : Evl.Ex (woA a H) H := fun b o h => by
  by_cases e : b = a
  · subst e
    rw [woA_none] at h
    cases h
  · rw [woA_ne e] at h
    exact h
/-! ### this law's own numbers -/
/-- a dict of lists of places that can be locked -/
structure MixU (H : Hp) (D : Addr) (ns : List Str) (f : Str → List V) : Prop where
  ex : ∃ rs : List (Str × V), H D = some (.dK (tkv rs)) ∧ rs.map (·.1) = ns ∧ ∀ q ∈ rs, ∃ a : Addr, q.2 = .ref a ∧ H a = some (.lst (f q.1))
theorem MixU.to {H H' : Hp} {D : Addr} {ns : List Str} {f : Str → List V} (M : MixU H D ns f) (x : Evl.Ex H H') : MixU H' D ns f := by
  obtain ⟨rs, h1, h2, h3⟩ := M.ex
  exact ⟨rs, x _ _ h1, h2, fun q hq => let ⟨a, e, h⟩ := h3 q hq; ⟨a, e, x _ _ h⟩⟩
theorem MixU.r {H : Hp} {D : Addr} {ns : List Str} {f : Str → List V} (M : MixU H D ns f) : MixR H D ns f := by
  obtain ⟨rs, h1, h2, h3⟩ := M.ex
  exact ⟨rs, .inl h1, h2, h3⟩
theorem MixAt.u {H0 H : Hp} {D : Addr} {ns : List Str} {f : Str → List V} (M : MixAt H0 H D ns f) : MixU H D ns f := by
  obtain ⟨rs, h1, h2, h3⟩ := M.ex
  exact ⟨rs, h1, h2, fun q hq => let ⟨a, e, _, h⟩ := h3 q hq; ⟨a, e, h⟩⟩
theorem wkey_at {rs : List (Str × V)} {dots : List Str} (h : rs.map (·.1) = dots) {i : Nat} {kk : Key} {v : V} (hkv : (tkv rs)[i]? = some (kk, v)) : ∃ z, dots[i]? = some z ∧ kk = Sum.inr z := by
  unfold tkv at hkv
  rw [List.getElem?_map] at hkv
  cases q : rs[i]? with
  | none => rw [q] at hkv; cases hkv
  | some t =>
    rw [q] at hkv
    exact ⟨t.1, by rw [← h, List.getElem?_map, q]; rfl, (congrArg Prod.fst (Option.some.inj hkv)).symm⟩
/-- a new paper of some nodes with small numbers -/
def Own (H0 H : Hp) (v : V) (ns : List Str) : Prop := ∃ (a : Addr) (dom : List Str) (g : Str → Nat), v = .ref a ∧ H0 a = none ∧ H a = some (.dK (tkv (nW dom g))) ∧ dom.Nodup ∧ (∀ z ∈ dom, z ∈ ns) ∧ ∀ z ∈ dom, g z ≤ 6
theorem dgU {H : Hp} {a : Addr} {kvs : List (Key × V)} {k : Key} (h : Rd H a (.dK kvs)) : DGet H a (kV k) (valV kvs k) := .inl ⟨kvs, k, h, rfl, rfl⟩
section
variable {P : Program} {w : World} {K : PySem.W.Frag} {mg : Str → Option Value} {base : Heap}
def spRanksU : Sp := fun vs H Q _ => ∃ (D : Addr) (ns dots : List Str) (f : Str → List V), vs = [.ref D] ∧ MixU H D ns f ∧ Webs dots f ∧ (∀ z ∈ ns, z ∈ dots) ∧ ns.Nodup ∧ ns.length ≤ 6 ∧ ∀ v H', Evl.Ex H H' → (v = .non ∨ Own H H' v ns) → Q v H'
abbrev nRanksU : List Str := ["web", "found", "step", "node", "later", "place"]
theorem sc_ranksU : FnScope nRanksU ["web"] (defScope s_ranks) := ⟨rfl, rfl, rfl, by decide +kernel, rfl, by decide +kernel, by decide +kernel⟩
theorem ok_ranksU {f : Addr} {fd : FuncData} (F : Fun K "_law_ranks" "_law_ranks" s_ranks f fd) (mMax : mg "max" = none) (mLen : mg "len" = none) : FnOk P w K mg base CX0 1 f fd ["web"] spRanksU := by
  refine F.ok sc_ranksU (fun vs H Q E h => ?_) (fun cdv A outer s H vs Q E hr h => ?_)
  · obtain ⟨D, ns, dots, f, rfl, _⟩ := h
    rfl
  · obtain ⟨D, ns, dots, f, rfl, M, W, nsd, dn, d6, k⟩ := h
    have nd := sc_ranksU.nd
    have hu := hu_of hr
    refine ⟨_, PSs.nox (pss_cons (ps_set (i := 1) nd rfl (.inr rfl) pe_dnewK)
      (pss_cons (ps_lock (ps_for PassesOwn.never rfl (pi_keys (pv 0)) (pg_name (i := 2) nd rfl (.inl rfl))
        (pss_one (ps_for PassesOwn.never rfl (pi_keys (pv 0)) (pg_name (i := 3) nd rfl (.inl rfl))
          (pss_cons (ps_setLc (i := 4) (own := [("place", 5)]) (g := gName 5) (tt := tB (tDInN (tVar 5) (tVar 0))) (te := tVar 5) (by rfl) nd rfl rfl (sw_true rfl rfl rfl (by decide +kernel)) (pi_list (pe_dget hu (pv 0) (pv 3) (fun _ _ => rfl))) (blkOk_by (own := [("place", 5)]) (N := nRanksU) (sc := defScope s_ranks) (by decide +kernel))
              (fun _ _ _ _ _ => pg_name (i := 5) nd rfl (Or.inl rfl)) (fun _ _ _ _ _ => pts_one (pt_cmp (pc_dinN hu (pv 5) (pv 0)) rfl)) (fun _ _ _ _ _ => pv 5))
          (pss_one (ps_if (PW.pt (pw_and (pt_cmp (pc_dnotin hu (pv 3) (pv 1)) rfl) (pw_and1 (pt_cmpR (op_eqD hr.units)
              (pe_lc (own := [("place", 5)]) (g := gName 5) (tt := tB (tDNotIn (tVar 5) (tVar 1))) (te := tVar 5) rfl nd (pi_list (pv 4)) (blkOk_by (own := [("place", 5)]) (N := nRanksU) (sc := defScope s_ranks) (by decide +kernel))
                (fun _ _ _ _ _ => pg_name (i := 5) nd rfl (Or.inl rfl)) (fun _ _ _ _ _ => pts_one (pt_cmp (pc_dnotin hu (pv 5) (pv 1)) rfl)) (fun _ _ _ _ _ => pv 5)) (pe_lst pa_nil) (nomark _)))))
            (pss_one (ps_dput hu (pv 1) (pv 3) (pe_callB (cr_max rfl) (by rfl) mMax (by decide +kernel) (pa_cons (pe_op op_cat (pe_lst (pa_cons pe_int pa_nil))
              (pe_lc (own := [("place", 5)]) (g := gName 5) (tt := tYes) (te := tOp (rI0 fun i j => V.int (i + j)) (tDGet (tVar 1) (tVar 5)) (tC (.int 1))) rfl nd (pi_list (pv 4)) (blkOk_by (own := [("place", 5)]) (N := nRanksU) (sc := defScope s_ranks) (by decide +kernel))
                (fun _ _ _ _ _ => pg_name (i := 5) nd rfl (Or.inl rfl)) (fun _ _ _ _ _ => pts_nil) (fun _ _ _ _ _ => pe_op op_add (pe_dget hu (pv 1) (pv 5) (fun _ _ => rfl)) pe_int))) pa_nil)) rfl)) pss_nil)))))))
      (pss_one (ps_ret (pe_ifExp (pt_cmpR op_eq (pe_callB call_lenD (by rfl) mLen PySem.boot_len (pa_cons (pv 1) pa_nil)) (pe_callB call_lenD (by rfl) mLen PySem.boot_len (pa_cons (pv 0) pa_nil)) (nomark _)) (pv 1) pe_non))))), ?_⟩
    obtain ⟨rs, r1, r2, r3⟩ := M.ex
    have rl : rs.length = ns.length := by rw [← r2, List.length_map]
    have tl : (tkv rs).length = ns.length := by rw [tkv_len, rl]
    -- found = {}
    refine fun Fd hF => ?_
    have FD : Fd ≠ D := (ne_of_none r1 hF).symm
    have y0 : Evl.Ex H (upd H Fd (.dK [])) := Evl.Ex.new hF
    have f0 : (upd H Fd (.dK [])) Fd = some (.dK (tkv (nW [] fun _ => 0))) := upd_same
    generalize upd H Fd (.dK []) = H1 at y0 f0
    have d0 := y0 _ _ r1
    refine ⟨D, .dK (tkv rs), d0, trivial, fun od => ?_⟩
    have lockB : (upd H1 D (.frz od (.dK (tkv rs)))) D = some (.frz od (.dK (tkv rs))) := upd_same
    have back : ∀ {H4 : Hp}, Evl.Ex (woA Fd (upd H1 D (.frz od (.dK (tkv rs))))) H4 → Evl.Ex (woA Fd H1) (upd H4 D (.dK (tkv rs))) := fun {H4} x b u h => by
      by_cases q : b = D
      · subst q
        rw [woA_ne FD.symm, d0] at h
        rw [upd_same]
        exact h
      · rw [upd_ne q]
        refine x _ _ ?_
        by_cases q2 : b = Fd
        · subst q2
          rw [woA_none] at h
          cases h
        · rw [woA_ne q2] at h ⊢
          rw [upd_ne q]
          exact h
    have r3B : ∀ q ∈ rs, ∃ a : Addr, q.2 = .ref a ∧ (woA Fd (upd H1 D (.frz od (.dK (tkv rs))))) a = some (.lst (f q.1)) := fun q hq => by
      obtain ⟨l, e1, e3⟩ := r3 q hq
      have h1 := y0 _ _ e3
      exact ⟨l, e1, by rw [woA_ne (ne_of_none e3 hF), upd_ne (ne_of h1 d0 (by intro z; cases z))]; exact h1⟩
    have lockW : (woA Fd (upd H1 D (.frz od (.dK (tkv rs))))) D = some (.frz od (.dK (tkv rs))) := by rw [woA_ne FD.symm]; exact lockB
    have fB : (upd H1 D (.frz od (.dK (tkv rs)))) Fd = some (.dK (tkv (nW [] fun _ => 0))) := by rw [upd_ne FD]; exact f0
    have nB : (woA Fd (upd H1 D (.frz od (.dK (tkv rs))))) Fd = none := woA_none
    have xB : Evl.Ex (woA Fd (upd H1 D (.frz od (.dK (tkv rs))))) (upd H1 D (.frz od (.dK (tkv rs)))) := woA_ex _ _
    generalize upd H1 D (.frz od (.dK (tkv rs))) = HL at lockB fB back r3B lockW nB xB
    generalize woA Fd HL = HB at back r3B lockW nB xB
    have MB : MixR HB D ns f := ⟨rs, .inr ⟨od, lockW⟩, r2, r3B⟩
    -- for step in web
    refine ⟨.ref D, rfl, D, od, rfl, .inl ⟨tkv rs, lockB, for_it walk_keys
      (fun i σ H' => ∃ (x6 x7 x8 : Option V) (dom : List Str) (g : Str → Nat), σ = [some (.ref D), some (.ref Fd), x6, x7, x8, none] ∧ Evl.Ex HB H' ∧ H' Fd = some (.dK (tkv (nW dom g))) ∧ dom.Nodup ∧ (∀ z ∈ dom, z ∈ ns) ∧ ∀ z ∈ dom, g z + 1 ≤ dom.length)
      ⟨none, none, none, [], _, rfl, xB, fB, List.nodup_nil, (fun z h => nomatch h), (fun z h => nomatch h)⟩ (fun i σ H' _ ⟨_, _, _, _, _, _, x, _⟩ => x _ _ lockW) ?_ ?_⟩⟩
    · rintro i x σ H2 H2' hi ⟨x6, x7, x8, dom0, g0, rfl, x2, f2, n2, s2, b2⟩ ⟨rfl, kk, v, hkv, rfl⟩
      -- for node in web
      refine ⟨.ref D, rfl, D, od, rfl, .inl ⟨tkv rs, x2 _ _ lockW, for_it walk_keys
        (fun j σ H' => ∃ (x7 x8 : Option V) (dom : List Str) (g : Str → Nat), σ = [some (.ref D), some (.ref Fd), some (kV kk), x7, x8, none] ∧ Evl.Ex HB H' ∧ H' Fd = some (.dK (tkv (nW dom g))) ∧ dom.Nodup ∧ (∀ z ∈ dom, z ∈ ns) ∧ ∀ z ∈ dom, g z + 1 ≤ dom.length)
        ⟨x7, x8, dom0, g0, rfl, x2, f2, n2, s2, b2⟩ (fun j σ H' _ ⟨_, _, _, _, _, x, _⟩ => x _ _ lockW) ?_ ?_⟩⟩
      · rintro j y0' σ H4 H4' hj ⟨y7, y8, dom, g, rfl, x4, f4, n4, s4, b4⟩ ⟨rfl, k2, v2, hkv2, rfl⟩
        rw [tl] at hj
        obtain ⟨z, hz, rfl⟩ := wkey_at r2 hkv2
        have zd := List.mem_of_getElem? hz
        have dl := nodup_le dom ns n4 s4
        obtain ⟨zl, hzl, hz3⟩ := (MB.to x4).get zd
        have f2l := W.two z (nsd z zd)
        have spz := W.sp z (nsd z zd)
        -- later
        refine ⟨.ref D, rfl, .str z, rfl, D, _, rfl, hzl, zl, rfl, ⟨_, Evl.sq_of hz3⟩, fun R hR => lc_list (K := K) (a := zl) (xs := f z)
          (fun i H' => Evl.Ex H4' H' ∧ H' R = some (.lst ((((f z).take i).filterMap (dotOf ns)).map V.str))) ⟨Evl.Ex.new hR, upd_same⟩ (fun i H' _ h => Evl.sq_of (h.1 _ _ hz3)) ?_ ?_⟩
        · rintro l v H6 hl ⟨x6', h6⟩
          have et : ((f z).take (l + 1)).filterMap (dotOf ns) = ((f z).take l).filterMap (dotOf ns) ++ (dotOf ns v).toList := by
            rw [List.take_add_one, hl, List.filterMap_append]
            show _ ++ List.filterMap _ [v] = _
            rw [List.filterMap_cons]
            cases dotOf ns v <;> rfl
          have sl : (((f z).take l).filterMap (dotOf ns)).length ≤ 2 := Nat.le_trans (List.length_filterMap_le _ _) (by rw [List.length_take]; omega)
          obtain ⟨rsM, hM1, _, _⟩ := (MB.to (x4.trans x6')).ex
          refine ⟨rfl, ?_⟩
          rcases spz v (List.mem_of_getElem? hl) with rfl | ⟨y, rfl, _⟩
          · refine ⟨.non, rfl, .ref D, rfl, .inr ⟨D, _, rfl, rfl, hM1, _, rfl, iteF ⟨x6', ?_⟩⟩⟩
            rw [h6, et]
            show some (HO.lst _) = some (HO.lst ((_ ++ []).map V.str))
            rw [List.append_nil]
          · obtain ⟨r, gr, er⟩ := (MB.to (x4.trans x6')).has y
            refine ⟨.str y, rfl, .ref D, rfl, .inl ⟨D, r, rfl, gr, _, rfl, ?_⟩⟩
            rw [er]
            by_cases m : y ∈ ns
            · rw [decide_eq_true m]
              refine iteT ⟨.str y, rfl, _, h6, by rw [List.length_map]; exact small1000 (by omega), x6'.mut hR, ?_⟩
              rw [upd_same, et, show dotOf ns (.str y) = some y from dotOf_some.mpr ⟨rfl, m⟩, List.map_append]
              rfl
            · rw [decide_eq_false m]
              refine iteF ⟨x6', ?_⟩
              rw [h6, et, show dotOf ns (.str y) = none from if_neg m]
              show some (HO.lst _) = some (HO.lst ((_ ++ []).map V.str))
              rw [List.append_nil]
        rintro H6 ⟨x6', h6⟩
        rw [List.take_length] at h6
        obtain ⟨ls, hls⟩ : ∃ ls, ls = (f z).filterMap (dotOf ns) := ⟨_, rfl⟩
        have h6' : H6 R = some (.lst (ls.map V.str)) := by rw [hls]; exact h6
        have lsl : ls.length ≤ 2 := by rw [hls]; exact Nat.le_trans (List.length_filterMap_le _ _) f2l
        have lnm : ∀ y ∈ ls, Nm y := fun y hy => by
          rw [hls] at hy
          obtain ⟨v, hv, e⟩ := List.mem_filterMap.mp hy
          obtain ⟨rfl, _⟩ := dotOf_some.mp e
          rcases spz _ hv with c | ⟨y', c, h⟩
          · cases c
          · cases c; exact h
        clear h6 hls
        have x46 := x4.trans x6'
        have f6 := x6' _ _ f4
        -- what is kept where nothing is put
        have stay : ∀ {Hx : Hp}, Evl.Ex H6 Hx → ∃ (x7 x8 : Option V) (dom' : List Str) (g' : Str → Nat), [some (V.ref D), some (.ref Fd), some (kV kk), some (.str z), some (.ref R), none] = [some (.ref D), some (.ref Fd), some (kV kk), x7, x8, none] ∧ Evl.Ex HB Hx ∧ Hx Fd = some (.dK (tkv (nW dom' g'))) ∧ dom'.Nodup ∧ (∀ z ∈ dom', z ∈ ns) ∧ ∀ z ∈ dom', g' z + 1 ≤ dom'.length := fun {Hx} x =>
          ⟨_, _, dom, g, rfl, x46.trans x, x _ _ f6, n4, s4, b4⟩
        -- node not in found and ..
        refine ⟨.str z, rfl, .ref Fd, rfl, Fd, _, rfl, dgU (k := Sum.inr z) (.inl f6), _, rfl, ?_⟩
        rw [nW_has]
        by_cases zi : z ∈ dom
        · rw [decide_eq_true zi]
          exact iteF (stay (Evl.Ex.refl _))
        rw [decide_eq_false zi]
        refine iteT ⟨.ref R, rfl, R, rfl, ⟨_, Evl.sq_of h6'⟩, fun R2 hR2 => lc_list (K := K) (a := R) (xs := ls.map V.str)
          (fun i H' => Evl.Ex H6 H' ∧ H' R2 = some (.lst (((ls.take i).filter fun y => decide (y ∉ dom)).map V.str))) ⟨Evl.Ex.new hR2, upd_same⟩ (fun i H' _ h => Evl.sq_of (h.1 _ _ h6')) ?_ ?_⟩
        · rintro l y1 H7 hl ⟨x7', h7⟩
          obtain ⟨y, hy, rfl⟩ := str_at hl
          have et1 : ls.take (l + 1) = ls.take l ++ [y] := by rw [List.take_add_one, hy]; rfl
          refine ⟨rfl, .str y, rfl, .ref Fd, rfl, Fd, _, rfl, dgU (k := Sum.inr y) (.inl (x7' _ _ f6)), _, rfl, ?_⟩
          rw [nW_has]
          by_cases q : y ∈ dom
          · rw [decide_eq_true q]
            refine iteF ⟨x7', ?_⟩
            rw [h7, et1, List.filter_append, List.filter_cons_of_neg (by rw [decide_eq_false (not_not_intro q)]; decide), List.filter_nil, List.append_nil]
          · rw [decide_eq_false q]
            refine iteT ⟨.str y, rfl, _, h7, by rw [List.length_map]; exact small1000 (Nat.le_trans (List.length_filter_le _ _) (by rw [List.length_take]; omega)), x7'.mut hR2, ?_⟩
            rw [upd_same, et1, List.filter_append, List.filter_cons_of_pos (by rw [decide_eq_true q]), List.filter_nil, List.map_append]
            rfl
        rintro H7 ⟨x7', h7⟩
        rw [List.length_map, List.take_length] at h7
        obtain ⟨un, hun⟩ : ∃ un, un = ls.filter fun y => decide (y ∉ dom) := ⟨_, rfl⟩
        rw [← hun] at h7
        refine ⟨by show 0 ≤ sizeLine; decide, fun e0 he0 => ?_⟩
        have x8' : Evl.Ex H7 (upd H7 e0 (.lst [])) := Evl.Ex.new he0
        have un8 := x8' _ _ h7
        obtain ⟨dd, g1', g2', g3'⟩ := data_list (K := K) (Evl.sq_of un8) fun v hv => by
          obtain ⟨y, hy, rfl⟩ := List.mem_map.mp hv
          rw [hun] at hy
          exact nm_data (lnm y (List.mem_filter.mp hy).1)
        refine ⟨dd, .list [], g1', .lst (Evl.sq_of upd_same) .nil, g2', by rfl, ?_⟩
        rw [g3', show (un.map V.str).isEmpty = un.isEmpty by cases un <;> rfl]
        have x68 := x7'.trans x8'
        generalize upd H7 e0 (.lst []) = H8 at x8' x68
        refine ⟨_, rfl, ?_⟩
        by_cases all : ∀ y ∈ ls, y ∈ dom
        · have eu : un = [] := by
            rw [hun, List.filter_eq_nil_iff]
            intro y hy
            rw [decide_eq_false (not_not_intro (all y hy))]
            decide
          rw [eu]
          refine iteT ?_
          -- found[node] = max([0] + [..])
          refine ⟨by show 1 ≤ sizeLine; decide, fun p1 hp1 => ?_⟩
          have x9 : Evl.Ex H8 (upd H8 p1 (.lst [.int 0])) := Evl.Ex.new hp1
          have q1 : (upd H8 p1 (.lst [.int 0])) p1 = some (.lst [.int 0]) := upd_same
          generalize upd H8 p1 (.lst [.int 0]) = H9 at x9 q1
          have x69 := x68.trans x9
          refine ⟨.ref R, rfl, R, rfl, ⟨_, Evl.sq_of (x69 _ _ h6')⟩, fun R3 hR3 => lc_list (K := K) (a := R) (xs := ls.map V.str)
            (fun i H' => Evl.Ex H9 H' ∧ H' R3 = some (.lst (((ls.take i).map fun y => (g y : Int) + 1).map V.int))) ⟨Evl.Ex.new hR3, upd_same⟩ (fun i H' _ h => Evl.sq_of (h.1 _ _ (x69 _ _ h6'))) ?_ ?_⟩
          · rintro l y1 HA hl ⟨xA, hA⟩
            obtain ⟨y, hy, rfl⟩ := str_at hl
            have et2 : ls.take (l + 1) = ls.take l ++ [y] := by rw [List.take_add_one, hy]; rfl
            have gy := nW_get (dom := dom) (g := g) (all y (List.mem_of_getElem? hy))
            refine ⟨rfl, yes_if ?_⟩
            refine ⟨.ref Fd, rfl, .str y, rfl, Fd, _, rfl, dgR (k := Sum.inr y) (.inl (xA _ _ (x69 _ _ f6))) gy, _, _, rfl, rfl, _, hA, by rw [List.length_map, List.length_map, List.length_take]; exact small1000 (by omega), xA.mut hR3, ?_⟩
            rw [upd_same, et2, List.map_append, List.map_append]
            rfl
          rintro HA ⟨xA, hA⟩
          rw [List.length_map, List.take_length] at hA
          refine ⟨p1, R3, [.int 0], _, rfl, rfl, xA _ _ q1, hA, Nat.le_of_lt (small1000 (by rw [List.length_map, List.length_map]; show 1 + ls.length ≤ 1000; omega)), fun p3 hp3 => ?_⟩
          have xB : Evl.Ex HA (upd HA p3 (.lst ([.int 0] ++ (ls.map fun y => (g y : Int) + 1).map V.int))) := Evl.Ex.new hp3
          have qB : (upd HA p3 (.lst ([.int 0] ++ (ls.map fun y => (g y : Int) + 1).map V.int))) p3 = some (.lst ((0 :: ls.map fun y => (g y : Int) + 1).map V.int)) := upd_same
          generalize upd HA p3 (.lst ([.int 0] ++ (ls.map fun y => (g y : Int) + 1).map V.int)) = HC at xB qB
          have x6C := x69.trans (xA.trans xB)
          refine ⟨p3, 0 :: ls.map fun y => (g y : Int) + 1, rfl, Evl.sq_of qB, by rw [List.length_cons]; omega, fun mx m1 m2 => ?_⟩
          obtain ⟨mn, rfl, mb⟩ : ∃ mn : Nat, mx = (mn : Int) ∧ mn ≤ dom.length := by
            rcases List.mem_cons.mp m1 with e | m1
            · exact ⟨0, e, Nat.zero_le _⟩
            · obtain ⟨y, hy, e⟩ := List.mem_map.mp m1
              exact ⟨g y + 1, by rw [← e]; rfl, b4 y (all y hy)⟩
          refine ⟨.ref Fd, rfl, .str z, rfl, Fd, _, rfl, DPut.k (k := Sum.inr z) (x6C _ _ f6) (by rw [tkv_len, nW_len]; exact small1000 (by omega)), ?_⟩
          refine ⟨_, _, dom ++ [z], putG g z mn, rfl, (x46.trans x6C).mut nB, by rw [upd_same, nW_new zi], ?_, fun y hy => ?_, fun y hy => ?_⟩
          · rw [List.nodup_append]
            exact ⟨n4, by simp, fun a ha b hb e => zi (by rw [List.mem_singleton.mp hb] at e; exact e ▸ ha)⟩
          · rcases List.mem_append.mp hy with hy | hy
            · exact s4 y hy
            · rw [List.mem_singleton.mp hy]; exact zd
          · rw [List.length_append, List.length_singleton]
            by_cases e : y = z
            · rw [e, putG_at]; omega
            · rw [putG_ne e]
              rcases List.mem_append.mp hy with hy | hy
              · have := b4 y hy
                omega
              · exact absurd (List.mem_singleton.mp hy) e
        · have eu : un.isEmpty = false := by
            cases hu2 : un with
            | nil =>
              refine absurd (fun y hy => Decidable.byContradiction fun c => ?_) all
              have m : y ∈ un := by rw [hun]; exact List.mem_filter.mpr ⟨hy, decide_eq_true c⟩
              rw [hu2] at m
              cases m
            | cons _ _ => rfl
          rw [eu]
          exact iteF (stay x68)
      · rintro σ H4 ⟨y7, y8, dom, g, rfl, x4, f4, n4, s4, b4⟩
        exact ⟨_, y7, y8, dom, g, rfl, x4, f4, n4, s4, b4⟩
    · rintro σ H4 ⟨x6, x7, x8, dom, g, rfl, x4, f4, n4, s4, b4⟩
      refine ⟨x4 _ _ lockW, ?_⟩
      have x5 := back x4
      have f5 : (upd H4 D (.dK (tkv rs))) Fd = some (.dK (tkv (nW dom g))) := by rw [upd_ne FD]; exact f4
      have d5 : (upd H4 D (.dK (tkv rs))) D = some (.dK (tkv rs)) := upd_same
      have xH : Evl.Ex H (upd H4 D (.dK (tkv rs))) := fun b u h => x5 _ _ (by rw [woA_ne (ne_of_none h hF)]; exact y0 _ _ h)
      generalize upd H4 D (.dK (tkv rs)) = H5 at xH f5 d5
      refine ⟨.ref Fd, rfl, Fd, _, rfl, f5, .ref D, rfl, D, _, rfl, d5, rfl, _, rfl, ite2 (fun _ => ?_) (fun _ => ?_)⟩
      · have dl := nodup_le dom ns n4 s4
        exact ⟨.ref Fd, rfl, k (.ref Fd) H5 xH (.inr ⟨Fd, dom, g, rfl, hF, f5, n4, s4, fun z hz => by have := b4 z hz; omega⟩)⟩
      · exact k .non H5 xH (.inl rfl)
end
end Rw
end T_RK

section T_NL
set_option Elab.async false
set_option linter.all false
set_option maxRecDepth 100000
set_option maxHeartbeats 16000000
namespace Rw
open PySem L2 PyProof.Rows
theorem MixU.lock {H : Hp} {D : Addr} {ns : List Str} {f : Str → List V} (M : MixU H D ns f) : ∃ rs : List (Str × V), H D = some (.dK (tkv rs)) ∧ rs.map (·.1) = ns ∧ ∀ od, MixR (upd H D (.frz od (.dK (tkv rs)))) D ns f := by
  obtain ⟨rs, h1, h2, h3⟩ := M.ex
  refine ⟨rs, h1, h2, fun od => ⟨rs, .inr ⟨od, upd_same⟩, h2, fun q hq => ?_⟩⟩
  obtain ⟨l, e1, e3⟩ := h3 q hq
  exact ⟨l, e1, by rw [upd_ne (ne_of e3 h1 (by intro z; cases z))]; exact e3⟩
theorem back_lock {H : Hp} {D : Addr} {u v : HO} (h0 : H D = some u) {Hx : Hp} (x : Evl.Ex (upd H D v) Hx) : Evl.Ex H (upd Hx D u) := fun b o h => by
  by_cases z : b = D
  · subst z
    rw [upd_same, ← h0, h]
  · rw [upd_ne z]
    exact x _ _ (by rw [upd_ne z]; exact h)
theorem behind_nd {dots : List Str} {f : Str → List V} {z : Str} (h : (f z).Nodup) : (behind dots f z).Nodup := by
  unfold behind
  generalize f z = l at h ⊢
  induction l with
  | nil => exact List.nodup_nil
  | cons v l ih =>
    obtain ⟨h1, h2⟩ := List.nodup_cons.mp h
    rw [List.filterMap_cons]
    cases e : dotOf dots v with
    | none => exact ih h2
    | some y =>
      refine List.nodup_cons.mpr ⟨fun c => ?_, ih h2⟩
      obtain ⟨u, hu, eu⟩ := List.mem_filterMap.mp c
      rw [(dotOf_some.mp e).1, ← (dotOf_some.mp eu).1] at h1
      exact h1 hu
section
variable {P : Program} {w : World} {K : PySem.W.Frag} {mg : Str → Option Value} {base : Heap}
/-! ### the nodes that are reached -/
def spNearU : Sp := fun vs H Q _ => ∃ (D sb : Addr) (ss dots : List Str) (f : Str → List V), vs = [.ref D, .ref sb] ∧ MixU H D dots f ∧ Webs dots f ∧ dots.Nodup ∧ dots.length ≤ 6 ∧ H sb = some (.lst (ss.map V.str)) ∧ ss.Nodup ∧ (∀ z ∈ ss, z ∈ dots) ∧
  ∀ (l : Addr) (ns : List Str) (H' : Hp), Evl.Ex H H' → H' l = some (.lst (ns.map V.str)) → ns.Nodup → (∀ z ∈ ns, z ∈ dots) → Q (.ref l) H'
abbrev nNearU : List Str := ["web", "starts_v", "found", "step", "node", "place"]
theorem sc_nearU : FnScope nNearU ["web", "starts_v"] (defScope s_near) := ⟨rfl, rfl, rfl, by decide +kernel, rfl, by decide +kernel, by decide +kernel⟩
theorem ok_nearU {f : Addr} {fd : FuncData} (F : Fun K "_law_near" "_law_near" s_near f fd) (mList : mg "list" = none) (mSorted : mg "sorted" = none) (mSet : mg "set" = none) : FnOk P w K mg base CX0 1 f fd ["web", "starts_v"] spNearU := by
  refine F.ok sc_nearU (fun vs H Q E h => ?_) (fun cdv A outer s H vs Q E hr h => ?_)
  · obtain ⟨D, sb, ss, dots, f, rfl, _⟩ := h
    rfl
  · obtain ⟨D, sb, ss, dots, f, rfl, M, W, dn, d6, hs, sn, sd, k⟩ := h
    have nd := sc_nearU.nd
    have hu := hu_of hr
    refine ⟨_, PSs.nox (pss_cons (ps_set (i := 2) nd rfl (.inr rfl) (pe_callTy call_list_of (by rfl) mList (by decide +kernel) (pa_cons (pv 1) pa_nil)))
      (pss_cons (ps_lock (ps_for PassesOwn.never rfl (pi_keys (pv 0)) (pg_name (i := 3) nd rfl (.inl rfl))
        (pss_one (ps_for PassesOwn.never rfl (pi_list (pe_callTy call_list_of (by rfl) mList (by decide +kernel) (pa_cons (pv 2) pa_nil))) (pg_name (i := 4) nd rfl (.inl rfl))
          (pss_one (ps_set (i := 2) nd rfl (.inr rfl) (pe_op op_cat (pv 2)
            (pe_lc (own := [("place", 5)]) (g := gName 5) (tt := tAnd (tB (tDInN (tVar 5) (tVar 0))) (tTest (tOp (rIn K true) (tVar 5) (tVar 2)))) (te := tVar 5) rfl nd (pi_list (pe_dget hu (pv 0) (pv 4) (fun _ _ => rfl))) (blkOk_by (own := [("place", 5)]) (N := nNearU) (sc := defScope s_near) (by decide +kernel))
              (fun _ _ _ _ _ => pg_name (i := 5) nd rfl (Or.inl rfl)) (fun _ _ _ _ _ => pts_one (PW.pt (pw_and (pt_cmp (pc_dinN hu (pv 5) (pv 0)) rfl) (pw_and1 (pt_cmpR op_notIn_seq (pv 5) (pv 2) rfl))))) (fun _ _ _ _ _ => pv 5)))))))))
      (pss_one (ps_ret (pe_callB (cr_sortedX rfl) (by rfl) mSorted (by decide +kernel) (pa_cons (pe_callTy (cr_setX rfl) (by rfl) mSet (by decide +kernel) (pa_cons (pv 2) pa_nil)) pa_nil)))))), ?_⟩
    have fewD : ∀ xs : List Str, xs.Nodup → (∀ z ∈ xs, z ∈ dots) → xs.length ≤ 6 := fun xs h1 h2 => Nat.le_trans (nodup_le xs dots h1 h2) d6
    refine ⟨.ref sb, rfl, sb, _, rfl, .inl (Evl.sq_of hs), fun f0 hf0 => ?_⟩
    have y1 : Evl.Ex H (upd H f0 (.lst (ss.map V.str))) := Evl.Ex.new hf0
    have q1 : (upd H f0 (.lst (ss.map V.str))) f0 = some (.lst (ss.map V.str)) := upd_same
    generalize upd H f0 (.lst (ss.map V.str)) = H1 at y1 q1
    obtain ⟨rs, r1, r2, lk⟩ := (M.to y1).lock
    refine ⟨D, .dK (tkv rs), r1, trivial, fun od => ?_⟩
    have locked : (upd H1 D (.frz od (.dK (tkv rs)))) D = some (.frz od (.dK (tkv rs))) := upd_same
    have ML := lk od
    have qL : (upd H1 D (.frz od (.dK (tkv rs)))) f0 = some (.lst (ss.map V.str)) := by rw [upd_ne (ne_of q1 r1 (by intro z; cases z))]; exact q1
    have back : ∀ {Hx : Hp}, Evl.Ex (upd H1 D (.frz od (.dK (tkv rs)))) Hx → Evl.Ex H1 (upd Hx D (.dK (tkv rs))) := back_lock r1
    generalize upd H1 D (.frz od (.dK (tkv rs))) = HL at locked ML qL back
    refine ⟨.ref D, rfl, D, od, rfl, .inl ⟨_, locked, for_it walk_keys
      (fun i σ H' => ∃ (x3 x4 : Option V) (fa : Addr) (xs : List Str), σ = [some (.ref D), some (.ref sb), some (.ref fa), x3, x4, none] ∧ Evl.Ex HL H' ∧ H' fa = some (.lst (xs.map V.str)) ∧ xs.Nodup ∧ ∀ z ∈ xs, z ∈ dots)
      ⟨none, none, f0, ss, rfl, Evl.Ex.refl _, qL, sn, sd⟩ (fun i σ H' _ ⟨_, _, _, _, _, x, _⟩ => x _ _ locked) ?_ ?_⟩⟩
    · rintro i x σ H2 H2' hi ⟨x3, x4, fa, xs, rfl, x2, fh, xn, xd⟩ ⟨rfl, kk, v, hkv, rfl⟩
      refine ⟨.ref fa, rfl, fa, _, rfl, .inl (Evl.sq_of fh), fun l0 hl0 => ?_⟩
      have y3 : Evl.Ex H2' (upd H2' l0 (.lst (xs.map V.str))) := Evl.Ex.new hl0
      have q3 : (upd H2' l0 (.lst (xs.map V.str))) l0 = some (.lst (xs.map V.str)) := upd_same
      generalize upd H2' l0 (.lst (xs.map V.str)) = H3 at y3 q3
      have x03 := x2.trans y3
      have f3 := y3 _ _ fh
      refine ⟨l0, rfl, ⟨_, Evl.sq_of q3⟩, for_list (K := K) (a := l0) (xs := xs.map V.str)
        (fun j σ H' => ∃ (x4 : Option V) (fa : Addr) (ws : List Str), σ = [some (.ref D), some (.ref sb), some (.ref fa), some (kV kk), x4, none] ∧ Evl.Ex H3 H' ∧ H' fa = some (.lst (ws.map V.str)) ∧ ws.Nodup ∧ ∀ z ∈ ws, z ∈ dots)
        ⟨x4, fa, xs, rfl, Evl.Ex.refl _, f3, xn, xd⟩ (fun i σ H' _ ⟨_, _, _, _, x, _⟩ => Evl.sq_of (x _ _ q3)) ?_ ?_⟩
      · rintro j v' σ H4 hj ⟨x4', fb, ws, rfl, x4h, f4, wn, wd⟩
        obtain ⟨z, hz, rfl⟩ := str_at hj
        have zd := xd z (List.mem_of_getElem? hz)
        have x04 := x03.trans x4h
        obtain ⟨zl, gz, hzl⟩ := (ML.to x04).get zd
        have spz := W.sp z zd
        refine ⟨.ref fb, rfl, .ref D, rfl, .str z, rfl, D, _, rfl, gz, zl, rfl, ⟨_, Evl.sq_of hzl⟩, fun R hR => lc_list (K := K) (a := zl) (xs := f z)
          (fun i H' => Evl.Ex H4 H' ∧ H' R = some (.lst (((((f z).take i).filterMap (dotOf dots)).filter fun y => decide (y ∉ ws)).map V.str))) ⟨Evl.Ex.new hR, upd_same⟩ (fun i H' _ h => Evl.sq_of (h.1 _ _ hzl)) ?_ ?_⟩
        · rintro l v H6 hl ⟨x6', h6⟩
          have et : (((f z).take (l + 1)).filterMap (dotOf dots)).filter (fun y => decide (y ∉ ws)) = (((f z).take l).filterMap (dotOf dots)).filter (fun y => decide (y ∉ ws)) ++ (dotOf dots v).toList.filter (fun y => decide (y ∉ ws)) := by
            have e1 : List.filterMap (dotOf dots) (some v).toList = (dotOf dots v).toList := by
              show List.filterMap _ [v] = _
              rw [List.filterMap_cons]
              cases dotOf dots v <;> rfl
            rw [List.take_add_one, hl, List.filterMap_append, List.filter_append, e1]
          have sl : ((((f z).take l).filterMap (dotOf dots)).filter fun y => decide (y ∉ ws)).length ≤ 2 := Nat.le_trans (List.length_filter_le _ _) (Nat.le_trans (List.length_filterMap_le _ _) (by have := W.two z zd; rw [List.length_take]; omega))
          obtain ⟨rsM, hM1, _, _⟩ := (ML.to (x04.trans x6')).ex
          refine ⟨rfl, ?_⟩
          rcases spz v (List.mem_of_getElem? hl) with rfl | ⟨y, rfl, _⟩
          · refine ⟨.non, rfl, .ref D, rfl, .inr ⟨D, _, rfl, rfl, hM1, _, rfl, iteF ⟨x6', ?_⟩⟩⟩
            rw [h6, et]
            show some (HO.lst _) = some (HO.lst ((_ ++ []).map V.str))
            rw [List.append_nil]
          · obtain ⟨r, gr, er⟩ := (ML.to (x04.trans x6')).has y
            refine ⟨.str y, rfl, .ref D, rfl, .inl ⟨D, r, rfl, gr, _, rfl, ?_⟩⟩
            rw [er]
            by_cases m : y ∈ dots
            · rw [decide_eq_true m]
              refine iteT ⟨.str y, rfl, .ref fb, rfl, fb, ws.map V.str, rfl, .inl (Evl.sq_of (x6' _ _ f4)), rfl, flat_strs _, _, rfl, ?_⟩
              rw [inV_str]
              by_cases my : y ∈ ws
              · rw [decide_eq_true my]
                refine iteF ⟨x6', ?_⟩
                rw [h6, et, show dotOf dots (.str y) = some y from dotOf_some.mpr ⟨rfl, m⟩]
                show some (HO.lst _) = some (HO.lst ((_ ++ List.filter _ [y]).map V.str))
                rw [List.filter_cons_of_neg (by rw [decide_eq_false (not_not_intro my)]; decide), List.filter_nil, List.append_nil]
              · rw [decide_eq_false my]
                refine iteT ⟨.str y, rfl, _, h6, by rw [List.length_map]; exact small1000 (by omega), x6'.mut hR, ?_⟩
                rw [upd_same, et, show dotOf dots (.str y) = some y from dotOf_some.mpr ⟨rfl, m⟩]
                show some (HO.lst _) = some (HO.lst ((_ ++ List.filter _ [y]).map V.str))
                rw [List.filter_cons_of_pos (p := fun y => decide (y ∉ ws)) (decide_eq_true my), List.filter_nil, List.map_append]
                rfl
            · rw [decide_eq_false m]
              refine iteF ⟨x6', ?_⟩
              rw [h6, et, show dotOf dots (.str y) = none from if_neg m]
              show some (HO.lst _) = some (HO.lst ((_ ++ []).map V.str))
              rw [List.append_nil]
        rintro H6 ⟨x6', h6⟩
        rw [List.take_length] at h6
        obtain ⟨ls, hls⟩ : ∃ ls, ls = (behind dots f z).filter fun y => decide (y ∉ ws) := ⟨_, rfl⟩
        have h6' : H6 R = some (.lst (ls.map V.str)) := by rw [hls]; exact h6
        have ln : ls.Nodup := by rw [hls]; exact (behind_nd (W.nd z zd)).filter _
        have ld : ∀ y ∈ ls, y ∈ dots ∧ y ∉ ws := fun y hy => by
          rw [hls] at hy
          obtain ⟨h1, h2⟩ := List.mem_filter.mp hy
          exact ⟨(mem_behind.mp h1).2, of_decide_eq_true h2⟩
        have wsl := fewD ws wn wd
        have lsl := fewD ls ln fun y hy => (ld y hy).1
        clear h6 hls
        refine ⟨fb, R, _, _, rfl, rfl, x6' _ _ f4, h6', Nat.le_of_lt (small1000 (by rw [List.length_map, List.length_map]; omega)), fun p3 hp3 => ?_⟩
        refine ⟨_, p3, ws ++ ls, rfl, (x4h.trans x6').trans (Evl.Ex.new hp3), by rw [upd_same, List.map_append], ?_, fun y hy => ?_⟩
        · rw [List.nodup_append]
          exact ⟨wn, ln, fun a ha b hb e => (ld b hb).2 (e ▸ ha)⟩
        · rcases List.mem_append.mp hy with hy | hy
          · exact wd y hy
          · exact (ld y hy).1
      · rintro σ H4 ⟨x4', fb, ws, rfl, x4h, f4, wn, wd⟩
        exact ⟨_, x4', fb, ws, rfl, x03.trans x4h, f4, wn, wd⟩
    · rintro σ H2 ⟨x3, x4, fa, xs, rfl, x2, fh, xn, xd⟩
      refine ⟨x2 _ _ locked, ?_⟩
      have x12 := y1.trans (back x2)
      have f2 : (upd H2 D (.dK (tkv rs))) fa = some (.lst (xs.map V.str)) := by rw [upd_ne (ne_of fh (x2 _ _ locked) (by intro z; cases z))]; exact fh
      generalize upd H2 D (.dK (tkv rs)) = H3 at x12 f2
      have xl := fewD xs xn xd
      refine ⟨.ref fa, rfl, fa, xs, rfl, .inl (Evl.sq_of f2), by omega, fun p hp => ?_⟩
      have y6 := Evl.Ex.new (o := SetXO w p (seen xs)) hp
      refine ⟨p, seen xs, rfl, upd_same, by rw [seen_len xn]; omega, fun ws l hws hso hl => ?_⟩
      have pw := hws.trans (seen_perm xn)
      exact k l ws _ (x12.trans (y6.trans (Evl.Ex.new hl))) upd_same (pw.nodup_iff.mpr xn) fun z hz => xd z (pw.mem_iff.mp hz)
end
end Rw
end T_NL

section T_LE
set_option Elab.async false
set_option linter.all false
set_option maxRecDepth 100000
set_option maxHeartbeats 16000000
namespace Rw
open PySem L2 PyProof.Rows
section
variable {P : Program} {w : World} {K : PySem.W.Frag} {mg : Str → Option Value} {base : Heap}
/-! ### the least numbers of posts -/
def spLeastU : Sp := fun vs H Q _ => ∃ (m D nb tb sb pb : Addr) (f : Str → List V) (ends dots ss ps : List Str) (rows : List (Str × V)) (o n : Str → List (Str × V)), vs = [.ref m, .ref D] ∧ ModelR H m nb tb sb pb ends dots ss ps rows o n ∧ MixU H D dots f ∧ Webs dots f ∧
  ∀ v H', Evl.Ex H H' → Own H H' v dots → Q v H'
abbrev nLeastU : List Str := ["model", "web", "found", "step", "node", "place", "count", "start"]
theorem sc_leastU : FnScope nLeastU ["model", "web"] (defScope s_least) := ⟨rfl, rfl, rfl, by decide +kernel, rfl, by decide +kernel, by decide +kernel⟩
theorem ok_leastU {f : Addr} {fd : FuncData} (F : Fun K "_law_least" "_law_least" s_least f fd) (C1 : Cal P w K mg base 1 "_law_next" ["model", "count", "place"] spLNext) (mDict : mg "dict" = none) (mRange : mg "range" = none) (mLen : mg "len" = none) (mList : mg "list" = none) (mMin : mg "min" = none) : FnOk P w K mg base CX0 2 f fd ["model", "web"] spLeastU := by
  obtain ⟨f1, fd1, F1, k1, b1, g1⟩ := C1.ex
  refine F.ok sc_leastU (fun vs H Q E h => ?_) (fun cdv A outer s H vs Q E hr h => ?_)
  · obtain ⟨m, D, nb, tb, sb, pb, f, ends, dots, ss, ps, rows, o, n, rfl, _⟩ := h
    rfl
  · obtain ⟨m, D, nb, tb, sb, pb, f, ends, dots, ss, ps, rows, o, n, rfl, MS, M, W, k⟩ := h
    have nd := sc_leastU.nd
    have hu := hu_of hr
    refine ⟨_, pss_cons (ps_set (i := 2) nd rfl (.inl rfl) (pe_callTy (call_dictP rfl) (by rfl) mDict (by decide +kernel) (pa_cons
        (pe_lc (own := [("start", 7)]) (g := gName 7) (tt := tYes) (te := tTup (tCons (tVar 7) (tCons (tCall spLNext [] E0 (tCons (tVar 0) (tCons (tC (.int 0)) (tCons (tVar 7) tNil)))) tNil))) rfl nd (pi_list (pe_dget hu (pv 0) pe_str (fun _ _ => rfl))) (blkOk_by (own := [("start", 7)]) (N := nLeastU) (sc := defScope s_least) (by decide +kernel))
          (fun _ _ _ _ _ => pg_name (i := 7) nd rfl (Or.inl rfl)) (fun _ _ _ _ _ => pts_nil) (fun _ _ _ _ _ => pe_tup (pa_cons (pv 7) (pa_cons (pe_call F1 hr rfl g1 k1 b1 .nil pass0 (pa_cons (pv 0) (pa_cons pe_int (pa_cons (pv 7) pa_nil)))) pa_nil)))) pa_nil)))
      (pss_cons (ps_for PassesOwn.never rfl (pi_range1 (by rfl) mRange (pa_cons (pe_op op_mul pe_int (pe_callB call_lenD (by rfl) mLen PySem.boot_len (pa_cons (pv 1) pa_nil))) pa_nil)) (pg_name (i := 3) nd rfl (.inl rfl))
        (pss_one (ps_for PassesOwn.never rfl (pi_list (pe_callTy (call_listD rfl) (by rfl) mList (by decide +kernel) (pa_cons (pv 2) pa_nil))) (pg_name (i := 4) nd rfl (.inl rfl))
          (pss_one (ps_for PassesOwn.never rfl (pi_list (pe_dget hu (pv 1) (pv 4) (fun _ _ => rfl))) (pg_name (i := 5) nd rfl (.inl rfl))
            (pss_one (ps_if (pt_cmp (pc_dinN hu (pv 5) (pv 1)) rfl)
              (pss_cons (ps_set (i := 6) nd rfl (.inl rfl) (pe_call F1 hr rfl g1 k1 b1 .nil pass0 (pa_cons (pv 0) (pa_cons (pe_dget hu (pv 2) (pv 4) (fun _ _ => rfl)) (pa_cons (pv 5) pa_nil)))))
              (pss_one (ps_dput hu (pv 2) (pv 5) (pe_callB (call_min2 rfl) (by rfl) mMin (by decide +kernel) (pa_cons (pe_dget2 hu (pv 2) (pv 5) pe_int ⟨rfl, rfl, rfl, rfl⟩) (pa_cons (pv 6) pa_nil))) rfl))) pss_nil)))))))
      (pss_one (ps_ret (pv 2)))), ?_⟩
    have ok := MS.ok
    have d6 := ok.d6
    have p2 := ok.p2
    have sl : ss.length ≤ 6 := Nat.le_trans (nodup_le ss dots ok.sn ok.sd) d6
    obtain ⟨rs, r1, r2, r3⟩ := M.ex
    have rl : (tkv rs).length = dots.length := by rw [tkv_len, ← r2, List.length_map]
    obtain ⟨g0, hg0⟩ : ∃ g0 : Str → Nat, g0 = fun z => stepP ps 0 (.str z) := ⟨_, rfl⟩
    refine ⟨.ref m, rfl, m, _, rfl, dgK MS.hm (mkS_starts _ _ _ _), sb, rfl, ⟨_, Evl.sq_of MS.hs⟩, fun R hR => lc_list (K := K) (a := sb) (xs := ss.map V.str)
      (fun i H' => Evl.Ex H H' ∧ ∃ as : List Addr, H' R = some (.lst (as.map V.ref)) ∧ Paired (fun p kv => H' p = some (.tup [kV kv.1, kv.2])) as (tkv (nW (ss.take i) g0)))
      ⟨Evl.Ex.new hR, [], upd_same, .nil⟩ (fun i H' _ h => Evl.sq_of (h.1 _ _ MS.hs)) ?_ ?_⟩
    · rintro i v H1 hi ⟨x1, as, a1, pr⟩
      obtain ⟨z, hz, rfl⟩ := str_at hi
      have zS := List.mem_of_getElem? hz
      refine ⟨rfl, yes_if ⟨.str z, rfl, .ref m, rfl, .str z, rfl, m, nb, tb, sb, pb, 0, .str z, ends, dots, ss, ps, rows, o, n, rfl, MS.to x1, .inr ⟨z, rfl, ok.dm z (ok.sd z zS)⟩, by show 2 ≤ sizeLine; decide, fun t ht => ?_⟩⟩
      have y1 : Evl.Ex H1 (upd H1 t (.tup [.str z, .int (stepP ps 0 (.str z) : Int)])) := Evl.Ex.new ht
      have t1 : (upd H1 t (.tup [.str z, .int (stepP ps 0 (.str z) : Int)])) t = some (.tup [.str z, .int (stepP ps 0 (.str z) : Int)]) := upd_same
      generalize upd H1 t (.tup [.str z, .int (stepP ps 0 (.str z) : Int)]) = H2 at y1 t1
      have a2 := y1 _ _ a1
      have asl : as.length ≤ 6 := by
        have h3 := pr.length
        rw [tkv_len, nW_len, List.length_take] at h3
        omega
      have stay : ∀ {a : Addr} {xs ws : List V}, H2 a = some (.tup xs) → (upd H2 R (.lst ws)) a = some (.tup xs) := fun {a xs ws} h => by rw [upd_ne (ne_of h a2 (by intro z; cases z))]; exact h
      refine ⟨_, a2, by rw [List.length_map]; exact small1000 (by omega), (x1.trans y1).mut hR, as ++ [t], by rw [upd_same, List.map_append]; rfl, ?_⟩
      have e1 : tkv (nW (ss.take (i + 1)) g0) = tkv (nW (ss.take i) g0) ++ [(.inr z, .int (stepP ps 0 (.str z) : Int))] := by
        unfold nW tkv
        rw [List.take_add_one, hz, List.map_append, List.map_append, hg0]
        rfl
      rw [e1]
      exact Paired.snoc (L2.Paired.mapP pr fun a kv h => stay (y1 _ _ h)) (stay t1)
    rintro H1 ⟨x1, as, a1, pr⟩
    rw [List.length_map, List.take_length] at pr
    refine ⟨R, as, _, rfl, Evl.sq_of a1, L2.Paired.mapP pr fun a kv h => Evl.st_of h, fun Fd hF => ?_⟩
    rw [merge_tkv (by rw [nW_keys]; exact ok.sn)]
    have y1 : Evl.Ex H1 (upd H1 Fd (.dK (tkv (nW ss g0)))) := Evl.Ex.new hF
    have f1 : (upd H1 Fd (.dK (tkv (nW ss g0)))) Fd = some (.dK (tkv (nW ss g0))) := upd_same
    have F0 : H Fd = none := ex_none x1 hF
    generalize upd H1 Fd (.dK (tkv (nW ss g0))) = H2 at y1 f1
    have x2 := x1.trans y1
    have bnd0 : ∀ z ∈ ss, g0 z ≤ ps.length := fun z _ => by rw [hg0]; exact stepP_le (Nat.zero_le _)
    -- for step in range(3 * len(web))
    refine ⟨.ref D, rfl, D, _, rfl, x2 _ _ r1, 3, ((tkv rs).length : Int), rfl, rfl, .inl (by decide), 3 * ((tkv rs).length : Int), rfl, by omega, by omega, for_range (lo := 0) (n := (3 * ((tkv rs).length : Int)).toNat)
      (fun i σ H' => ∃ (x3 x4 x5 x6 : Option V) (dom : List Str) (g : Str → Nat), σ = [some (.ref m), some (.ref D), some (.ref Fd), x3, x4, x5, x6, none] ∧ Evl.Ex H H' ∧ H' Fd = some (.dK (tkv (nW dom g))) ∧ dom.Nodup ∧ (∀ z ∈ dom, z ∈ dots) ∧ ∀ z ∈ dom, g z ≤ ps.length)
      ⟨none, none, none, none, ss, g0, rfl, x2, f1, ok.sn, ok.sd, bnd0⟩ ?_ ?_⟩
    · rintro i σ H3 hi ⟨x3, x4, x5, x6, dom0, g00, rfl, xh3, f3, n3, s3, b3⟩
      -- for node in list(found)
      refine ⟨.ref Fd, rfl, Fd, _, rfl, .inl f3, fun l0 hl0 => ?_⟩
      have ek : (tkv (nW dom0 g00)).map (fun kv => kV kv.1) = dom0.map V.str := by
        unfold tkv nW
        rw [List.map_map, List.map_map]
        rfl
      rw [ek]
      have y3 : Evl.Ex H3 (upd H3 l0 (.lst (dom0.map V.str))) := Evl.Ex.new hl0
      have q3 : (upd H3 l0 (.lst (dom0.map V.str))) l0 = some (.lst (dom0.map V.str)) := upd_same
      generalize upd H3 l0 (.lst (dom0.map V.str)) = H4 at y3 q3
      have xh4 := xh3.trans y3
      have L0 : H l0 = none := ex_none xh3 hl0
      have nlF : l0 ≠ Fd := fun z => by rw [z, f3] at hl0; cases hl0
      refine ⟨l0, rfl, ⟨_, Evl.sq_of q3⟩, for_list (K := K) (a := l0) (xs := dom0.map V.str)
        (fun j σ H' => ∃ (x4 x5 x6 : Option V) (dom : List Str) (g : Str → Nat), σ = [some (.ref m), some (.ref D), some (.ref Fd), some (.int (0 + (i : Int))), x4, x5, x6, none] ∧ Evl.Ex H H' ∧ H' l0 = some (.lst (dom0.map V.str)) ∧ H' Fd = some (.dK (tkv (nW dom g))) ∧ dom.Nodup ∧ (∀ z ∈ dom, z ∈ dots) ∧ (∀ z ∈ dom, g z ≤ ps.length) ∧ ∀ z ∈ dom0, z ∈ dom)
        ⟨x4, x5, x6, dom0, g00, rfl, xh4, q3, y3 _ _ f3, n3, s3, b3, fun _ h => h⟩ (fun i σ H' _ ⟨_, _, _, _, _, _, _, h, _⟩ => Evl.sq_of h) ?_ ?_⟩
      · rintro j v σ H5 hj ⟨x4', x5', x6', dom1, g1', rfl, xh5, q5, f5, n5, s5, b5, up5⟩
        obtain ⟨z, hz, rfl⟩ := str_at hj
        have zm0 := List.mem_of_getElem? hz
        have zd := s3 z zm0
        obtain ⟨vl, hvl, hml⟩ := tkv_some (tb := rs) (z := z) (by rw [r2]; exact zd)
        obtain ⟨zl, ezl, hzl⟩ := r3 _ hml
        have ezl' : vl = .ref zl := ezl
        subst ezl'
        have gz : ∀ {Hx : Hp}, Evl.Ex H Hx → DGet Hx D (.str z) (some (.ref zl)) := fun x => dgR (k := Sum.inr z) (.inl (x _ _ r1)) hvl
        have nzl : zl ≠ Fd := fun c => by rw [c, F0] at hzl; cases hzl
        refine ⟨.ref D, rfl, .str z, rfl, D, _, rfl, gz xh5, zl, rfl, ⟨_, Evl.sq_of (xh5 _ _ hzl)⟩, for_list (K := K) (a := zl) (xs := f z)
          (fun l σ H' => ∃ (x5 x6 : Option V) (dom : List Str) (g : Str → Nat), σ = [some (.ref m), some (.ref D), some (.ref Fd), some (.int (0 + (i : Int))), some (.str z), x5, x6, none] ∧ Evl.Ex H H' ∧ H' l0 = some (.lst (dom0.map V.str)) ∧ H' Fd = some (.dK (tkv (nW dom g))) ∧ dom.Nodup ∧ (∀ z ∈ dom, z ∈ dots) ∧ (∀ z ∈ dom, g z ≤ ps.length) ∧ ∀ z ∈ dom0, z ∈ dom)
          ⟨x5', x6', dom1, g1', rfl, xh5, q5, f5, n5, s5, b5, up5⟩ (fun i σ H' _ ⟨_, _, _, _, _, x, _⟩ => Evl.sq_of (x _ _ hzl)) ?_ ?_⟩
        · rintro l v σ H6 hl ⟨x5'', x6'', dom, g, rfl, xh6, q6, f6, n6, s6, b6, up6⟩
          have vm := List.mem_of_getElem? hl
          have M6 := M.r.to xh6
          obtain ⟨rsM, hM1, _, _⟩ := M6.ex
          rcases W.sp z zd v vm with rfl | ⟨y, rfl, nmy⟩
          · exact ⟨.non, rfl, .ref D, rfl, .inr ⟨D, _, rfl, rfl, hM1, _, rfl, iteF ⟨_, _, dom, g, rfl, xh6, q6, f6, n6, s6, b6, up6⟩⟩⟩
          obtain ⟨r, gr, er⟩ := M6.has y
          refine ⟨.str y, rfl, .ref D, rfl, .inl ⟨D, r, rfl, gr, _, rfl, ?_⟩⟩
          rw [er]
          by_cases yd : y ∈ dots
          case neg =>
            rw [decide_eq_false yd]
            exact iteF ⟨_, _, dom, g, rfl, xh6, q6, f6, n6, s6, b6, up6⟩
          rw [decide_eq_true yd]
          have zm := up6 z zm0
          have dl := nodup_le dom dots n6 s6
          have cle : stepP ps (g z) (.str y) ≤ ps.length := stepP_le (b6 z zm)
          refine iteT ⟨.ref m, rfl, .ref Fd, rfl, .str z, rfl, Fd, _, rfl, dgR (k := Sum.inr z) (.inl f6) (nW_get zm), .str y, rfl, m, nb, tb, sb, pb, g z, .str y, ends, dots, ss, ps, rows, o, n, rfl, MS.to xh6, .inr ⟨y, rfl, nmy⟩, ?_⟩
          have put : ∀ old : Nat, ∃ mn : Nat, (if (stepP ps (g z) (.str y) : Int) < (old : Int) then (stepP ps (g z) (.str y) : Int) else (old : Int)) = (mn : Int) ∧ mn ≤ stepP ps (g z) (.str y) := fun old => by
            by_cases c : (stepP ps (g z) (.str y) : Int) < (old : Int)
            · exact ⟨_, if_pos c, Nat.le_refl _⟩
            · exact ⟨_, if_neg c, by omega⟩
          have nlF6 : l0 ≠ Fd := nlF
          by_cases ym : y ∈ dom
          · obtain ⟨mn, emn, lmn⟩ := put (g y)
            refine ⟨.ref Fd, rfl, Fd, rfl, .inl ⟨_, .inl f6⟩, .str y, rfl, some (.int (g y : Int)), dgR (k := Sum.inr y) (.inl f6) (nW_get ym), _, rfl, (g y : Int), _, rfl, ?_⟩
            rw [emn]
            refine ⟨.ref Fd, rfl, .str y, rfl, Fd, _, rfl, DPut.k (k := Sum.inr y) f6 (by rw [tkv_len, nW_len]; exact small1000 (by omega)), ?_⟩
            refine ⟨_, _, dom, putG g y mn, rfl, xh6.mut F0, by rw [upd_ne nlF6]; exact q6, by rw [upd_same, nW_old ym], n6, s6, fun x hx => ?_, up6⟩
            by_cases e : x = y
            · rw [e, putG_at]; omega
            · rw [putG_ne e]; exact b6 x hx
          · obtain ⟨mn, emn, lmn⟩ := put 9
            refine ⟨.ref Fd, rfl, Fd, rfl, .inl ⟨_, .inl f6⟩, .str y, rfl, none, .inl ⟨_, Sum.inr y, .inl f6, rfl, (nW_none ym).symm⟩, _, rfl, 9, _, rfl, ?_⟩
            rw [show (if (stepP ps (g z) (.str y) : Int) < 9 then (stepP ps (g z) (.str y) : Int) else 9) = (mn : Int) from emn]
            refine ⟨.ref Fd, rfl, .str y, rfl, Fd, _, rfl, DPut.k (k := Sum.inr y) f6 (by rw [tkv_len, nW_len]; exact small1000 (by omega)), ?_⟩
            refine ⟨_, _, dom ++ [y], putG g y mn, rfl, xh6.mut F0, by rw [upd_ne nlF6]; exact q6, by rw [upd_same, nW_new ym], ?_, fun x hx => ?_, fun x hx => ?_, fun x hx => List.mem_append_left _ (up6 x hx)⟩
            · rw [List.nodup_append]
              exact ⟨n6, by simp, fun a ha b hb e => ym (by rw [List.mem_singleton.mp hb] at e; exact e ▸ ha)⟩
            · rcases List.mem_append.mp hx with hx | hx
              · exact s6 x hx
              · rw [List.mem_singleton.mp hx]; exact yd
            · by_cases e : x = y
              · rw [e, putG_at]; omega
              · rw [putG_ne e]
                rcases List.mem_append.mp hx with hx | hx
                · exact b6 x hx
                · exact absurd (List.mem_singleton.mp hx) e
        · rintro σ H6 ⟨x5'', x6'', dom, g, rfl, xh6, q6, f6, n6, s6, b6, up6⟩
          exact ⟨_, x5'', x6'', dom, g, rfl, xh6, q6, f6, n6, s6, b6, up6⟩
      · rintro σ H5 ⟨x4', x5', x6', dom1, g1', rfl, xh5, q5, f5, n5, s5, b5, up5⟩
        exact ⟨_, x4', x5', x6', dom1, g1', rfl, xh5, f5, n5, s5, b5⟩
    · rintro σ H3 ⟨x3, x4, x5, x6, dom, g, rfl, xh3, f3, n3, s3, b3⟩
      exact ⟨.ref Fd, rfl, k (.ref Fd) H3 xh3 ⟨Fd, dom, g, rfl, F0, f3, n3, s3, fun z hz => Nat.le_trans (b3 z hz) (by omega)⟩⟩
end
end Rw
end T_LE

section T_OP
set_option Elab.async false
set_option linter.all false
set_option maxRecDepth 100000
set_option maxHeartbeats 16000000
namespace Rw
open PySem L2 PyProof.Rows
theorem putK_tkv_new {dom : List Str} {g : Str → Nat} {z : Str} {v : V} (h : z ∉ dom) : putK (tkv (nW dom g)) (Sum.inr z) v = tkv (nW dom g) ++ [(Sum.inr z, v)] := by
  rw [tkv_new (by rw [nW_keys]; exact h)]
  unfold tkv
  rw [List.map_append]
  rfl
section
variable {P : Program} {w : World} {K : PySem.W.Frag} {mg : Str → Option Value} {base : Heap}
/-! ### this law's own paper for a goal -/
def spOwnP : Sp := fun vs H Q _ => ∃ (m D nb tb sb pb : Addr) (wd : Str) (f : Str → List V) (ends dots ss ps : List Str) (rows : List (Str × V)) (o n : Str → List (Str × V)), vs = [.ref m, .ref D, .str wd] ∧ ModelR H m nb tb sb pb ends dots ss ps rows o n ∧ MixU H D dots f ∧ Webs dots f ∧
  ∀ v H', Evl.Ex H H' → Own H H' v dots → Q v H'
abbrev nOwnP : List Str := ["model", "web", "word", "near", "some", "found", "node", "spot"]
theorem sc_ownP : FnScope nOwnP ["model", "web", "word"] (defScope s_own_paper) := ⟨rfl, rfl, rfl, by decide +kernel, rfl, by decide +kernel, by decide +kernel⟩
theorem ok_ownP {f : Addr} {fd : FuncData} (F : Fun K "_law_own_paper" "_law_own_paper" s_own_paper f fd) (C1 : Cal P w K mg base 2 "_law_least" ["model", "web"] spLeastU) (C2 : Cal P w K mg base 1 "_law_near" ["web", "starts_v"] spNearU) (C3 : Cal P w K mg base 1 "_law_ranks" ["web"] spRanksU)
    (mDict : mg "dict" = none) (mLen : mg "len" = none) (mSorted : mg "sorted" = none) (mEnum : mg "enumerate" = none) : FnOk P w K mg base CX0 3 f fd ["model", "web", "word"] spOwnP := by
  obtain ⟨f1, fd1, F1, k1, b1, g1⟩ := C1.ex
  obtain ⟨f2, fd2, F2, k2, b2, g2⟩ := C2.ex
  obtain ⟨f3, fd3, F3, k3, b3, g3⟩ := C3.ex
  refine F.ok sc_ownP (fun vs H Q E h => ?_) (fun cdv A outer s H vs Q E hr h => ?_)
  · obtain ⟨m, D, nb, tb, sb, pb, wd, f, ends, dots, ss, ps, rows, o, n, rfl, _⟩ := h
    rfl
  · obtain ⟨m, D, nb, tb, sb, pb, wd, f, ends, dots, ss, ps, rows, o, n, rfl, MS, M, W, k⟩ := h
    have nd := sc_ownP.nd
    have hu := hu_of hr
    have r1' : Room 1 _ := hr.mono (by decide)
    refine ⟨_, pss_cons (ps_if (pt_cmpR op_eq (pv 2) pe_str (nomark _)) (pss_one (ps_ret (pe_call F1 hr rfl g1 k1 b1 .nil pass0 (pa_cons (pv 0) (pa_cons (pv 1) pa_nil))))) pss_nil)
      (C8.pss_cut (ps_set (i := 3) nd rfl (.inr rfl) (pe_ifExp (pt_cmpR op_eq (pv 2) pe_str (nomark _)) (pe_callB (call_sortedD rfl) (by rfl) mSorted (by decide +kernel) (pa_cons (pv 1) pa_nil)) (pe_call F2 r1' rfl g2 k2 b2 .nil pass0 (pa_cons (pv 1) (pa_cons (pe_dget hu (pv 0) pe_str (fun _ _ => rfl)) pa_nil)))))
      (pss_cons (ps_set (i := 4) nd rfl (.inl rfl) (pe_callTy (call_dictP rfl) (by rfl) mDict (by decide +kernel) (pa_cons
        (pe_lc (own := [("node", 6)]) (g := gName 6) (tt := tYes) (te := tTup (tCons (tVar 6) (tCons (tDGet (tVar 1) (tVar 6)) tNil))) rfl nd (pi_list (pv 3)) (blkOk_by (own := [("node", 6)]) (N := nOwnP) (sc := defScope s_own_paper) (by decide +kernel))
          (fun _ _ _ _ _ => pg_name (i := 6) nd rfl (Or.inl rfl)) (fun _ _ _ _ _ => pts_nil) (fun _ _ _ _ _ => pe_tup (pa_cons (pv 6) (pa_cons (pe_dget hu (pv 1) (pv 6) (fun _ _ => rfl)) pa_nil)))) pa_nil)))
      (pss_cons (ps_set (i := 5) nd rfl (.inl rfl) (pe_call F3 r1' rfl g3 k3 b3 .nil pass0 (pa_cons (pv 4) pa_nil)))
      (pss_cons (ps_if (pt_cmpR op_isN (pv 5) pe_non (nomark _))
        (pss_one (ps_set (i := 5) nd rfl (.inl rfl) (pe_callTy (call_dictP rfl) (by rfl) mDict (by decide +kernel) (pa_cons
          (pe_lc (own := [("spot", 7), ("node", 6)]) (g := gTup K 2 (gCons (gName 7) (gCons (gName 6) gNil))) (tt := tYes) (te := tTup (tCons (tVar 6) (tCons (tOp (rI0 fun i j => V.int (i - j)) (tCB (fun xs H Q => ∃ x n, xs = [x] ∧ LenV K x H n ∧ Q (.int (n : Nat)) H) (tCons (tVar 3) tNil)) (tVar 7)) tNil))) rfl nd (pi_enum (by rfl) mEnum (pa_cons (pv 3) pa_nil)) (blkOk_by (own := [("spot", 7), ("node", 6)]) (N := nOwnP) (sc := defScope s_own_paper) (by decide +kernel))
            (fun _ _ _ _ _ => pg_tup rfl (pgs_cons (pg_name (i := 7) nd rfl (Or.inl rfl)) (pgs_cons (pg_name (i := 6) nd rfl (Or.inl rfl)) pgs_nil))) (fun _ _ _ _ _ => pts_nil) (fun _ _ _ _ _ => pe_tup (pa_cons (pv 6) (pa_cons (pe_op op_sub (pe_callB call_len (by rfl) mLen PySem.boot_len (pa_cons (pv 3) pa_nil)) (pv 7)) pa_nil)))) pa_nil)))) pss_nil)
      (pss_one (ps_ret (pv 5))))))), ?_⟩
    have ok := MS.ok
    have d6 := ok.d6
    obtain ⟨rs, r1, r2, r3⟩ := M.ex
    refine ⟨.str wd, rfl, rfl, _, rfl, ite2 (fun q => ?_) (fun q => ?_)⟩
    · exact ⟨.ref m, rfl, .ref D, rfl, m, D, nb, tb, sb, pb, f, ends, dots, ss, ps, rows, o, n, rfl, MS, M, W, fun v H1 x1 O1 => k v H1 x1 O1⟩
    -- near
    refine ⟨fun σ' H' => ∃ (l : Addr) (ns : List Str), σ' = [some (.ref m), some (.ref D), some (.str wd), some (.ref l), none, none, none, none] ∧ Evl.Ex H H' ∧ H' l = some (.lst (ns.map V.str)) ∧ ns.Nodup ∧ ∀ z ∈ ns, z ∈ dots, ?_, ?_⟩
    · refine ⟨.str wd, rfl, rfl, _, rfl, ite2 (fun q => ?_) (fun q => ?_)⟩
      · refine ⟨.ref D, rfl, D, tkv rs, dots, rfl, .inl r1, by rw [← r2]; unfold tkv; rw [List.map_map, List.map_map]; rfl, by omega, fun ys p py sy hp => ?_⟩
        exact ⟨p, ys, rfl, Evl.Ex.new hp, upd_same, py.nodup_iff.mpr ok.dn, fun z hz => py.mem_iff.mp hz⟩
      · refine ⟨.ref D, rfl, .ref m, rfl, m, _, rfl, dgK MS.hm (mkS_starts _ _ _ _), D, sb, ss, dots, f, rfl, M, W, ok.dn, d6, MS.hs, ok.sn, ok.sd, fun l ns H1 x1 hl nn nsd => ?_⟩
        exact ⟨l, ns, rfl, x1, hl, nn, nsd⟩
    rintro σ H1 ⟨l, ns, rfl, x1, hl, nn, nsd⟩
    have n6 : ns.length ≤ 6 := Nat.le_trans (nodup_le ns dots nn nsd) d6
    -- some
    refine ⟨.ref l, rfl, l, rfl, ⟨_, Evl.sq_of hl⟩, fun R hR => lc_list (K := K) (a := l) (xs := ns.map V.str)
      (fun i H' => Evl.Ex H1 H' ∧ ∃ (as : List Addr) (rs' : List (Str × V)), H' R = some (.lst (as.map V.ref)) ∧ rs'.map (·.1) = ns.take i ∧ (∀ q ∈ rs', ∃ a : Addr, q.2 = .ref a ∧ H a = some (.lst (f q.1))) ∧ Paired (fun p kv => H' p = some (.tup [kV kv.1, kv.2])) as (tkv rs'))
      ⟨Evl.Ex.new hR, [], [], upd_same, rfl, (fun q hq => nomatch hq), .nil⟩ (fun i H' _ h => Evl.sq_of (h.1 _ _ hl)) ?_ ?_⟩
    · rintro i v H2 hi ⟨x2, as, rs', a2, ek, hv, pr⟩
      obtain ⟨z, hz, rfl⟩ := str_at hi
      have zd := nsd z (List.mem_of_getElem? hz)
      obtain ⟨vl, hvl, hml⟩ := tkv_some (tb := rs) (z := z) (by rw [r2]; exact zd)
      obtain ⟨zl, ezl, hzl⟩ := r3 _ hml
      have ezl' : vl = .ref zl := ezl
      subst ezl'
      have x02 := x1.trans x2
      refine ⟨rfl, yes_if ⟨.str z, rfl, .ref D, rfl, .str z, rfl, D, _, rfl, dgR (k := Sum.inr z) (.inl (x02 _ _ r1)) hvl, by show 2 ≤ sizeLine; decide, fun t ht => ?_⟩⟩
      have y1 : Evl.Ex H2 (upd H2 t (.tup [.str z, .ref zl])) := Evl.Ex.new ht
      have t1 : (upd H2 t (.tup [.str z, .ref zl])) t = some (.tup [.str z, .ref zl]) := upd_same
      generalize upd H2 t (.tup [.str z, .ref zl]) = H3 at y1 t1
      have a3 := y1 _ _ a2
      have asl : as.length ≤ 6 := by
        have h3 := pr.length
        have h4 := congrArg List.length ek
        rw [List.length_map, List.length_take] at h4
        rw [tkv_len] at h3
        omega
      have stay : ∀ {a : Addr} {xs ws : List V}, H3 a = some (.tup xs) → (upd H3 R (.lst ws)) a = some (.tup xs) := fun {a xs ws} h => by rw [upd_ne (ne_of h a3 (by intro z; cases z))]; exact h
      refine ⟨_, a3, by rw [List.length_map]; exact small1000 (by omega), (x2.trans y1).mut hR, as ++ [t], rs' ++ [(z, .ref zl)], by rw [upd_same, List.map_append]; rfl, by rw [List.map_append, ek, List.take_add_one, hz]; rfl, fun q hq => ?_, ?_⟩
      · rcases List.mem_append.mp hq with hq | hq
        · exact hv q hq
        · rw [List.mem_singleton.mp hq]; exact ⟨zl, rfl, hzl⟩
      · rw [show tkv (rs' ++ [(z, V.ref zl)]) = tkv rs' ++ [(.inr z, .ref zl)] by unfold tkv; rw [List.map_append]; rfl]
        exact Paired.snoc (L2.Paired.mapP pr fun a kv h => stay (y1 _ _ h)) (stay t1)
    rintro H2 ⟨x2, as, rs', a2, ek, hv, pr⟩
    rw [List.length_map, List.take_length] at ek
    refine ⟨R, as, _, rfl, Evl.sq_of a2, L2.Paired.mapP pr fun a kv h => Evl.st_of h, fun So hSo => ?_⟩
    rw [merge_tkv (by rw [ek]; exact nn)]
    have y3 : Evl.Ex H2 (upd H2 So (.dK (tkv rs'))) := Evl.Ex.new hSo
    have s3 : (upd H2 So (.dK (tkv rs'))) So = some (.dK (tkv rs')) := upd_same
    generalize upd H2 So (.dK (tkv rs')) = H3 at y3 s3
    have x03 := (x1.trans x2).trans y3
    have MS3 : MixU H3 So ns f := ⟨rs', s3, ek, fun q hq => let ⟨a, e, h⟩ := hv q hq; ⟨a, e, x03 _ _ h⟩⟩
    refine ⟨.ref So, rfl, So, ns, dots, f, rfl, MS3, W, nsd, nn, n6, fun v H4 x4 hv4 => ?_⟩
    have x04 := x03.trans x4
    rcases hv4 with rfl | ⟨a, dom, g, rfl, a0, ha, h1, h2, h3⟩
    · refine ⟨.non, rfl, rfl, true, rfl, iteT ?_⟩
      have hl4 : H4 l = some (.lst (ns.map V.str)) := ((x2.trans y3).trans x4) _ _ hl
      refine ⟨.ref l, rfl, l, _, rfl, Evl.sq_of hl4, fun R2 hR2 => lc_it (walk_enum (K := K) (a := l) (xs := ns.map V.str))
        (fun i H' => Evl.Ex H4 H' ∧ ∃ (as : List Addr) (g : Str → Nat), H' R2 = some (.lst (as.map V.ref)) ∧ (∀ z ∈ ns.take i, g z ≤ 6) ∧ Paired (fun p kv => H' p = some (.tup [kV kv.1, kv.2])) as (tkv (nW (ns.take i) g)))
        ⟨Evl.Ex.new hR2, [], fun _ => 0, upd_same, (fun q hq => nomatch hq), .nil⟩ (fun i H' _ h => Evl.sq_of (h.1 _ _ hl4)) ?_ ?_⟩
      · rintro i x H5 H5' hi ⟨x5, as5, g, a5, hg, pr5⟩ ⟨Tt, xk, xv, rfl, hTt, rfl, hxk, hxv⟩
        rw [List.length_map] at hi
        have hz : ns[i]? = some ns[i] := List.getElem?_eq_getElem hi
        obtain ⟨z, ez⟩ : ∃ z, z = ns[i] := ⟨_, rfl⟩
        rw [← ez] at hz
        have e1 : xk = .int (i : Int) := (Option.some.inj hxk).symm
        have e2 : xv = .str z := by
          have h1 : (ns.map V.str)[i]? = some xv := hxv
          rw [List.getElem?_map, hz] at h1
          exact (Option.some.inj h1).symm
        subst e1 e2
        have y5 : Evl.Ex H5 (upd H5 Tt (.tup [.int (i : Int), .str z])) := Evl.Ex.new hTt
        have t5 : (upd H5 Tt (.tup [.int (i : Int), .str z])) Tt = some (.tup [.int (i : Int), .str z]) := upd_same
        generalize upd H5 Tt (.tup [.int (i : Int), .str z]) = H6 at y5 t5
        have x56 := x5.trans y5
        refine ⟨Tt, _, rfl, Evl.st_of t5, rfl, _, _, rfl, _, [], rfl, rfl, rfl, yes_if ⟨.str z, rfl, .ref l, rfl, .ref l, ns.length, rfl, .inl ⟨_, Evl.sq_of (x56 _ _ hl4), by rw [List.length_map]⟩, .int (i : Int), rfl, _, _, rfl, rfl, by show 2 ≤ sizeLine; decide, fun t ht => ?_⟩⟩
        obtain ⟨mn, emn⟩ : ∃ mn : Nat, ((ns.length : Int) - (i : Int)) = (mn : Int) := ⟨ns.length - i, by omega⟩
        rw [show (fun i j => V.int (i - j)) (ns.length : Int) (i : Int) = V.int (mn : Int) from congrArg V.int emn]
        have y1 : Evl.Ex H6 (upd H6 t (.tup [.str z, .int (mn : Int)])) := Evl.Ex.new ht
        have t1 : (upd H6 t (.tup [.str z, .int (mn : Int)])) t = some (.tup [.str z, .int (mn : Int)]) := upd_same
        generalize upd H6 t (.tup [.str z, .int (mn : Int)]) = H7 at y1 t1
        have a7 := (y5.trans y1) _ _ a5
        have asl : as5.length ≤ 6 := by
          have h3 := pr5.length
          rw [tkv_len, nW_len, List.length_take] at h3
          omega
        have stay : ∀ {a : Addr} {xs ws : List V}, H7 a = some (.tup xs) → (upd H7 R2 (.lst ws)) a = some (.tup xs) := fun {a xs ws} h => by rw [upd_ne (ne_of h a7 (by intro z; cases z))]; exact h
        have et : ns.take (i + 1) = ns.take i ++ [z] := by rw [List.take_add_one, hz]; rfl
        have zn : z ∉ ns.take i := fun hm => by
          have q1 : (ns.take (i + 1)).Nodup := nn.sublist (List.take_sublist _ _)
          rw [et] at q1
          exact (List.nodup_append.mp q1).2.2 z hm z (List.mem_singleton.mpr rfl) rfl
        refine ⟨_, a7, by rw [List.length_map]; exact small1000 (by omega), (x56.trans y1).mut hR2, as5 ++ [t], putG g z mn, by rw [upd_same, List.map_append]; rfl, fun y hy => ?_, ?_⟩
        · rw [et] at hy
          by_cases e : y = z
          · rw [e, putG_at]; omega
          · rw [putG_ne e]
            rcases List.mem_append.mp hy with hy | hy
            · exact hg y hy
            · exact absurd (List.mem_singleton.mp hy) e
        · rw [et, ← nW_new zn, putK_tkv_new zn]
          exact Paired.snoc (L2.Paired.mapP pr5 fun a kv h => stay ((y5.trans y1) _ _ h)) (stay t1)
      rintro H5 ⟨x5, as5, g, a5, hg, pr5⟩
      rw [List.length_map, List.take_length] at hg pr5
      refine ⟨R2, as5, _, rfl, Evl.sq_of a5, L2.Paired.mapP pr5 fun a kv h => Evl.st_of h, fun q hq => ?_⟩
      rw [merge_tkv (by rw [nW_keys]; exact nn)]
      have x05 := x04.trans x5
      exact ⟨.ref q, rfl, k (.ref q) _ (x05.trans (Evl.Ex.new hq)) ⟨q, ns, g, rfl, ex_none x05 hq, upd_same, nn, nsd, hg⟩⟩
    · refine ⟨.ref a, rfl, rfl, false, rfl, iteF ⟨.ref a, rfl, ?_⟩⟩
      exact k (.ref a) H4 x04 ⟨a, dom, g, rfl, ex_none x03 a0, ha, h1, fun z hz => nsd z (h2 z hz), h3⟩
end
end Rw
end T_OP

section T_NT
set_option Elab.async false
set_option linter.all false
set_option maxRecDepth 100000
set_option maxHeartbeats 4000000
namespace Rw
open PySem L2 PyProof.Rows LamX
theorem NetAt.nt {C : Addr} {H : Hp} {m : Addr} {ends dots ss ps : List Str} {o n : Str → List (Str × V)} (h : NetAt C H m ends dots ss ps o n) : NetAt C (nt H) m ends dots ss ps o n := by
  obtain ⟨dx, T, N, S, P, rows, h1, h2, h3, h4, h5, h6, h7⟩ := h
  refine ⟨dx, T, N, S, P, rows, nt_of h1 (fun _ z => by cases z), nt_dK h2, nt_tup h3, nt_tup h4, nt_tup h5, h6, fun e he => ?_⟩
  obtain ⟨p, po, pn, hv, pa⟩ := h7 e he
  exact ⟨p, po, pn, hv, nt_tup pa.hp, nt_dK pa.ho, nt_dK pa.hn, pa.o1, pa.o2⟩
theorem SqS.nt {K : PySem.W.Frag} {H : Hp} {a : Addr} {zs : List Str} (h : SqS K H a zs) : SqS K (nt H) a zs := by
  rcases h with h | h
  · refine .inl ?_
    rcases h with (h | ⟨o, h⟩) | h
    · exact .inl (.inl (nt_lst h))
    · exact .inl (.inr ⟨o, nt_of h fun _ z => by cases z⟩)
    · exact .inr h
  · exact .inr (sqt_nt h)
theorem LotAt.nt {H : Hp} {a : Addr} {zs ys : List Str} (h : LotAt H a zs ys) : LotAt (nt H) a zs ys := ⟨nt_tup h.ha, h.sub, h.nd, h.so, h.nm, h.few⟩
theorem sql_nt {K : PySem.W.Frag} {H : Hp} {a : Addr} {xs : List V} (h : SqL K H a xs) : SqL K (nt H) a xs := by
  rcases h with (h | ⟨o, h⟩) | h
  · exact .inl (.inl (nt_lst h))
  · exact .inl (.inr ⟨o, nt_of h fun _ z => by cases z⟩)
  · exact .inr h
theorem codeO_lst {c : Addr} {q : Str} {xs : List V} (h : some (CodeO c q) = some (HO.lst xs)) : False := by
  unfold CodeO at h
  cases h
theorem nt_mut {H H3 : Hp} {D : Addr} {o : HO} (x : Evl.Ex (nt H) (nt H3)) (hD : H D = none) (n : ∀ ps, o ≠ .tbl ps) : Evl.Ex (nt H) (nt (upd H3 D o)) := fun p' o' h' => by
  have h1 := x _ _ h'
  have np : p' ≠ D := fun z => by rw [z] at h'; rw [nt_free hD] at h'; cases h'
  exact nt_of (by rw [upd_ne np]; exact (nt_some h1).1) (nt_some h1).2
theorem nt_mutL {H H3 : Hp} {D : Addr} {xs : List V} (x : Evl.Ex (nt H) (nt H3)) (hD : H D = none) : Evl.Ex (nt H) (nt (upd H3 D (.lst xs))) := nt_mut x hD fun _ z => by cases z
theorem tabs_mutL {T : List (Addr × Str)} {H3 : Hp} {D : Addr} {xs ys : List V} (T3 : Tabs T H3) (d3 : H3 D = some (.lst xs)) : Tabs T (upd H3 D (.lst ys)) := fun q hq => by
  obtain ⟨ts, t1, t2, t3⟩ := T3 q hq
  refine ⟨ts, by rw [upd_ne (fun z => by rw [z, d3] at t1; cases t1)]; exact t1, t2, fun pos cv hcv => ?_⟩
  obtain ⟨c', e1, e2⟩ := t3 pos cv hcv
  exact ⟨c', e1, by rw [upd_ne (fun z => by rw [z, d3] at e2; exact codeO_lst e2.symm)]; exact e2⟩
abbrev wishesL : List Str := ["home", "lost", "posts", "rings"]
theorem moving_sub {ends dots : List Str} {o n : Str → List (Str × V)} {z : Str} (h : z ∈ moving ends dots o n) : z ∈ dots := (List.mem_filter.mp h).1
theorem LotAt.l6 {H : Hp} {a : Addr} {zs ends dots : List Str} {o n : Str → List (Str × V)} (L : LotAt H a zs (moving ends dots o n)) (d6 : dots.length ≤ 6) : zs.length ≤ 6 :=
  Nat.le_trans (nodup_le zs dots L.nd fun z hz => moving_sub (L.sub z hz)) d6
end Rw
end T_NT

section T_CW
set_option Elab.async false
set_option linter.all false
set_option maxRecDepth 100000
set_option maxHeartbeats 4000000
namespace Rw
open PySem L2 PyProof.Rows LamX
section
variable {P : Program} {w : World} {K : PySem.W.Frag} {mg : Str → Option Value} {base : Heap}
def spCheckWishes : Sp := fun vs H Q _ => ∃ (c : Addr) (ws : List Str), vs = [.ref c] ∧ SqS K H c ws ∧ ws.Nodup ∧ (∀ x ∈ ws, x ∈ wishesL) ∧ ws.length ≤ 100 ∧ ∀ H', Evl.Ex H H' → Q .non H'
end
end Rw
end T_CW

section T_UR
set_option Elab.async false
set_option linter.all false
set_option maxRecDepth 100000
set_option maxHeartbeats 8000000
namespace Rw
open PySem L2 PyProof.Rows LamX
section
variable {P : Program} {w : World} {K : PySem.W.Frag} {mg : Str → Option Value} {base : Heap}
def spNum : Sp := fun vs H Q _ => ∃ k : Nat, vs = [.int (k : Int)] ∧ Q (.bl true) H
theorem sc_is_number : FnScope ["value"] ["value"] (defScope p_is_number) := ⟨rfl, rfl, rfl, by decide +kernel, rfl, by decide +kernel, by decide +kernel⟩
theorem ok_is_number {f : Addr} {fd : FuncData} (F : Fun K "is_number" "is_number" p_is_number f fd) (mIsi : mg "isinstance" = none) (mInt : mg "int" = none) (mBool : mg "bool" = none) : FnOk P w K mg base CX0 1 f fd ["value"] spNum := by
  refine F.ok sc_is_number (fun vs H Q E h => ?_) (fun cdv A outer s H vs Q E hr h => ?_)
  · obtain ⟨k, rfl, _⟩ := h
    rfl
  · obtain ⟨k, rfl, kk⟩ := h
    refine ⟨_, pss_one (ps_ret (pe_and (pe_callB call_isi (by rfl) mIsi (by decide +kernel) (pa_cons (pv 0) (pa_cons (pe_bltn (v := .ty "int") (by rfl) mInt (by decide +kernel) rfl) pa_nil)))
      (pe_one (pe_not (pe_callB call_isi (by rfl) mIsi (by decide +kernel) (pa_cons (pv 0) (pa_cons (pe_bltn (v := .ty "bool") (by rfl) mBool (by decide +kernel) rfl) pa_nil))))))), ?_⟩
    refine ⟨.int (k : Int), rfl, .int (k : Int), .ty "int", _, _, true, rfl, .ty _, .base (.int _), kit_ty (by decide +kernel), true, rfl, iteT ?_⟩
    exact ⟨.int (k : Int), rfl, .int (k : Int), .ty "bool", _, _, false, rfl, .ty _, .base (.int _), kit_ty (by decide +kernel), false, rfl, kk⟩
theorem sc_is_count : FnScope ["value"] ["value"] (defScope p_is_count) := ⟨rfl, rfl, rfl, by decide +kernel, rfl, by decide +kernel, by decide +kernel⟩
theorem ok_is_count {f : Addr} {fd : FuncData} (F : Fun K "is_count" "is_count" p_is_count f fd) (C1 : Cal P w K mg base 1 "is_number" ["value"] spNum) : FnOk P w K mg base CX0 2 f fd ["value"] spNum := by
  obtain ⟨f1, fd1, F1, k1, b1, g1⟩ := C1.ex
  refine F.ok sc_is_count (fun vs H Q E h => ?_) (fun cdv A outer s H vs Q E hr h => ?_)
  · obtain ⟨k, rfl, _⟩ := h
    rfl
  · obtain ⟨k, rfl, kk⟩ := h
    refine ⟨_, pss_one (ps_ret (pe_and (pe_call F1 hr rfl g1 k1 b1 .nil pass0 (pa_cons (pv 0) pa_nil)) (pe_one (pe_cmpR op_ge (pv 0) pe_int (nomark _))))), ?_⟩
    refine ⟨.int (k : Int), rfl, k, rfl, true, rfl, iteT ⟨.int (k : Int), rfl, _, _, rfl, rfl, ?_⟩⟩
    have e : decide ((0 : Int) ≤ (k : Int)) = true := decide_eq_true (by omega)
    show Q (.bl (decide ((0 : Int) ≤ (k : Int)))) H
    rw [e]
    exact kk
end
end Rw
end T_UR

section T_IP
set_option Elab.async false
set_option linter.all false
set_option maxRecDepth 100000
set_option maxHeartbeats 16000000
namespace Rw
open PySem L2 PyProof.Rows LamX
theorem ex_mut0 {H0 H : Hp} {p : Addr} {u : HO} (x : Evl.Ex H0 H) (h : H0 p = none) : Evl.Ex H0 (upd H p u) := x.mut h
theorem pap_fits {wd e : Str} {starts ss ps dots : List Str} {f : Str → List V} {dom : List Str} {g : Str → Nat} (h1 : ∀ z ∈ starts, z ∈ dom) (h2 : wd = ("posts" : Str) → ∀ z ∈ ss, g z ≤ stepP ps 0 (.str z)) (h3 : ∀ z ∈ dom, FitsP wd e ps dots f dom g z) : Pap wd e starts ss ps dots f dom g where
  st := h1
  p0 := h2
  lost := fun w z hz => (h3 z hz).2.1 w
  goal := fun w z hz => ((h3 z hz).2.2.1 w).1
  beh := fun z hz => (h3 z hz).1
  fall := fun w z hz => (h3 z hz).2.2.2 w
  pst := fun w z hz => ((h3 z hz).2.2.1 w).2
theorem fits_pap {wd e : Str} {starts ss ps dots : List Str} {f : Str → List V} {dom : List Str} {g : Str → Nat} (h : Pap wd e starts ss ps dots f dom g) : ∀ z ∈ dom, FitsP wd e ps dots f dom g z :=
  fun z hz => ⟨h.beh z hz, fun w => h.lost w z hz, fun w => ⟨h.goal w z hz, h.pst w z hz⟩, fun w => h.fall w z hz⟩
section
variable {P : Program} {w : World} {K : PySem.W.Frag} {mg : Str → Option Value} {base : Heap}
def spIsPaper (C : Addr) : Sp := fun vs H Q _ => ∃ (m a b pa : Addr) (wd e : Str) (dom : List Str) (g : Str → Nat) (zs ys ends dots ss ps : List Str) (o n : Str → List (Str × V)) (H0 : Hp), vs = [.ref m, .ref a, .ref b, .str wd, .str e, .ref pa] ∧ Evl.Ex H0 H ∧ H0 pa = none ∧ NetAt C H0 m ends dots ss ps o n ∧ ModelOk ends dots ss ps ∧ TabsOk ends dots o n ∧ e ∈ ends ∧
  LotAt H0 a zs (moving ends dots o n) ∧ LotAt H0 b ys (moving ends dots o n) ∧ (∀ y ∈ ys, y ∉ zs) ∧ H pa = some (.dK (tkv (nW dom g))) ∧ dom.Nodup ∧ (∀ z ∈ dom, z ∈ dots) ∧ wish4 wd ∧
  ∀ bb H', Evl.Ex H H' → (bb = true ↔ Pap wd e (startsOf wd dots ss) ss ps dots (spotsOf (o e) (n e) zs ys) dom g) → Q (.bl bb) H'
abbrev nIsPaper : List Str := ["net", "done", "lot", "wish", "goal", "value", "mixture", "node", "number"]
theorem sc_is_paper : FnScope nIsPaper ["net", "done", "lot", "wish", "goal", "value"] (defScope p_is_paper) := ⟨rfl, rfl, rfl, by decide +kernel, rfl, by decide +kernel, by decide +kernel⟩
theorem ok_is_paper {f C : Addr} {fd : FuncData} (F : Fun K "is_paper" "is_paper" p_is_paper f fd) (T : NetTxt K C) (C1 : Cal P w K mg base 6 "ways" ["net", "done", "lot", "goal"] (spMix C)) (C2 : Cal P w K mg base 1 "passed_with" ["posts", "passed", "place"] (spPassedAny (K := K))) (C3 : Cal P w K mg base 3 "starts" ["net", "wish"] (spStarts C)) (C4 : Cal P w K mg base 3 "fits" ["net", "mixture", "wish", "goal", "paper", "node"] (spFits C)) (C5 : Cal P w K mg base 2 "is_count" ["value"] spNum)
    (P1 : Prp P w K mg base C 1 "posts" (spPosts C)) (P2 : Prp P w K mg base C 1 "nodes" (spDots C)) (P3 : Prp P w K mg base C 1 "sources" (spSources C)) (mAll : mg "all" = none) (mIsi : mg "isinstance" = none) (mDict : mg "dict" = none) :
    FnOk P w K mg base CX0 7 f fd ["net", "done", "lot", "wish", "goal", "value"] (spIsPaper C) := by
  obtain ⟨f1, fd1, F1, k1, b1, g1⟩ := C1.ex
  obtain ⟨f2, fd2, F2, k2, b2, g2⟩ := C2.ex
  obtain ⟨f3, fd3, F3, k3, b3, g3⟩ := C3.ex
  obtain ⟨f4, fd4, F4, k4, b4, g4⟩ := C4.ex
  obtain ⟨f5, fd5, F5, k5, b5, g5⟩ := C5.ex
  obtain ⟨q1, u1, vd1, at1, G1, c1⟩ := P1.ex
  obtain ⟨q2, u2, vd2, at2, G2, c2⟩ := P2.ex
  obtain ⟨q3, u3, vd3, at3, G3, c3⟩ := P3.ex
  refine F.ok sc_is_paper (fun vs H Q E h => ?_) (fun cdv A outer s H vs Q E hr h => ?_)
  · obtain ⟨m, a, b, pa, wd, e, dom, g, zs, ys, ends, dots, ss, ps, o, n, H0, rfl, _⟩ := h
    rfl
  · obtain ⟨m, a, b, pa, wd, e, dom, g, zs, ys, ends, dots, ss, ps, o, n, H0, rfl, x0, p0, N, ok, tok, he, La, Lb, dis, hpa, dnd, dsub, w4, k⟩ := h
    have nd := sc_is_paper.nd
    have hu := hu_of hr
    have r1 : Room 1 _ := hr.mono (by decide)
    have r2 : Room 2 _ := hr.mono (by decide)
    have r3 : Room 3 _ := hr.mono (by decide)
    refine ⟨_, pss_cons (ps_if (pt_not (pt_val (pe_callB call_isi (by rfl) mIsi (by decide +kernel) (pa_cons (pv 5) (pa_cons (pe_bltn (v := .ty "dict") (by rfl) mDict (by decide +kernel) rfl) pa_nil))))) (pss_one (ps_ret pe_bl)) pss_nil)
      (pss_cons (ps_if (pt_not (pt_val (pe_callB (cr_all rfl) (by rfl) mAll (by decide +kernel) (pa_cons
          (pe_lock (pe_lc (own := [("node", 7), ("number", 8)]) (g := gTup K 2 (gCons (gName 7) (gCons (gName 8) gNil))) (tt := tYes) (te := tAndV (tOp (rIn K false) (tVar 7) (tProp C (spDots C) [] E0 (tVar 0))) (tCall spNum [] E0 (tCons (tVar 8) tNil))) rfl nd (pi_items (pv 5)) (blkOk_by (own := [("node", 7), ("number", 8)]) (N := nIsPaper) (sc := defScope p_is_paper) (by decide +kernel))
            (fun _ _ _ _ _ => pg_tup rfl (pgs_cons (pg_name (i := 7) nd rfl (Or.inl rfl)) (pgs_cons (pg_name (i := 8) nd rfl (Or.inl rfl)) pgs_nil))) (fun _ _ _ _ _ => pts_nil) (fun _ _ _ _ _ => pe_and (pe_cmpR op_in_seq (pv 7) (pe_prop (pv 0) T.cl at2 G2 r2 c2 .nil pass0 rfl) rfl) (pe_one (pe_call F5 r2 rfl g5 k5 b5 .nil pass0 (pa_cons (pv 8) pa_nil)))))) pa_nil)))) (pss_one (ps_ret pe_bl)) pss_nil)
      (pss_cons (ps_if (pt_not (pt_val (pe_callB (cr_all rfl) (by rfl) mAll (by decide +kernel) (pa_cons
          (pe_lc (own := [("node", 7)]) (g := gName 7) (tt := tYes) (te := tDIn (tVar 7) (tVar 5)) rfl nd (pi_tup (pe_call F3 r3 rfl g3 k3 b3 .nil pass0 (pa_cons (pv 0) (pa_cons (pv 3) pa_nil)))) (blkOk_by (own := [("node", 7)]) (N := nIsPaper) (sc := defScope p_is_paper) (by decide +kernel))
            (fun _ _ _ _ _ => pg_name (i := 7) nd rfl (Or.inl rfl)) (fun _ _ _ _ _ => pts_nil) (fun _ _ _ _ _ => pe_cmp (pc_din hu (pv 7) (pv 5)) rfl)) pa_nil)))) (pss_one (ps_ret pe_bl)) pss_nil)
      (C8.pss_cut (ps_if (PW.pt (pw_and (pt_cmpR op_eq (pv 3) pe_str (nomark _)) (pw_and1 (pt_not (pt_val (pe_callB (cr_all rfl) (by rfl) mAll (by decide +kernel) (pa_cons
          (pe_lc (own := [("node", 7)]) (g := gName 7) (tt := tYes) (te := tOp (rI0 fun i j => .bl (decide (i ≤ j))) (tDGet (tVar 5) (tVar 7)) (tCall (spPassedAny (K := K)) [] E0 (tCons (tProp C (spPosts C) [] E0 (tVar 0)) (tCons (tC (.int 0)) (tCons (tVar 7) tNil))))) rfl nd (pi_tup (pe_prop (pv 0) T.cl at3 G3 r2 c3 .nil pass0 rfl)) (blkOk_by (own := [("node", 7)]) (N := nIsPaper) (sc := defScope p_is_paper) (by decide +kernel))
            (fun _ _ _ _ _ => pg_name (i := 7) nd rfl (Or.inl rfl)) (fun _ _ _ _ _ => pts_nil) (fun _ _ _ _ _ => pe_cmpR op_le (pe_dget hu (pv 5) (pv 7) (fun _ _ => rfl)) (pe_call F2 r1 rfl g2 k2 b2 .nil pass0 (pa_cons (pe_prop (pv 0) T.cl at1 G1 r2 c1 .nil pass0 rfl) (pa_cons pe_int (pa_cons (pv 7) pa_nil)))) (nomark _))) pa_nil))))))) (pss_one (ps_ret pe_bl)) pss_nil)
      (pss_cons (ps_set (i := 6) nd rfl (.inr rfl) (pe_call F1 hr rfl g1 k1 b1 .nil pass0 (pa_cons (pv 0) (pa_cons (pv 1) (pa_cons (pv 2) (pa_cons (pv 4) pa_nil))))))
      (pss_one (ps_ret (pe_callB (cr_all rfl) (by rfl) mAll (by decide +kernel) (pa_cons
          (pe_lock (pe_lc (own := [("node", 7)]) (g := gName 7) (tt := tYes) (te := tCall (spFits C) [] E0 (tCons (tVar 0) (tCons (tVar 6) (tCons (tVar 3) (tCons (tVar 4) (tCons (tVar 5) (tCons (tVar 7) tNil))))))) rfl nd (pi_keys (pv 5)) (blkOk_by (own := [("node", 7)]) (N := nIsPaper) (sc := defScope p_is_paper) (by decide +kernel))
            (fun _ _ _ _ _ => pg_name (i := 7) nd rfl (Or.inl rfl)) (fun _ _ _ _ _ => pts_nil) (fun _ _ _ _ _ => pe_call F4 r3 rfl g4 k4 b4 .nil pass0 (pa_cons (pv 0) (pa_cons (pv 6) (pa_cons (pv 3) (pa_cons (pv 4) (pa_cons (pv 5) (pa_cons (pv 7) pa_nil))))))))) pa_nil)))))))), ?_⟩
    have e2 := ok.e2
    have d6 := ok.d6
    have p2 := ok.p2
    have dl : dom.length ≤ 6 := Nat.le_trans (nodup_le dom dots dnd dsub) d6
    have tl : (tkv (nW dom g)).length = dom.length := by rw [tkv_len, nW_len]
    have Wb : Webs dots (spotsOf (o e) (n e) zs ys) := webs_of ok he (tok.to e he) (tok.tn e he)
    obtain ⟨dx, T', N', S, Po, rows, h1, _⟩ := N.ex
    have stm : ∀ z ∈ startsOf wd dots ss, z ∈ dots := fun z hz => by
      unfold startsOf at hz
      split at hz
      · exact hz
      · exact ok.sd z hz
    have stl : (startsOf wd dots ss).length ≤ 6 := by
      unfold startsOf
      split
      · exact d6
      · exact Nat.le_trans (nodup_le ss dots ok.sn ok.sd) d6
    refine ⟨.ref pa, rfl, .ref pa, .ty "dict", _, _, true, rfl, .ty _, .base (.dK hpa), kit_ty (by decide +kernel), true, rfl, iteF ?_⟩
    -- value.items()
    refine ⟨pa, .dK (tkv (nW dom g)), hpa, trivial, fun od => ?_⟩
    have locked : (upd H pa (.frz od (.dK (tkv (nW dom g))))) pa = some (.frz od (.dK (tkv (nW dom g)))) := upd_same
    have xL : Evl.Ex H0 (upd H pa (.frz od (.dK (tkv (nW dom g))))) := x0.mut p0
    have back : ∀ {Hx : Hp}, Evl.Ex (upd H pa (.frz od (.dK (tkv (nW dom g))))) Hx → Evl.Ex H (upd Hx pa (.dK (tkv (nW dom g)))) := fun {Hx} x b o h => by
      by_cases z : b = pa
      · subst z
        rw [upd_same, ← hpa, h]
      · rw [upd_ne z]
        exact x _ _ (by rw [upd_ne z]; exact h)
    generalize upd H pa (.frz od (.dK (tkv (nW dom g)))) = HL at locked xL back
    refine ⟨.ref pa, rfl, pa, od, _, rfl, locked, fun R hR => lc_it walk_items (fun i H' => Evl.Ex HL H' ∧ H' R = some (.lst ((List.replicate i true).map V.bl))) ⟨Evl.Ex.new hR, upd_same⟩ (fun i H' _ h => h.1 _ _ locked) ?_ ?_⟩
    · rintro i x H2 H2' hi ⟨x2, r2⟩ ⟨Tt, xk, xv, rfl, hTt, rfl, hxk, hxv⟩
      rw [tl] at hi
      obtain ⟨kv, hkv⟩ : ∃ kv, (tkv (nW dom g))[i]? = some kv := ⟨_, List.getElem?_eq_getElem (by rw [tl]; exact hi)⟩
      obtain ⟨z, hz, e1, e2'⟩ := nW_at (k := kv.1) (v := kv.2) (by rw [hkv])
      have hxk : some (kV kv.1) = some xk := by rw [← hxk]; exact (congrArg (Option.map fun kv => kV kv.1) hkv).symm
      have hxv : some kv.2 = some xv := by rw [← hxv]; exact (congrArg (Option.map Prod.snd) hkv).symm
      have exk : xk = .str z := by rw [← Option.some.inj hxk, e1]; rfl
      have exv : xv = .int (g z : Int) := by rw [← Option.some.inj hxv]; exact e2'
      subst exk exv
      have y2 : Evl.Ex H2 (upd H2 Tt (.tup [.str z, .int (g z : Int)])) := Evl.Ex.new hTt
      have x02 := (xL.trans x2).trans y2
      refine ⟨Tt, _, rfl, Evl.st_of upd_same, rfl, _, _, rfl, _, [], rfl, rfl, rfl, yes_if ⟨.str z, rfl, .ref m, rfl, m, dx, _, rfl, x02 _ _ h1, m, ends, dots, ss, ps, o, n, rfl, N.to x02, fun q hq => ⟨q, dots.map V.str, rfl, .inr (Evl.st_of hq), rfl, flat_strs _, ?_⟩⟩⟩
      rw [if_neg (by decide), inV_str, decide_eq_true (dsub z (List.mem_of_getElem? hz))]
      refine ⟨true, rfl, iteT ⟨.int (g z : Int), rfl, g z, rfl, ?_⟩⟩
      refine ⟨_, y2 _ _ r2, by rw [List.length_map, List.length_replicate]; exact small1000 (by omega), (x2.trans y2).mut hR, ?_⟩
      rw [upd_same, List.replicate_succ', List.map_append]
      rfl
    rintro H2 ⟨x2, r2⟩
    have nRD : R ≠ pa := fun z => by rw [z, locked] at hR; cases hR
    have x12 := back x2
    refine ⟨x2 _ _ locked, R, List.replicate (tkv (nW dom g)).length true, rfl, Evl.sq_of (by rw [upd_ne nRD]; exact r2), true, ?_, iteF ?_⟩
    · rw [show (List.replicate (tkv (nW dom g)).length true).all id = true from List.all_eq_true.mpr fun b hb => by rw [List.eq_of_mem_replicate hb]; rfl]
    have d2 : (upd H2 pa (.dK (tkv (nW dom g)))) pa = some (.dK (tkv (nW dom g))) := upd_same
    generalize upd H2 pa (.dK (tkv (nW dom g))) = H3 at x12 d2
    clear back locked xL
    -- all([node in value for node in starts(..)])
    have x03 := x0.trans x12
    refine ⟨.ref m, rfl, .str wd, rfl, m, wd, ends, dots, ss, ps, o, n, rfl, N.to x03, fun sp hsp => ⟨sp, rfl, ⟨_, Evl.st_of hsp⟩, fun R2 hR2 => lc_tup (K := K) (a := sp) (xs := (startsOf wd dots ss).map V.str)
      (fun i H' => Evl.Ex H3 H' ∧ H' R2 = some (.lst (((startsOf wd dots ss).take i).map fun y => V.bl (decide (y ∈ dom))))) ⟨Evl.Ex.new hR2, upd_same⟩ (fun i H' _ h => Evl.st_of (h.1 _ _ hsp)) ?_ ?_⟩⟩
    · rintro i v H4 hi ⟨x4, r4⟩
      obtain ⟨y, hy, rfl⟩ := str_at hi
      have et : (startsOf wd dots ss).take (i + 1) = (startsOf wd dots ss).take i ++ [y] := by rw [List.take_add_one, hy]; rfl
      refine ⟨rfl, yes_if ⟨.str y, rfl, .ref pa, rfl, pa, _, rfl, .inl ⟨_, Sum.inr y, .inl (x4 _ _ d2), rfl, rfl⟩, ?_⟩⟩
      rw [nW_has]
      refine ⟨_, r4, by rw [List.length_map, List.length_take]; exact small1000 (by omega), x4.mut hR2, ?_⟩
      rw [upd_same, et, List.map_append]
      rfl
    rintro H4 ⟨x4, r4⟩
    rw [List.length_map, List.take_length] at r4
    refine ⟨R2, (startsOf wd dots ss).map fun y => decide (y ∈ dom), rfl, Evl.sq_of (by rw [r4, List.map_map]; rfl), ?_⟩
    rw [all_map]
    have x14 := x12.trans x4
    cases hin : (startsOf wd dots ss).all fun y => decide (y ∈ dom) with
    | false =>
      refine ⟨false, rfl, iteT (k false H4 x14 ⟨(fun c => nomatch c), fun c => ?_⟩)⟩
      rw [all_dec.mpr c.st] at hin
      cases hin
    | true =>
    have hin' : ∀ y ∈ startsOf wd dots ss, y ∈ dom := all_dec.mp hin
    refine ⟨true, rfl, iteF ?_⟩
    have d4 := x4 _ _ d2
    have x04 := x03.trans x4
    -- the posts
    refine ⟨fun σ' H' => σ' = [some (.ref m), some (.ref a), some (.ref b), some (.str wd), some (.str e), some (.ref pa), none, none, none] ∧ Evl.Ex H4 H' ∧ (wd = ("posts" : Str) → ∀ z ∈ ss, g z ≤ stepP ps 0 (.str z)), ?_, ?_⟩
    · refine ⟨.str wd, rfl, rfl, _, rfl, ite2 (fun q => ?_) (fun q => ?_)⟩
      · have ew : wd = ("posts" : Str) := by simpa using of_decide_eq_true q
        have est : startsOf wd dots ss = ss := by unfold startsOf; rw [if_neg (by rw [ew]; decide)]
        refine ⟨.ref m, rfl, m, dx, _, rfl, x04 _ _ h1, m, ends, dots, ss, ps, o, n, rfl, N.to x04, fun sp hsp => ⟨sp, rfl, ⟨_, Evl.st_of hsp⟩, fun R3 hR3 => lc_tup (K := K) (a := sp) (xs := ss.map V.str)
          (fun i H' => Evl.Ex H4 H' ∧ H' R3 = some (.lst ((ss.take i).map fun y => V.bl (decide (g y ≤ stepP ps 0 (.str y)))))) ⟨Evl.Ex.new hR3, upd_same⟩ (fun i H' _ h => Evl.st_of (h.1 _ _ hsp)) ?_ ?_⟩⟩
        · rintro i v H5 hi ⟨x5, r5⟩
          obtain ⟨y, hy, rfl⟩ := str_at hi
          have et : ss.take (i + 1) = ss.take i ++ [y] := by rw [List.take_add_one, hy]; rfl
          have yS := List.mem_of_getElem? hy
          have ydm : y ∈ dom := hin' y (by rw [est]; exact yS)
          have x05 := x04.trans x5
          have sl : ss.length ≤ 6 := Nat.le_trans (nodup_le ss dots ok.sn ok.sd) d6
          refine ⟨rfl, yes_if ⟨.ref pa, rfl, .str y, rfl, pa, _, rfl, .inl ⟨_, Sum.inr y, .inl (x5 _ _ d4), rfl, (nW_get ydm).symm⟩, .ref m, rfl, m, dx, _, rfl, x05 _ _ h1, m, ends, dots, ss, ps, o, n, rfl, N.to x05, fun p hp => ⟨.str y, rfl, p, ps, 0, .str y, rfl, Evl.st_of hp, by omega, .inr ⟨y, rfl, ok.dm y (ok.sd y yS)⟩, _, _, rfl, rfl, ?_⟩⟩⟩
          refine ⟨_, r5, by rw [List.length_map, List.length_take]; exact small1000 (by omega), x5.mut hR3, ?_⟩
          rw [upd_same, et, List.map_append]
          refine congrArg (fun q => some (HO.lst (_ ++ [q]))) (congrArg V.bl ?_)
          exact decide_eq_decide.mpr ⟨fun c => by omega, fun c => by omega⟩
        · rintro H5 ⟨x5, r5⟩
          rw [List.length_map, List.take_length] at r5
          refine ⟨R3, ss.map fun y => decide (g y ≤ stepP ps 0 (.str y)), rfl, Evl.sq_of (by rw [r5, List.map_map]; rfl), ?_⟩
          rw [all_map]
          cases hp : ss.all fun y => decide (g y ≤ stepP ps 0 (.str y)) with
          | false =>
            refine ⟨false, rfl, iteT (k false H5 (x14.trans x5) ⟨(fun c => nomatch c), fun c => ?_⟩)⟩
            rw [all_dec.mpr (c.p0 ew)] at hp
            cases hp
          | true => exact ⟨true, rfl, iteF ⟨rfl, x5, fun _ => all_dec.mp hp⟩⟩
      · have ew : ¬ wd = ("posts" : Str) := fun z => by subst z; exact absurd q (by decide)
        exact ⟨rfl, Evl.Ex.refl _, fun c => absurd c ew⟩
    rintro σ H5 ⟨rfl, x5, hps⟩
    have x05 := x04.trans x5
    have d5 := x5 _ _ d4
    refine ⟨.ref m, rfl, .ref a, rfl, .ref b, rfl, .str e, rfl, m, a, b, e, zs, ys, ends, dots, ss, ps, o, n, rfl, N.to x05, ok, he, La.ex x05, Lb.ex x05, dis, fun D H6 x6 hD M => ?_⟩
    have d6' := x6 _ _ d5
    have M6 := M.r
    generalize spotsOf (o e) (n e) zs ys = fs at Wb k M6 M
    have nDp : D ≠ pa := fun z => by rw [z, d5] at hD; cases hD
    have ML : ∀ od, MixR (upd H6 pa (.frz od (.dK (tkv (nW dom g))))) D dots fs := fun od => by
      obtain ⟨rs, g1, g2, g3⟩ := M.ex
      refine ⟨rs, .inl (by rw [upd_ne nDp]; exact g1), g2, fun q hq => ?_⟩
      obtain ⟨l, e1, e2, e3⟩ := g3 q hq
      exact ⟨l, e1, by rw [upd_ne (ne_of e3 d6' (by intro z; cases z))]; exact e3⟩
    have x06 := x05.trans x6
    refine ⟨pa, .dK (tkv (nW dom g)), d6', trivial, fun od => ?_⟩
    have locked : (upd H6 pa (.frz od (.dK (tkv (nW dom g))))) pa = some (.frz od (.dK (tkv (nW dom g)))) := upd_same
    have xL : Evl.Ex H0 (upd H6 pa (.frz od (.dK (tkv (nW dom g))))) := x06.mut p0
    have ML' := ML od
    have back : ∀ {Hx : Hp}, Evl.Ex (upd H6 pa (.frz od (.dK (tkv (nW dom g))))) Hx → Evl.Ex H6 (upd Hx pa (.dK (tkv (nW dom g)))) := fun {Hx} x b o h => by
      by_cases z : b = pa
      · subst z
        rw [upd_same, ← d6', h]
      · rw [upd_ne z]
        exact x _ _ (by rw [upd_ne z]; exact h)
    generalize upd H6 pa (.frz od (.dK (tkv (nW dom g)))) = HL at locked xL back ML'
    refine ⟨.ref pa, rfl, pa, od, rfl, .inl ⟨_, locked, fun R4 hR4 => lc_it walk_keys (fun i H' => Evl.Ex HL H' ∧ ∃ bs : List Bool, H' R4 = some (.lst (bs.map V.bl)) ∧ bs.length = i ∧ (bs.all id = true ↔ ∀ z ∈ dom.take i, FitsP wd e ps dots fs dom g z)) ⟨Evl.Ex.new hR4, [], upd_same, rfl, ⟨(fun _ z hz => nomatch hz), fun _ => rfl⟩⟩ (fun i H' _ h => h.1 _ _ locked) ?_ ?_⟩⟩
    · rintro i x H7 H7' hi ⟨x7, bs, r7, bl, be⟩ ⟨rfl, kk, v, hkv, rfl⟩
      rw [tl] at hi
      obtain ⟨z, hz, rfl, rfl⟩ := nW_at hkv
      have zm := List.mem_of_getElem? hz
      have et : dom.take (i + 1) = dom.take i ++ [z] := by rw [List.take_add_one, hz]; rfl
      refine ⟨rfl, yes_if ⟨.ref m, rfl, .ref D, rfl, .str wd, rfl, .str e, rfl, .ref pa, rfl, .str z, rfl, m, D, pa, wd, e, z, dom, g, fs, ends, dots, ss, ps, o, n, rfl, N.to (xL.trans x7), by omega, ML'.to x7, Wb, .inr ⟨od, x7 _ _ locked⟩, dsub z zm, zm, w4, fun b8 H8 x8 hb8 => ?_⟩⟩
      refine ⟨_, x8 _ _ r7, by rw [List.length_map]; exact small1000 (by omega), (x7.trans x8).mut hR4, bs ++ [b8], ?_, by rw [List.length_append, bl]; rfl, ?_⟩
      · rw [upd_same, List.map_append]
        rfl
      · rw [et, List.all_append, Bool.and_eq_true, be, show ([b8].all id = true ↔ b8 = true) by simp, hb8]
        constructor
        · rintro ⟨c1, c2⟩ y hy
          rcases List.mem_append.mp hy with hy | hy
          · exact c1 y hy
          · rw [List.mem_singleton.mp hy]; exact c2
        · intro c
          exact ⟨fun y hy => c y (List.mem_append_left _ hy), c z (List.mem_append_right _ (List.mem_singleton.mpr rfl))⟩
    · rintro H7 ⟨x7, bs, r7, bl, be⟩
      rw [tl, List.take_length] at be
      have nR4 : R4 ≠ pa := fun z => by rw [z, locked] at hR4; cases hR4
      refine ⟨x7 _ _ locked, R4, bs, rfl, Evl.sq_of (by rw [upd_ne nR4]; exact r7), ?_⟩
      exact k _ _ ((x14.trans (x5.trans x6)).trans (back x7)) ⟨fun c => pap_fits hin' hps (be.mp c), fun c => be.mpr (fits_pap c)⟩
end
end Rw
end T_IP

section T_AP
set_option Elab.async false
set_option linter.all false
set_option maxRecDepth 100000
set_option maxHeartbeats 16000000
namespace Rw
open PySem L2 PyProof.Rows LamX
/-- papers for all goals, each of them behind what stood before -/
structure PapsAt (H0 H : Hp) (D : Addr) (ends dots : List Str) (dm : Str → List Str) (gm : Str → Str → Nat) : Prop where
  ex : ∃ rs : List (Str × V), H D = some (.dK (tkv rs)) ∧ (rs.map (·.1)).Perm ends ∧ ∀ q ∈ rs, ∃ pa : Addr, q.2 = .ref pa ∧ H0 pa = none ∧ H pa = some (.dK (tkv (nW (dm q.1) (gm q.1))))
  nd : ∀ e ∈ ends, (dm e).Nodup
  sub : ∀ e ∈ ends, ∀ z ∈ dm e, z ∈ dots
theorem PapsAt.to {H0 H H' : Hp} {D : Addr} {ends dots : List Str} {dm : Str → List Str} {gm : Str → Str → Nat} (h : PapsAt H0 H D ends dots dm gm) (x : Evl.Ex H H') : PapsAt H0 H' D ends dots dm gm := by
  obtain ⟨rs, h1, h2, h3⟩ := h.ex
  exact ⟨⟨rs, x _ _ h1, h2, fun q hq => let ⟨a, e, e0, h⟩ := h3 q hq; ⟨a, e, e0, x _ _ h⟩⟩, h.nd, h.sub⟩
theorem PapsAt.get {H0 H : Hp} {D : Addr} {ends dots : List Str} {dm : Str → List Str} {gm : Str → Str → Nat} (h : PapsAt H0 H D ends dots dm gm) {e : Str} (he : e ∈ ends) : ∃ pa, DGet H D (.str e) (some (.ref pa)) ∧ H0 pa = none ∧ H pa = some (.dK (tkv (nW (dm e) (gm e)))) := by
  obtain ⟨rs, h1, h2, h3⟩ := h.ex
  obtain ⟨v, hv, hm⟩ := tkv_some (tb := rs) (z := e) (h2.mem_iff.mpr he)
  obtain ⟨a, e1, e0, h'⟩ := h3 _ hm
  have e' : v = .ref a := e1
  subst e'
  exact ⟨a, .inl ⟨_, Sum.inr e, .inl h1, rfl, hv.symm⟩, e0, h'⟩
section
variable {P : Program} {w : World} {K : PySem.W.Frag} {mg : Str → Option Value} {base : Heap}
def spArePapers (C : Addr) : Sp := fun vs H Q _ => ∃ (m a b D : Addr) (wd : Str) (dm : Str → List Str) (gm : Str → Str → Nat) (zs ys ends dots ss ps : List Str) (o n : Str → List (Str × V)) (H0 : Hp), vs = [.ref m, .ref a, .ref b, .str wd, .ref D] ∧ Evl.Ex H0 H ∧ NetAt C H0 m ends dots ss ps o n ∧ ModelOk ends dots ss ps ∧ TabsOk ends dots o n ∧
  LotAt H0 a zs (moving ends dots o n) ∧ LotAt H0 b ys (moving ends dots o n) ∧ (∀ y ∈ ys, y ∉ zs) ∧ PapsAt H0 H D ends dots dm gm ∧ wish4 wd ∧
  ∀ bb H', Evl.Ex H H' → (bb = true ↔ ∀ e ∈ ends, Pap wd e (startsOf wd dots ss) ss ps dots (spotsOf (o e) (n e) zs ys) (dm e) (gm e)) → Q (.bl bb) H'
abbrev nArePapers : List Str := ["net", "done", "lot", "wish", "value", "goal"]
theorem sc_are_papers : FnScope nArePapers ["net", "done", "lot", "wish", "value"] (defScope p_are_papers) := ⟨rfl, rfl, rfl, by decide +kernel, rfl, by decide +kernel, by decide +kernel⟩
theorem ok_are_papers {f C : Addr} {fd : FuncData} (F : Fun K "are_papers" "are_papers" p_are_papers f fd) (T : NetTxt K C) (C1 : Cal P w K mg base 7 "is_paper" ["net", "done", "lot", "wish", "goal", "value"] (spIsPaper C)) (P1 : Prp P w K mg base C 1 "goals" (spGoals C)) (mAll : mg "all" = none) (mIsi : mg "isinstance" = none) (mDict : mg "dict" = none) (mLen : mg "len" = none) :
    FnOk P w K mg base CX0 8 f fd ["net", "done", "lot", "wish", "value"] (spArePapers C) := by
  obtain ⟨f1, fd1, F1, k1, b1, g1⟩ := C1.ex
  obtain ⟨q1, u1, vd1, at1, G1, c1⟩ := P1.ex
  refine F.ok sc_are_papers (fun vs H Q E h => ?_) (fun cdv A outer s H vs Q E hr h => ?_)
  · obtain ⟨m, a, b, D, wd, dm, gm, zs, ys, ends, dots, ss, ps, o, n, H0, rfl, _⟩ := h
    rfl
  · obtain ⟨m, a, b, D, wd, dm, gm, zs, ys, ends, dots, ss, ps, o, n, H0, rfl, x0, N, ok, tok, La, Lb, dis, PA, w4, k⟩ := h
    have nd := sc_are_papers.nd
    have hu := hu_of hr
    have r2 : Room 2 _ := hr.mono (by decide)
    refine ⟨_, pss_cons (ps_if (PW.pt (pw_or (pt_not (pt_val (pe_callB call_isi (by rfl) mIsi (by decide +kernel) (pa_cons (pv 4) (pa_cons (pe_bltn (v := .ty "dict") (by rfl) mDict (by decide +kernel) rfl) pa_nil)))))
        (pw_or1 (pt_cmpR op_ne (pe_callB call_lenD (by rfl) mLen PySem.boot_len (pa_cons (pv 4) pa_nil)) (pe_callB call_len (by rfl) mLen PySem.boot_len (pa_cons (pe_prop (pv 0) T.cl at1 G1 r2 c1 .nil pass0 rfl) pa_nil)) (nomark _))))) (pss_one (ps_ret pe_bl)) pss_nil)
      (pss_one (ps_ret (pe_callB (cr_all rfl) (by rfl) mAll (by decide +kernel) (pa_cons
          (pe_lc (own := [("goal", 5)]) (g := gName 5) (tt := tYes) (te := tAndV (tDIn (tVar 5) (tVar 4)) (tCall (spIsPaper C) [] E0 (tCons (tVar 0) (tCons (tVar 1) (tCons (tVar 2) (tCons (tVar 3) (tCons (tVar 5) (tCons (tDGet (tVar 4) (tVar 5)) tNil)))))))) rfl nd (pi_tup (pe_prop (pv 0) T.cl at1 G1 r2 c1 .nil pass0 rfl)) (blkOk_by (own := [("goal", 5)]) (N := nArePapers) (sc := defScope p_are_papers) (by decide +kernel))
            (fun _ _ _ _ _ => pg_name (i := 5) nd rfl (Or.inl rfl)) (fun _ _ _ _ _ => pts_nil) (fun _ _ _ _ _ => pe_and (pe_cmp (pc_din hu (pv 5) (pv 4)) rfl) (pe_one (pe_call F1 hr rfl g1 k1 b1 .nil pass0 (pa_cons (pv 0) (pa_cons (pv 1) (pa_cons (pv 2) (pa_cons (pv 3) (pa_cons (pv 5) (pa_cons (pe_dget hu (pv 4) (pv 5) (fun _ _ => rfl)) pa_nil)))))))))) pa_nil)))), ?_⟩
    have e2 := ok.e2
    obtain ⟨dx, T', N', S, Po, rows, h1, _⟩ := N.ex
    obtain ⟨rs, r1, rp, r3⟩ := PA.ex
    have rl : rs.length = ends.length := by rw [← rp.length_eq, List.length_map]
    refine ⟨.ref D, rfl, .ref D, .ty "dict", _, _, true, rfl, .ty _, .base (.dK r1), kit_ty (by decide +kernel), true, rfl, iteF ?_⟩
    refine ⟨.ref D, rfl, D, _, rfl, r1, .ref m, rfl, m, dx, _, rfl, x0 _ _ h1, m, ends, dots, ss, ps, o, n, rfl, N.to x0, by omega, fun q hq => ⟨.ref q, ends.length, rfl, .inr ⟨_, Evl.st_of upd_same, by rw [List.length_map]⟩, rfl, _, rfl, ?_⟩⟩
    rw [decide_eq_true (show V.int ((tkv rs).length : Int) = V.int (ends.length : Int) by rw [tkv_len, rl])]
    refine iteF ?_
    have y1 : Evl.Ex H (upd H q (.tup (ends.map V.str))) := Evl.Ex.new hq
    generalize upd H q (.tup (ends.map V.str)) = H1 at y1
    have x01 := x0.trans y1
    refine ⟨.ref m, rfl, m, dx, _, rfl, x01 _ _ h1, m, ends, dots, ss, ps, o, n, rfl, N.to x01, by omega, fun q2 hq2 => ?_⟩
    have y2 : Evl.Ex H1 (upd H1 q2 (.tup (ends.map V.str))) := Evl.Ex.new hq2
    have tq : (upd H1 q2 (.tup (ends.map V.str))) q2 = some (.tup (ends.map V.str)) := upd_same
    generalize upd H1 q2 (.tup (ends.map V.str)) = H2 at y2 tq
    have x12 := y1.trans y2
    refine ⟨q2, rfl, ⟨_, Evl.st_of tq⟩, fun R hR => lc_tup (K := K) (a := q2) (xs := ends.map V.str)
      (fun i H' => Evl.Ex H2 H' ∧ ∃ bs : List Bool, H' R = some (.lst (bs.map V.bl)) ∧ bs.length = i ∧ (bs.all id = true ↔ ∀ e ∈ ends.take i, Pap wd e (startsOf wd dots ss) ss ps dots (spotsOf (o e) (n e) zs ys) (dm e) (gm e))) ⟨Evl.Ex.new hR, [], upd_same, rfl, ⟨(fun _ z hz => nomatch hz), fun _ => rfl⟩⟩ (fun i H' _ h => Evl.st_of (h.1 _ _ tq)) ?_ ?_⟩
    · rintro i v H3 hi ⟨x3, bs, r3', bl, be⟩
      obtain ⟨e, he, rfl⟩ := str_at hi
      have il : i < ends.length := (List.getElem?_eq_some_iff.mp he).1
      have em := List.mem_of_getElem? he
      have et : ends.take (i + 1) = ends.take i ++ [e] := by rw [List.take_add_one, he]; rfl
      have x13 := x12.trans x3
      obtain ⟨pa, g1', g2', g3'⟩ := (PA.to x13).get em
      refine ⟨rfl, yes_if ⟨.str e, rfl, .ref D, rfl, D, _, rfl, g1', true, rfl, iteT ⟨.ref m, rfl, .ref a, rfl, .ref b, rfl, .str wd, rfl, .str e, rfl, .ref D, rfl, .str e, rfl, D, _, rfl, g1', m, a, b, pa, wd, e, dm e, gm e, zs, ys, ends, dots, ss, ps, o, n, H0, rfl, x0.trans x13, g2', N, ok, tok, em, La, Lb, dis, g3', PA.nd e em, PA.sub e em, w4, fun b8 H8 x8 hb8 => ?_⟩⟩⟩
      refine ⟨_, x8 _ _ r3', by rw [List.length_map]; exact small1000 (by omega), (x3.trans x8).mut hR, bs ++ [b8], ?_, by rw [List.length_append, bl]; rfl, ?_⟩
      · rw [upd_same, List.map_append]
        rfl
      · rw [et, List.all_append, Bool.and_eq_true, be, show ([b8].all id = true ↔ b8 = true) by simp, hb8]
        constructor
        · rintro ⟨c1, c2⟩ y hy
          rcases List.mem_append.mp hy with hy | hy
          · exact c1 y hy
          · rw [List.mem_singleton.mp hy]; exact c2
        · intro c
          exact ⟨fun y hy => c y (List.mem_append_left _ hy), c e (List.mem_append_right _ (List.mem_singleton.mpr rfl))⟩
    · rintro H3 ⟨x3, bs, r3', bl, be⟩
      rw [List.length_map, List.take_length] at be
      exact ⟨R, bs, rfl, Evl.sq_of r3', k _ H3 (x12.trans x3) be⟩
/-! ### is_fault of a goal, a moment and a node -/
def spFaultAny (C : Addr) : Sp := fun vs H Q _ => ∃ (m a b p c : Addr) (wd e z : Str) (zs on ys ends dots ss ps : List Str) (o n : Str → List (Str × V)), vs = [.ref m, .ref a, .ref b, .str wd, .ref p] ∧ NetAt C H m ends dots ss ps o n ∧ ModelOk ends dots ss ps ∧ TabsOk ends dots o n ∧
  LotAt H a zs (moving ends dots o n) ∧ LotAt H b ys (moving ends dots o n) ∧ H p = some (.tup [.str e, .ref c, .str z]) ∧ LotAt H c on ys ∧ e ∈ ends ∧ z ∈ dots ∧ ∀ H', Evl.Ex H H' → Q (.bl (decide (z ∈ startsOf wd dots ss) && brk dots ps o n wd (zs ++ on) e z)) H'
abbrev nIsFault : List Str := ["net", "done", "lot", "wish", "value", "goal", "changed", "node"]
theorem sc_is_fault : FnScope nIsFault ["net", "done", "lot", "wish", "value"] (defScope p_is_fault) := ⟨rfl, rfl, rfl, by decide +kernel, rfl, by decide +kernel, by decide +kernel⟩
theorem ok_fault_any {f C : Addr} {fd : FuncData} (F : Fun K "is_fault" "is_fault" p_is_fault f fd) (T : NetTxt K C) (P1 : Prp P w K mg base C 1 "goals" (spGoals C)) (C1 : Cal P w K mg base 3 "ways_at" ["net", "done", "changed", "goal"] (spWaysAt (K := K) C))
    (C2 : Cal P w K mg base 3 "starts" ["net", "wish"] (spStarts C)) (C3 : Cal P w K mg base 3 "breaks" ["net", "wish", "goal", "places"] (spBreaks C)) (C4 : Cal P w K mg base 1 "followed" ["table", "node"] spFollowed) (C5 : Cal P w K mg base 1 "is_lot_of" ["value", "nodes"] spLotOf)
    (mIsi : mg "isinstance" = none) (mTup : mg "tuple" = none) (mLen : mg "len" = none) :
    FnOk P w K mg base CX0 4 f fd ["net", "done", "lot", "wish", "value"] (spFaultAny C) := by
  obtain ⟨p1, g1, fd1, at1, F1, b1⟩ := P1.ex
  obtain ⟨f2, fd2, F2, k2, b2, g2⟩ := C1.ex
  obtain ⟨f3, fd3, F3, k3, b3, g3⟩ := C2.ex
  obtain ⟨f4, fd4, F4, k4, b4, g4⟩ := C3.ex
  obtain ⟨f5, fd5, F5, k5, b5, g5⟩ := C4.ex
  obtain ⟨f6, fd6, F6, k6, b6, g6⟩ := C5.ex
  refine F.ok sc_is_fault (fun vs H Q E h => ?_) (fun cdv A outer s H vs Q E hr h => ?_)
  · obtain ⟨m, a, b, p, c, wd, e, z, zs, on, ys, ends, dots, ss, ps, o, n, rfl, _⟩ := h
    rfl
  · obtain ⟨m, a, b, p, c, wd, e, z, zs, on, ys, ends, dots, ss, ps, o, n, rfl, N, ok, tok, La, Lb, hp, LA, em, zd, k⟩ := h
    have nd := sc_is_fault.nd
    have hr1 : Room 1 _ := hr.mono (by decide)
    have hr2 : Room 2 _ := hr.mono (by decide)
    refine ⟨_, pss_cons (ps_if (PW.pt (pw_or (pt_not (pt_val (pe_callB call_isi (by rfl) mIsi (by decide +kernel) (pa_cons (pv 4) (pa_cons (pe_bltn (v := .ty "tuple") (by rfl) mTup (by decide +kernel) rfl) pa_nil)))))
          (pw_or1 (pt_cmpR op_ne (pe_callB call_len (by rfl) mLen PySem.boot_len (pa_cons (pv 4) pa_nil)) pe_int (nomark _))))) (pss_one (ps_ret pe_bl)) pss_nil)
      (pss_cons (ps_asg (pv 4) (pg_tup rfl (pgs_cons (pg_name (i := 5) nd rfl (.inl rfl)) (pgs_cons (pg_name (i := 6) nd rfl (.inl rfl)) (pgs_cons (pg_name (i := 7) nd rfl (.inl rfl)) pgs_nil)))))
      (pss_cons (ps_if (PW.pt (pw_or (pt_cmpR op_notIn_seq (pv 5) (pe_prop (pv 0) T.cl at1 F1 hr2 b1 .nil pass0 rfl) rfl) (pw_or (pt_not (pt_val (pe_call F6 hr1 rfl g6 k6 b6 .nil pass0 (pa_cons (pv 6) (pa_cons (pv 2) pa_nil)))))
          (pw_or1 (pt_cmpR op_notIn_seq (pv 7) (pe_call F3 hr rfl g3 k3 b3 .nil pass0 (pa_cons (pv 0) (pa_cons (pv 3) pa_nil))) rfl))))) (pss_one (ps_ret pe_bl)) pss_nil)
      (pss_one (ps_ret (pe_call F4 hr rfl g4 k4 b4 .nil pass0 (pa_cons (pv 0) (pa_cons (pv 3) (pa_cons (pv 5) (pa_cons (pe_call F5 hr1 rfl g5 k5 b5 .nil pass0 (pa_cons (pe_call F2 hr rfl g2 k2 b2 .nil pass0 (pa_cons (pv 0) (pa_cons (pv 1) (pa_cons (pv 6) (pa_cons (pv 5) pa_nil))))) (pa_cons (pv 7) pa_nil))) pa_nil))))))))), ?_⟩
    have e2 := ok.e2
    have d6 := ok.d6
    have p2 := ok.p2
    have N2 := N
    obtain ⟨dx, T', N', S, Po, rows, h1, h2, h3, h4, h5, h6, h7⟩ := N.ex
    refine ⟨.ref p, rfl, .ref p, .ty "tuple", _, _, true, rfl, .ty _, .base (.tup hp), kit_ty (by decide +kernel), true, rfl, iteF ?_⟩
    refine ⟨.ref p, rfl, .ref p, 3, rfl, .inr ⟨_, Evl.st_of hp, rfl⟩, rfl, false, rfl, iteF ?_⟩
    refine ⟨.ref p, rfl, p, _, rfl, Evl.st_of hp, rfl, _, _, rfl, _, _, rfl, _, [], rfl, rfl, ?_⟩
    refine ⟨.str e, rfl, .ref m, rfl, m, dx, _, rfl, h1, m, ends, dots, ss, ps, o, n, rfl, N2, by omega, fun q hq => ?_⟩
    have x0 : Evl.Ex H (upd H q (.tup (ends.map V.str))) := Evl.Ex.new hq
    have tq : (upd H q (.tup (ends.map V.str))) q = some (.tup (ends.map V.str)) := upd_same
    generalize upd H q (.tup (ends.map V.str)) = H0 at x0 tq
    refine ⟨q, ends.map V.str, rfl, .inr (Evl.st_of tq), rfl, flat_strs _, _, rfl, ?_⟩
    rw [inV_str, decide_eq_true em]
    refine iteF ⟨.ref c, rfl, .ref b, rfl, c, b, on, ys, rfl, LA.ex x0, x0 _ _ Lb.ha, fun H1 x1 => ⟨true, rfl, iteF ?_⟩⟩
    have x01 := x0.trans x1
    refine ⟨.str z, rfl, .ref m, rfl, .str wd, rfl, m, wd, ends, dots, ss, ps, o, n, rfl, N2.to x01, fun r hr' => ?_⟩
    refine ⟨r, (startsOf wd dots ss).map V.str, rfl, .inr (Evl.st_of hr'), rfl, flat_strs _, _, rfl, ?_⟩
    rw [inV_str]
    by_cases zm : z ∈ startsOf wd dots ss
    · rw [decide_eq_true zm] at k ⊢
      refine iteF ?_
      refine ⟨.ref m, rfl, .str wd, rfl, .str e, rfl, .ref m, rfl, .ref a, rfl, .ref c, rfl, .str e, rfl, m, a, c, e, zs, on, ends, dots, ss, ps, o, n, rfl, N2.to x01, by omega, ok.en, by omega, ok.dn, em, Evl.st_of (x01 _ _ La.ha), Evl.st_of (x01 _ _ LA.ha), fun D H3 x3 hD dD => ?_⟩
      have x03 := x01.trans x3
      have LD : LeadOk dots (nowTab dots (o e) (n e) (zs ++ on)) := nowTab_lead (tok.to e em) (tok.tn e em) ok.dm (ok.em e em)
      refine ⟨.str z, rfl, D, z, dots, _, rfl, dD, LD, by omega, ok.dm z zd, fun bb H5 x5 hbb hb5 => ?_⟩
      obtain ⟨xs, u, ew, hu⟩ := track_form (tb := nowTab dots (o e) (n e) (zs ++ on)) LD.sp (dots.length + 1) [] (.str z) (.inr ⟨z, rfl, ok.dm z zd⟩)
      have ewl : walkOf (nowTab dots (o e) (n e) (zs ++ on)) (dots.length + 1) z = xs.map V.str ++ [u] := ew
      have len : xs.length ≤ 200 := by
        have q1 := track_len (tb := nowTab dots (o e) (n e) (zs ++ on)) (dots.length + 1) [] (.str z)
        rw [ew, List.length_append, List.length_map] at q1
        simp only [List.length_nil, List.length_cons] at q1
        omega
      have nmz : ∀ y ∈ xs, Nm y := fun y hy => by
        have q1 := track_spots (tb := nowTab dots (o e) (n e) (zs ++ on)) LD.sp (dots.length + 1) [] (.str z) (fun _ h => nomatch h) (.inr ⟨z, rfl, ok.dm z zd⟩) (.str y) (by rw [ew]; exact List.mem_append_left _ (List.mem_map_of_mem hy))
        rcases q1 with q1 | ⟨y', q1, q2⟩
        · cases q1
        · cases q1
          exact q2
      rw [ewl] at hb5
      have x05 := x03.trans x5
      refine ⟨m, bb, wd, e, xs, u, ends, dots, ss, ps, o, n, rfl, N2.to x05, hb5, nmz, hu, len, by omega, fun H6 x6 => ?_⟩
      have eb : breaksB wd e ps (xs.map V.str ++ [u]) = brk dots ps o n wd (zs ++ on) e z := by unfold brk; rw [ewl]
      rw [eb]
      exact k H6 (x05.trans x6)
    · rw [decide_eq_false zm] at k ⊢
      exact iteT (k H1 x01)
/-! ### is_shown -/
def spCheckWish : Sp := fun vs H Q _ => ∃ wd : Str, vs = [.str wd] ∧ wd ∈ wishesL ∧ Q .non H
theorem sc_check_wish : FnScope ["wish"] ["wish"] (defScope p_check_wish) := ⟨rfl, rfl, rfl, by decide +kernel, rfl, by decide +kernel, by decide +kernel⟩
theorem ok_check_wish {f Wa : Addr} {fd : FuncData} (F : Fun K "check_wish" "check_wish" p_check_wish f fd) (mW : mg "WISHES" = some (.ref Wa)) (hW : ∀ H, SqT K H Wa (wishesL.map V.str)) : FnOk P w K mg base CX0 1 f fd ["wish"] spCheckWish := by
  refine F.ok sc_check_wish (fun vs H Q E h => ?_) (fun cdv A outer s H vs Q E hr h => ?_)
  · obtain ⟨wd, rfl, _⟩ := h
    rfl
  · obtain ⟨wd, rfl, hw, k⟩ := h
    refine ⟨_, pss_one (ps_if (pt_cmpR op_notIn_seq (pv 0) (pe_glob (v := .ref Wa) (by rfl) mW rfl) rfl) (pss_one ps_never) pss_nil), ?_⟩
    refine ⟨.str wd, rfl, Wa, wishesL.map V.str, rfl, .inr (hW _), rfl, flat_strs _, _, rfl, ?_⟩
    rw [inV_str, decide_eq_true hw]
    exact iteF k
def spIsShown (C : Addr) : Sp := fun vs H Q _ => ∃ (m a b t : Addr) (wd : Str) (zs ys ends dots ss ps : List Str) (o n : Str → List (Str × V)) (H0 : Hp), vs = [.ref m, .ref a, .ref b, .str wd, .ref t] ∧ Evl.Ex H0 H ∧ NetAt C H0 m ends dots ss ps o n ∧ ModelOk ends dots ss ps ∧ TabsOk ends dots o n ∧
  LotAt H0 a zs (moving ends dots o n) ∧ LotAt H0 b ys (moving ends dots o n) ∧ (∀ y ∈ ys, y ∉ zs) ∧ wish4 wd ∧
  ((∃ (D : Addr) (dm : Str → List Str) (gm : Str → Str → Nat), H t = some (.tup [.str "kept", .ref D]) ∧ PapsAt H0 H D ends dots dm gm ∧
      ∀ bb H', Evl.Ex H H' → (bb = true ↔ ∀ e ∈ ends, Pap wd e (startsOf wd dots ss) ss ps dots (spotsOf (o e) (n e) zs ys) (dm e) (gm e)) → Q (.bl bb) H') ∨
   ∃ (p c : Addr) (e z : Str) (on : List Str), H t = some (.tup [.str "broken", .ref p]) ∧ H p = some (.tup [.str e, .ref c, .str z]) ∧ LotAt H c on ys ∧ e ∈ ends ∧ z ∈ dots ∧ ∀ H', Evl.Ex H H' → Q (.bl (decide (z ∈ startsOf wd dots ss) && brk dots ps o n wd (zs ++ on) e z)) H')
abbrev nIsShown : List Str := ["net", "done", "lot", "wish", "thing", "word", "proof"]
theorem sc_is_shown : FnScope nIsShown ["net", "done", "lot", "wish", "thing"] (defScope p_is_shown) := ⟨rfl, rfl, rfl, by decide +kernel, rfl, by decide +kernel, by decide +kernel⟩
theorem ok_is_shown {f C : Addr} {fd : FuncData} (F : Fun K "is_shown" "is_shown" p_is_shown f fd) (C1 : Cal P w K mg base 5 "check_round" ["net", "done", "lot", "part"] (spRound C)) (C2 : Cal P w K mg base 1 "check_wish" ["wish"] spCheckWish) (C3 : Cal P w K mg base 8 "are_papers" ["net", "done", "lot", "wish", "value"] (spArePapers C)) (C4 : Cal P w K mg base 4 "is_fault" ["net", "done", "lot", "wish", "value"] (spFaultAny C))
    (mIsi : mg "isinstance" = none) (mTup : mg "tuple" = none) (mLen : mg "len" = none) : FnOk P w K mg base CX0 9 f fd ["net", "done", "lot", "wish", "thing"] (spIsShown C) := by
  obtain ⟨f1, fd1, F1, k1, b1, g1⟩ := C1.ex
  obtain ⟨f2, fd2, F2, k2, b2, g2⟩ := C2.ex
  obtain ⟨f3, fd3, F3, k3, b3, g3⟩ := C3.ex
  obtain ⟨f4, fd4, F4, k4, b4, g4⟩ := C4.ex
  refine F.ok sc_is_shown (fun vs H Q E h => ?_) (fun cdv A outer s H vs Q E hr h => ?_)
  · obtain ⟨m, a, b, t, wd, zs, ys, ends, dots, ss, ps, o, n, H0, rfl, _⟩ := h
    rfl
  · obtain ⟨m, a, b, t, wd, zs, ys, ends, dots, ss, ps, o, n, H0, rfl, x0, N, ok, tok, La, Lb, dis, w4, k⟩ := h
    have nd := sc_is_shown.nd
    have r1 : Room 1 _ := hr.mono (by decide)
    have r4 : Room 4 _ := hr.mono (by decide)
    have r5 : Room 5 _ := hr.mono (by decide)
    refine ⟨_, pss_cons (ps_expr (pe_call F1 r5 rfl g1 k1 b1 .nil pass0 (pa_cons (pv 0) (pa_cons (pv 1) (pa_cons (pv 2) (pa_cons pe_str pa_nil))))))
      (pss_cons (ps_expr (pe_call F2 r1 rfl g2 k2 b2 .nil pass0 (pa_cons (pv 3) pa_nil)))
      (pss_cons (ps_if (PW.pt (pw_or (pt_not (pt_val (pe_callB call_isi (by rfl) mIsi (by decide +kernel) (pa_cons (pv 4) (pa_cons (pe_bltn (v := .ty "tuple") (by rfl) mTup (by decide +kernel) rfl) pa_nil)))))
          (pw_or1 (pt_cmpR op_ne (pe_callB call_len (by rfl) mLen PySem.boot_len (pa_cons (pv 4) pa_nil)) pe_int (nomark _))))) (pss_one (ps_ret pe_bl)) pss_nil)
      (pss_cons (ps_asg (pv 4) (pg_tup rfl (pgs_cons (pg_name (i := 5) nd rfl (.inl rfl)) (pgs_cons (pg_name (i := 6) nd rfl (.inl rfl)) pgs_nil))))
      (pss_cons (ps_if (pt_cmpR op_eq (pv 5) pe_str (nomark _)) (pss_one (ps_ret (pe_call F3 hr rfl g3 k3 b3 .nil pass0 (pa_cons (pv 0) (pa_cons (pv 1) (pa_cons (pv 2) (pa_cons (pv 3) (pa_cons (pv 6) pa_nil)))))))) pss_nil)
      (pss_one (ps_ret (pe_and (pe_cmpR op_eq (pv 5) pe_str (nomark _)) (pe_one (pe_call F4 r4 rfl g4 k4 b4 .nil pass0 (pa_cons (pv 0) (pa_cons (pv 1) (pa_cons (pv 2) (pa_cons (pv 3) (pa_cons (pv 6) pa_nil)))))))))))))), ?_⟩
    have e2 := ok.e2
    have d6 := ok.d6
    have wm : wd ∈ wishesL := by rcases w4 with rfl | rfl | rfl | rfl <;> decide
    refine ⟨.ref m, rfl, .ref a, rfl, .ref b, rfl, m, a, b, _, zs, ys, ends, dots, ss, ps, o, n, rfl, N.to x0, by omega, by omega, ok.en, La.ex x0, Lb.ex x0, dis, fun H1 x1 => ?_⟩
    refine ⟨.str wd, rfl, wd, rfl, wm, ?_⟩
    have x01 := x0.trans x1
    rcases k with ⟨D, dm, gm, ht, PA, k⟩ | ⟨p, c, e, z, on, ht, hp, LA, em, zd, k⟩
    · have ht1 := x1 _ _ ht
      refine ⟨.ref t, rfl, .ref t, .ty "tuple", _, _, true, rfl, .ty _, .base (.tup ht1), kit_ty (by decide +kernel), true, rfl, iteF ?_⟩
      refine ⟨.ref t, rfl, .ref t, 2, rfl, .inr ⟨_, Evl.st_of ht1, rfl⟩, rfl, false, rfl, iteF ?_⟩
      refine ⟨.ref t, rfl, t, _, rfl, Evl.st_of ht1, rfl, _, _, rfl, _, [], rfl, rfl, ?_⟩
      refine ⟨.str "kept", rfl, rfl, true, rfl, iteT ?_⟩
      exact ⟨.ref m, rfl, .ref a, rfl, .ref b, rfl, .str wd, rfl, .ref D, rfl, m, a, b, D, wd, dm, gm, zs, ys, ends, dots, ss, ps, o, n, H0, rfl, x01, N, ok, tok, La, Lb, dis, PA.to x1, w4, fun bb H2 x2 hb => k bb H2 (x1.trans x2) hb⟩
    · have ht1 := x1 _ _ ht
      refine ⟨.ref t, rfl, .ref t, .ty "tuple", _, _, true, rfl, .ty _, .base (.tup ht1), kit_ty (by decide +kernel), true, rfl, iteF ?_⟩
      refine ⟨.ref t, rfl, .ref t, 2, rfl, .inr ⟨_, Evl.st_of ht1, rfl⟩, rfl, false, rfl, iteF ?_⟩
      refine ⟨.ref t, rfl, t, _, rfl, Evl.st_of ht1, rfl, _, _, rfl, _, [], rfl, rfl, ?_⟩
      refine ⟨.str "broken", rfl, rfl, false, rfl, iteF ?_⟩
      refine ⟨.str "broken", rfl, rfl, true, rfl, iteT ?_⟩
      exact ⟨.ref m, rfl, .ref a, rfl, .ref b, rfl, .str wd, rfl, .ref p, rfl, m, a, b, p, c, wd, e, z, zs, on, ys, ends, dots, ss, ps, o, n, rfl, N.to x01, ok, tok, La.ex x01, Lb.ex x01, x1 _ _ hp, LA.ex x1, em, zd, fun H2 x2 => k H2 (x1.trans x2)⟩
end
end Rw
end T_AP

section T_GR
set_option Elab.async false
set_option linter.all false
set_option maxRecDepth 100000
set_option maxHeartbeats 16000000
namespace Rw
open PySem L2 PyProof.Rows
/-- a paper of some nodes -/
def PapV (H0 H : Hp) (dots : List Str) (v : V) : Prop := ∃ (pa : Addr) (dom : List Str) (g : Str → Nat), v = .ref pa ∧ H0 pa = none ∧ H pa = some (.dK (tkv (nW dom g))) ∧ dom.Nodup ∧ ∀ z ∈ dom, z ∈ dots
theorem PapV.to {H0 H H' : Hp} {dots : List Str} {v : V} (h : PapV H0 H dots v) (x : Evl.Ex H H') : PapV H0 H' dots v := by
  obtain ⟨pa, dom, g, e, e0, h1, h2⟩ := h
  exact ⟨pa, dom, g, e, e0, x _ _ h1, h2⟩
theorem paps_of {H0 H : Hp} {D : Addr} {ends dots : List Str} {rs : List (Str × V)} (nd : (rs.map (·.1)).Nodup) (h1 : H D = some (.dK (tkv rs))) (h2 : (rs.map (·.1)).Perm ends) (h3 : ∀ q ∈ rs, PapV H0 H dots q.2) : ∃ (dm : Str → List Str) (gm : Str → Str → Nat), PapsAt H0 H D ends dots dm gm := by
  have ch : ∀ e : Str, ∃ D : List Str × (Str → Nat), D.1.Nodup ∧ (∀ z ∈ D.1, z ∈ dots) ∧ ∀ q ∈ rs, q.1 = e → ∃ pa : Addr, q.2 = .ref pa ∧ H0 pa = none ∧ H pa = some (.dK (tkv (nW D.1 D.2))) := fun e => by
    by_cases he : e ∈ rs.map (·.1)
    · obtain ⟨q, hq, eq⟩ := List.mem_map.mp he
      obtain ⟨pa, dom, g, ev, e0, hp, hn, hs⟩ := h3 q hq
      refine ⟨(dom, g), hn, hs, fun q' hq' eq' => ?_⟩
      have : q' = q := by
        have v1 := tkv_val (z := q.1) (v := q.2) nd hq
        have v2 := tkv_val (z := q'.1) (v := q'.2) nd hq'
        rw [eq', ← eq, v1] at v2
        exact Prod.ext (eq'.trans eq.symm) (Option.some.inj v2).symm
      rw [this]
      exact ⟨pa, ev, e0, hp⟩
    · exact ⟨([], fun _ => 0), List.nodup_nil, (fun z hz => nomatch hz), fun q hq eq => absurd (List.mem_map.mpr ⟨q, hq, eq⟩) he⟩
  refine ⟨fun e => (Classical.choose (ch e)).1, fun e => (Classical.choose (ch e)).2, ⟨rs, h1, h2, fun q hq => (Classical.choose_spec (ch q.1)).2.2 q hq rfl⟩, fun e _ => (Classical.choose_spec (ch e)).1, fun e _ => (Classical.choose_spec (ch e)).2.1⟩
theorem ref_ne {H : Hp} {a b p : Addr} {rs : List (Str × V)} {dom : List Str} {g : Str → Nat} {q : Str × V} (h1 : H a = some (.dK (tkv rs))) (hq : q ∈ rs) (e : q.2 = .ref p) (h2 : H b = some (.dK (tkv (nW dom g)))) : b ≠ a := fun z => by
  rw [z, h1] at h2
  have e1 : rs = nW dom g := tkv_inj (HO.dK.inj (Option.some.inj h2))
  rw [e1] at hq
  unfold nW at hq
  obtain ⟨y, _, e2⟩ := List.mem_map.mp hq
  rw [← e2] at e
  cases e
theorem nW_list {dom : List Str} {g : Str → Nat} : (tkv (nW dom g)).map (fun kv => kV kv.1) = dom.map V.str := by
  unfold tkv nW
  rw [List.map_map, List.map_map]
  rfl
section
variable {P : Program} {w : World} {K : PySem.W.Frag} {mg : Str → Option Value} {base : Heap}
/-! ### papers with other numbers -/
def spGreater : Sp := fun vs H Q _ => ∃ (d g c m Pd nb tb sb pb : Addr) (wd : Str) (dm : Str → List Str) (gm : Str → Str → Nat) (ends dots ss ps : List Str) (rows : List (Str × V)) (o n : Str → List (Str × V)) (H0 : Hp), vs = [.ref d, .ref m, .ref Pd, .str wd] ∧ DrawAt H d g c ∧ Evl.Ex H0 (off d g H) ∧ H0 Pd = none ∧ ModelR H0 m nb tb sb pb ends dots ss ps rows o n ∧ PapsAt H0 (off d g H) Pd ends dots dm gm ∧
  ∀ (D' : Addr) (dm' : Str → List Str) (gm' : Str → Str → Nat) (H' : Hp), DrawAt H' d g c → Evl.Ex (off d g H) (off d g H') → H0 D' = none → PapsAt H0 (off d g H') D' ends dots dm' gm' → Q (.ref D') H'
abbrev nGreater : List Str := ["draw", "model", "papers", "word", "found", "way", "target", "rows", "node", "more"]
theorem sc_greater : FnScope nGreater ["draw", "model", "papers", "word"] (defScope s_greater) := ⟨rfl, rfl, rfl, by decide +kernel, rfl, by decide +kernel, by decide +kernel⟩
theorem ok_greater {f : Addr} {fd : FuncData} (F : Fun K "_law_greater" "_law_greater" s_greater f fd) (CT : Cal P w K mg base 2 "_law_take" ["draw", "size"] spTake) (mDict : mg "dict" = none) (mList : mg "list" = none) (mMax : mg "max" = none) : FnOk P w K mg base CX0 3 f fd ["draw", "model", "papers", "word"] spGreater := by
  obtain ⟨fT, fdT, T, kT, bT, gT⟩ := CT.ex
  refine F.ok sc_greater (fun vs H Q E h => ?_) (fun cdv A outer s H vs Q E hr h => ?_)
  · obtain ⟨d, g, c, m, Pd, nb, tb, sb, pb, wd, dm, gm, ends, dots, ss, ps, rows, o, n, H0, rfl, _⟩ := h
    rfl
  · obtain ⟨d, g, c, m, Pd, nb, tb, sb, pb, wd, dm, gm, ends, dots, ss, ps, rows, o, n, H0, rfl, D, x0, P0, MS, PA, k⟩ := h
    have nd := sc_greater.nd
    have hu := hu_of hr
    refine ⟨_, PSs.nox (pss_cons (ps_par (i := 4) (j := 5) (by rfl) nd rfl rfl (by decide) rfl rfl (pa_cons pe_dnewK (pa_cons (pe_call T hr rfl gT kT bT .nil pass0 (pa_cons (pv 0) (pa_cons pe_int pa_nil))) pa_nil)) (by rfl))
      (pss_cons (ps_lock (ps_for PassesOwn.never rfl (pi_keys (pv 2)) (pg_name (i := 6) nd rfl (.inl rfl))
        (pss_cons (ps_set (i := 7) nd rfl (.inl rfl) (pe_callTy call_dictD (by rfl) mDict (by decide +kernel) (pa_cons (pe_dget hu (pv 2) (pv 6) (fun _ _ => rfl)) pa_nil)))
        (C8.pss_cut (ps_for PassesOwn.never rfl (pi_list (pe_callTy (call_listD rfl) (by rfl) mList (by decide +kernel) (pa_cons (pv 7) pa_nil))) (pg_name (i := 8) nd rfl (.inl rfl))
          (pss_cons (ps_set (i := 9) nd rfl (.inl rfl) (pe_ix ix_list (pe_lst (pa_cons (pe_op op_mul (pe_dget hu (pv 7) (pv 8) (fun _ _ => rfl)) pe_int) (pa_cons (pe_op op_add (pe_dget hu (pv 7) (pv 8) (fun _ _ => rfl)) pe_int) (pa_cons (pe_op op_mul (pe_dget hu (pv 7) (pv 8) (fun _ _ => rfl)) (pe_op op_pow pe_int pe_int)) pa_nil)))) (pv 5) (fun _ _ => rfl)))
          (pss_one (ps_dput hu (pv 7) (pv 8) (pe_ifExp (pt_cmpR op_eq (pv 3) pe_str (nomark _)) (pe_callB (call_max2 rfl) (by rfl) mMax (by decide +kernel) (pa_cons pe_int (pa_cons (pe_op op_sub (pe_dget hu (pv 7) (pv 8) (fun _ _ => rfl)) (pv 5)) pa_nil))) (pv 9)) rfl))))
        (C8.pss_cut (ps_for PassesOwn.never rfl (pi_list (pe_dget hu (pv 1) pe_str (fun _ _ => rfl))) (pg_name (i := 8) nd rfl (.inl rfl))
          (pss_one (ps_if (PW.pt (pw_and (pt_cmp (pc_dnotin hu (pv 8) (pv 7)) rfl) (pw_and1 (pt_cmpR op_eq (pe_call T hr rfl gT kT bT .nil pass0 (pa_cons (pv 0) (pa_cons pe_int pa_nil))) pe_int (nomark _)))))
            (pss_one (ps_dput hu (pv 7) (pv 8) (pe_call T hr rfl gT kT bT .nil pass0 (pa_cons (pv 0) (pa_cons pe_int pa_nil))) rfl)) pss_nil)))
        (pss_one (ps_dput hu (pv 4) (pv 6) (pv 7) rfl)))))))
      (pss_one (ps_ret (pv 4))))), ?_⟩
    have ok := MS.ok
    have e2 := ok.e2
    have d6 := ok.d6
    -- found, way
    refine fun Fd hF => ?_
    obtain ⟨D1, x1, f1, Fn, _⟩ := off_new (o := .dK []) D (Evl.Ex.refl _) hF
    have Fc : Fd ≠ c := (D.ned hF).2.2
    have F0 : H Fd = none := hF
    generalize upd H Fd (.dK []) = H1 at D1 x1 f1
    refine ⟨.ref d, rfl, d, g, c, 3, rfl, by decide, by decide, D1, fun wy H2 wy0 wy3 D2 x2 => ⟨_, _, rfl, ?_⟩⟩
    have x02 := x1.trans x2
    have f2 := x2 _ _ f1
    obtain ⟨rs0, p1, p2, p3⟩ := PA.ex
    have pd2 : off d g H2 Pd = some (.dK (tkv rs0)) := x02 _ _ p1
    have rl0 : rs0.length ≤ 2 := by
      have := p2.length_eq
      rw [List.length_map] at this
      omega
    have FP : Fd ≠ Pd := fun z => by rw [z] at Fn; rw [p1] at Fn; cases Fn
    -- the papers are locked
    refine ⟨Pd, .dK (tkv rs0), (off_some pd2).2.2, trivial, fun od => ?_⟩
    have Pc : Pd ≠ c := draw_c D2 pd2 (by intro xs z; cases z)
    have DL : DrawAt (upd H2 Pd (.frz od (.dK (tkv rs0)))) d g c := D2.mut (off_some pd2).1 (off_some pd2).2.1 Pc
    have lockO : off d g (upd H2 Pd (.frz od (.dK (tkv rs0)))) Pd = some (.frz od (.dK (tkv rs0))) := off_of upd_same (off_some pd2).1 (off_some pd2).2.1
    have upO : ∀ {b : Addr} {u : HO}, off d g H2 b = some u → b ≠ Pd → off d g (upd H2 Pd (.frz od (.dK (tkv rs0)))) b = some u := fun h ne => off_up h ne
    have fL := upO f2 FP
    have x0L : Evl.Ex H0 (off d g (upd H2 Pd (.frz od (.dK (tkv rs0))))) := fun b u h => upO (x02 _ _ (x0 _ _ h)) (fun z => by rw [z, P0] at h; cases h)
    -- without found
    have backO : ∀ {Hx : Hp}, Evl.Ex (woA Fd (off d g (upd H2 Pd (.frz od (.dK (tkv rs0)))))) (off d g Hx) → Evl.Ex (off d g H) (off d g (upd Hx Pd (.dK (tkv rs0)))) := fun {Hx} x b u h => by
      have hb := off_some h
      by_cases q : b = Pd
      · subst q
        rw [p1] at h
        rw [← Option.some.inj h]
        exact off_of upd_same hb.1 hb.2.1
      · refine off_up (x _ _ ?_) q
        have nF : b ≠ Fd := fun z => by rw [z, F0] at hb; cases hb.2.2
        rw [woA_ne nF]
        exact upO (x02 _ _ h) q
    have PL : ∀ q ∈ rs0, ∃ (pa : Addr) (dom : List Str) (g' : Str → Nat), q.2 = .ref pa ∧ woA Fd (off d g (upd H2 Pd (.frz od (.dK (tkv rs0))))) pa = some (.dK (tkv (nW dom g'))) ∧ dom.Nodup ∧ ∀ z ∈ dom, z ∈ dots := fun q hq => by
      obtain ⟨pa, ev, e0, hp⟩ := p3 q hq
      have em : q.1 ∈ ends := p2.mem_iff.mp (List.mem_map_of_mem hq)
      have nP : pa ≠ Pd := ref_ne p1 hq ev hp
      have nF : pa ≠ Fd := fun z => by rw [z, Fn] at hp; cases hp
      exact ⟨pa, _, _, ev, by rw [woA_ne nF]; exact upO (x02 _ _ hp) nP, PA.nd q.1 em, PA.sub q.1 em⟩
    have lockW : woA Fd (off d g (upd H2 Pd (.frz od (.dK (tkv rs0))))) Pd = some (.frz od (.dK (tkv rs0))) := by rw [woA_ne FP.symm]; exact lockO
    have nW0 : woA Fd (off d g (upd H2 Pd (.frz od (.dK (tkv rs0))))) Fd = none := woA_none
    have xW : Evl.Ex (woA Fd (off d g (upd H2 Pd (.frz od (.dK (tkv rs0)))))) (off d g (upd H2 Pd (.frz od (.dK (tkv rs0))))) := woA_ex _ _
    have x0W : Evl.Ex H0 (woA Fd (off d g (upd H2 Pd (.frz od (.dK (tkv rs0)))))) := fun b u h => by
      have nF : b ≠ Fd := fun z => by
        have := off_some (x0 _ _ h)
        rw [z, F0] at this
        cases this.2.2
      rw [woA_ne nF]
      exact x0L _ _ h
    generalize upd H2 Pd (.frz od (.dK (tkv rs0))) = HL at DL lockO fL backO PL lockW nW0 xW x0W
    generalize woA Fd (off d g HL) = HB at backO PL lockW nW0 xW x0W
    obtain ⟨wn, ewy, wn3⟩ : ∃ wn : Nat, wy = (wn : Int) ∧ wn < 3 := ⟨wy.toNat, by omega, by omega⟩
    subst ewy
    have Fd1 := (off_some fL).1
    have Fd2 := (off_some fL).2.1
    have en : (rs0.map (·.1)).Nodup := p2.nodup_iff.mpr ok.en
    refine ⟨.ref Pd, rfl, Pd, od, rfl, .inl ⟨_, (off_some lockO).2.2, for_it walk_keys
      (fun i σ H' => ∃ (x6 x7 x8 x9 : Option V) (rs : List (Str × V)), σ = [some (.ref d), some (.ref m), some (.ref Pd), some (.str wd), some (.ref Fd), some (.int (wn : Int)), x6, x7, x8, x9] ∧ DrawAt H' d g c ∧ Evl.Ex HB (off d g H') ∧ off d g H' Fd = some (.dK (tkv rs)) ∧ rs.map (·.1) = (rs0.map (·.1)).take i ∧ ∀ q ∈ rs, PapV HB (off d g H') dots q.2)
      ⟨none, none, none, none, [], rfl, DL, xW, fL, rfl, fun q hq => nomatch hq⟩ (fun i σ H' _ ⟨_, _, _, _, _, _, _, x, _⟩ => (off_some (x _ _ lockW)).2.2) ?_ ?_⟩⟩
    · rintro i x σ H3 H3' hi ⟨x6, x7, x8, x9, rs, rfl, D3, x3, f3, ek, hv⟩ ⟨rfl, kk, v, hkv, rfl⟩
      obtain ⟨e, he, rfl⟩ := wkey_at (rs := rs0) rfl hkv
      have em : e ∈ rs0.map (·.1) := List.mem_of_getElem? he
      obtain ⟨vp, hvp, hmp⟩ := tkv_some (tb := rs0) (z := e) em
      obtain ⟨pa, dom0, g0, ev, hpa, dn0, ds0⟩ := PL _ hmp
      have ev' : vp = .ref pa := ev
      subst ev'
      have dl0 : dom0.length ≤ 6 := Nat.le_trans (nodup_le dom0 dots dn0 ds0) d6
      refine ⟨.ref Pd, rfl, .str e, rfl, Pd, _, rfl, dgR (k := Sum.inr e) (.inr ⟨od, (off_some (x3 _ _ lockW)).2.2⟩) hvp, pa, _, rfl, .inl (off_some (x3 _ _ hpa)).2.2, fun ra hra => ?_⟩
      obtain ⟨D4, x4, r4, ran, _⟩ := off_new (o := .dK (tkv (nW dom0 g0))) D3 (Evl.Ex.refl _) hra
      have rac : ra ≠ c := (D3.ned hra).2.2
      generalize upd H3' ra (.dK (tkv (nW dom0 g0))) = H4 at D4 x4 r4
      -- the numbers
      refine ⟨fun σ' H' => ∃ (x8 x9 : Option V) (g' : Str → Nat), σ' = [some (.ref d), some (.ref m), some (.ref Pd), some (.str wd), some (.ref Fd), some (.int (wn : Int)), some (.str e), some (.ref ra), x8, x9] ∧ DrawAt H' d g c ∧ Evl.Ex (off d g H3') (off d g H') ∧ off d g H' ra = some (.dK (tkv (nW dom0 g'))), ?_, ?_⟩
      · refine ⟨.ref ra, rfl, ra, _, rfl, .inl (off_some r4).2.2, fun l0 hl0 => ?_⟩
        rw [nW_list]
        obtain ⟨D5, x5, l5, l5n, y5⟩ := off_new (o := .lst (dom0.map V.str)) D4 x4 hl0
        have r5 := y5 _ _ r4
        have nl0 : l0 ≠ ra := fun z => by rw [z, (off_some r4).2.2] at hl0; cases hl0
        generalize upd H4 l0 (.lst (dom0.map V.str)) = H5 at D5 x5 l5 y5 r5
        refine ⟨l0, rfl, ⟨_, Evl.sq_of (off_some l5).2.2⟩, for_list (K := K) (a := l0) (xs := dom0.map V.str)
          (fun j σ H' => ∃ (x8 x9 : Option V) (g' : Str → Nat), σ = [some (.ref d), some (.ref m), some (.ref Pd), some (.str wd), some (.ref Fd), some (.int (wn : Int)), some (.str e), some (.ref ra), x8, x9] ∧ DrawAt H' d g c ∧ Evl.Ex (off d g H3') (off d g H') ∧ off d g H' l0 = some (.lst (dom0.map V.str)) ∧ off d g H' ra = some (.dK (tkv (nW dom0 g'))))
          ⟨x8, x9, g0, rfl, D5, x5, l5, r5⟩ (fun i σ H' _ ⟨_, _, _, _, _, _, h, _⟩ => Evl.sq_of (off_some h).2.2) ?_ ?_⟩
        · rintro j v σ H6 hj ⟨x8', x9', g', rfl, D6, x6', l6, r6⟩
          obtain ⟨z, hz, rfl⟩ := str_at hj
          have zm := List.mem_of_getElem? hz
          have dg : ∀ {Hx : Hp}, off d g Hx ra = some (.dK (tkv (nW dom0 g'))) → DGet Hx ra (.str z) (some (.int (g' z : Int))) := fun h => dgR (k := Sum.inr z) (.inl (off_some h).2.2) (nW_get zm)
          refine ⟨.ref ra, rfl, .str z, rfl, ra, _, rfl, dg r6, _, _, rfl, rfl, .inr (by decide), .ref ra, rfl, .str z, rfl, ra, _, rfl, dg r6, _, _, rfl, rfl, .ref ra, rfl, .str z, rfl, ra, _, rfl, dg r6, 10, 12, rfl, rfl, ⟨by decide, by decide, by decide⟩, _, _, rfl, rfl, .inr (by decide), by show 3 ≤ sizeLine; decide, fun p hp => ?_⟩
          obtain ⟨mn, hat⟩ : ∃ mn : Nat, [V.int ((g' z : Int) * 2), V.int ((g' z : Int) + 5), V.int ((g' z : Int) * 10 ^ (12 : Int).toNat)][wn]? = some (.int (mn : Int)) := by
            obtain rfl | rfl | rfl : wn = 0 ∨ wn = 1 ∨ wn = 2 := by omega
            · exact ⟨g' z * 2, rfl⟩
            · exact ⟨g' z + 5, rfl⟩
            · exact ⟨g' z * 10 ^ 12, rfl⟩
          obtain ⟨D7, x7', _, _, y7⟩ := off_new (o := .lst [V.int ((g' z : Int) * 2), V.int ((g' z : Int) + 5), V.int ((g' z : Int) * 10 ^ (12 : Int).toNat)]) D6 x6' hp
          have p7 : (upd H6 p (.lst [V.int ((g' z : Int) * 2), V.int ((g' z : Int) + 5), V.int ((g' z : Int) * 10 ^ (12 : Int).toNat)])) p = some (.lst [V.int ((g' z : Int) * 2), V.int ((g' z : Int) + 5), V.int ((g' z : Int) * 10 ^ (12 : Int).toNat)]) := upd_same
          refine ⟨.int (wn : Int), rfl, p, _, (wn : Int), .int (mn : Int), rfl, rfl, Evl.sq_of p7, atI_nat hat, ?_⟩
          generalize upd H6 p (.lst [V.int ((g' z : Int) * 2), V.int ((g' z : Int) + 5), V.int ((g' z : Int) * 10 ^ (12 : Int).toNat)]) = H7 at D7 x7' y7
          have r7 := y7 _ _ r6
          have l7 := y7 _ _ l6
          have fin : ∀ k : Nat, ∃ (x8 x9 : Option V) (g'' : Str → Nat), [some (V.ref d), some (.ref m), some (.ref Pd), some (.str wd), some (.ref Fd), some (.int (wn : Int)), some (.str e), some (.ref ra), some (.str z), some (.int (mn : Int))] = [some (.ref d), some (.ref m), some (.ref Pd), some (.str wd), some (.ref Fd), some (.int (wn : Int)), some (.str e), some (.ref ra), x8, x9] ∧ DrawAt (upd H7 ra (.dK (putK (tkv (nW dom0 g')) (Sum.inr z) (.int (k : Int))))) d g c ∧ Evl.Ex (off d g H3') (off d g (upd H7 ra (.dK (putK (tkv (nW dom0 g')) (Sum.inr z) (.int (k : Int)))))) ∧ off d g (upd H7 ra (.dK (putK (tkv (nW dom0 g')) (Sum.inr z) (.int (k : Int))))) l0 = some (.lst (dom0.map V.str)) ∧ off d g (upd H7 ra (.dK (putK (tkv (nW dom0 g')) (Sum.inr z) (.int (k : Int))))) ra = some (.dK (tkv (nW dom0 g''))) := fun k => by
            obtain ⟨D8, x8, r8⟩ := off_put (o := .dK (putK (tkv (nW dom0 g')) (Sum.inr z) (.int (k : Int)))) D7 x7' ran r7 rac
            exact ⟨_, _, putG g' z k, rfl, D8, x8, off_up l7 nl0, by rw [r8, nW_old zm]⟩
          have room : (tkv (nW dom0 g')).length < sizeLine := by rw [tkv_len, nW_len]; exact small1000 (by omega)
          refine ⟨.str wd, rfl, rfl, _, rfl, ite2 (fun q => ?_) (fun q => ?_)⟩
          · obtain ⟨kn, hkn⟩ : ∃ kn : Nat, (if ((g' z : Int) - (wn : Int)) > 0 then ((g' z : Int) - (wn : Int)) else 0) = (kn : Int) := by
              by_cases c : ((g' z : Int) - (wn : Int)) > 0
              · exact ⟨g' z - wn, by rw [if_pos c]; omega⟩
              · exact ⟨0, if_neg c⟩
            refine ⟨.ref ra, rfl, .str z, rfl, ra, _, rfl, dg r7, .int (wn : Int), rfl, _, _, rfl, rfl, 0, _, rfl, ?_⟩
            rw [hkn]
            exact ⟨.ref ra, rfl, .str z, rfl, ra, _, rfl, DPut.k (k := Sum.inr z) (off_some r7).2.2 room, fin kn⟩
          · exact ⟨.int (mn : Int), rfl, .ref ra, rfl, .str z, rfl, ra, _, rfl, DPut.k (k := Sum.inr z) (off_some r7).2.2 room, fin mn⟩
        · rintro σ H6 ⟨x8', x9', g', rfl, D6, x6', l6, r6⟩
          exact ⟨x8', x9', g', rfl, D6, x6', r6⟩
      rintro σ H5 ⟨x8', x9', g', rfl, D5, x5, r5⟩
      -- further nodes
      have M5 : ModelR (off d g H5) m nb tb sb pb ends dots ss ps rows o n := MS.to (x0W.trans (x3.trans x5))
      refine ⟨fun σ' H' => ∃ (x8 x9 : Option V) (dom : List Str) (g' : Str → Nat), σ' = [some (.ref d), some (.ref m), some (.ref Pd), some (.str wd), some (.ref Fd), some (.int (wn : Int)), some (.str e), some (.ref ra), x8, x9] ∧ DrawAt H' d g c ∧ Evl.Ex (off d g H3') (off d g H') ∧ off d g H' ra = some (.dK (tkv (nW dom g'))) ∧ dom.Nodup ∧ ∀ z ∈ dom, z ∈ dots, ?_, ?_⟩
      · refine ⟨.ref m, rfl, m, _, rfl, dgK (off_some M5.hm).2.2 (mkS_nodes _ _ _ _), nb, rfl, ⟨_, Evl.sq_of (off_some M5.hn).2.2⟩, for_list (K := K) (a := nb) (xs := dots.map V.str)
          (fun j σ H' => ∃ (x8 x9 : Option V) (dom : List Str) (g' : Str → Nat), σ = [some (.ref d), some (.ref m), some (.ref Pd), some (.str wd), some (.ref Fd), some (.int (wn : Int)), some (.str e), some (.ref ra), x8, x9] ∧ DrawAt H' d g c ∧ Evl.Ex (off d g H3') (off d g H') ∧ off d g H' ra = some (.dK (tkv (nW dom g'))) ∧ dom.Nodup ∧ ∀ z ∈ dom, z ∈ dots)
          ⟨x8', x9', dom0, g', rfl, D5, x5, r5, dn0, ds0⟩ (fun i σ H' _ ⟨_, _, _, _, _, _, x, _⟩ => Evl.sq_of (off_some (x _ _ (MS.to (x0W.trans x3)).hn)).2.2) ?_ ?_⟩
        · rintro j v σ H6 hj ⟨x8'', x9'', dom, g'', rfl, D6, x6', r6, dn, ds⟩
          obtain ⟨y, hy, rfl⟩ := str_at hj
          have yd := List.mem_of_getElem? hy
          have dl := nodup_le dom dots dn ds
          refine ⟨.str y, rfl, .ref ra, rfl, ra, _, rfl, .inl ⟨_, Sum.inr y, .inl (off_some r6).2.2, rfl, rfl⟩, _, rfl, ?_⟩
          rw [nW_has]
          by_cases ym : y ∈ dom
          · rw [decide_eq_true ym]
            exact iteF ⟨_, _, dom, g'', rfl, D6, x6', r6, dn, ds⟩
          rw [decide_eq_false ym]
          refine iteT ⟨.ref d, rfl, d, g, c, 3, rfl, by decide, by decide, D6, fun t0 H7 t00 t01 D7 y7 => ⟨rfl, _, rfl, ?_⟩⟩
          have r7 := y7 _ _ r6
          have x7' := x6'.trans y7
          refine ite2 (fun q => ?_) (fun q => ?_)
          · refine ⟨.ref d, rfl, d, g, c, 3, rfl, by decide, by decide, D7, fun t1 H8 t10 t11 D8 y8 => ?_⟩
            have r8 := y8 _ _ r7
            have x8''' := x7'.trans y8
            obtain ⟨kn, rfl⟩ : ∃ kn : Nat, t1 = (kn : Int) := ⟨t1.toNat, by omega⟩
            refine ⟨.ref ra, rfl, .str y, rfl, ra, _, rfl, DPut.k (k := Sum.inr y) (off_some r8).2.2 (by rw [tkv_len, nW_len]; exact small1000 (by omega)), ?_⟩
            obtain ⟨D9, x9''', r9⟩ := off_put (o := .dK (putK (tkv (nW dom g'')) (Sum.inr y) (.int (kn : Int)))) D8 x8''' ran r8 rac
            refine ⟨_, _, dom ++ [y], putG g'' y kn, rfl, D9, x9''', by rw [r9, nW_new ym], ?_, fun z hz => ?_⟩
            · rw [List.nodup_append]
              exact ⟨dn, by simp, fun a ha b hb e => ym (by rw [List.mem_singleton.mp hb] at e; exact e ▸ ha)⟩
            · rcases List.mem_append.mp hz with hz | hz
              · exact ds z hz
              · rw [List.mem_singleton.mp hz]; exact yd
          · exact ⟨_, _, dom, g'', rfl, D7, x7', r7, dn, ds⟩
        · rintro σ H6 ⟨x8'', x9'', dom, g'', rfl, D6, x6', r6, dn, ds⟩
          exact ⟨x8'', x9'', dom, g'', rfl, D6, x6', r6, dn, ds⟩
      rintro σ H6 ⟨x8'', x9'', dom, g'', rfl, D6, x6', r6, dn, ds⟩
      -- found[target] = rows
      have f6 := x6' _ _ f3
      have x06 := x3.trans x6'
      have en' : e ∉ rs.map (·.1) := fun hm => by
        rw [ek] at hm
        have q1 : ((rs0.map (·.1)).take (i + 1)).Nodup := en.sublist (List.take_sublist _ _)
        rw [List.take_add_one, he] at q1
        exact (List.nodup_append.mp q1).2.2 e hm e (List.mem_singleton.mpr rfl) rfl
      have rsl : rs.length ≤ 2 := by
        have := congrArg List.length ek
        rw [List.length_map, List.length_take, List.length_map] at this
        omega
      have raF : ra ≠ Fd := fun z => by rw [z] at hra; rw [(off_some f3).2.2] at hra; cases hra
      have raB : HB ra = none := ex_none x3 ran
      refine ⟨.ref ra, rfl, .ref Fd, rfl, .str e, rfl, Fd, _, rfl, DPut.k (k := Sum.inr e) (off_some f6).2.2 (by rw [tkv_len]; exact small1000 (by omega)), ?_⟩
      rw [tkv_new en']
      refine ⟨_, _, _, _, rs ++ [(e, .ref ra)], rfl, D6.mut Fd1 Fd2 Fc, off_mut x06 nW0, off_of upd_same Fd1 Fd2, by rw [List.map_append, ek, List.take_add_one, he]; rfl, fun q hq => ?_⟩
      rcases List.mem_append.mp hq with hq | hq
      · obtain ⟨pa', dom', g3, e1, e2, e3, e4⟩ := (hv q hq).to x6'
        exact ⟨pa', dom', g3, e1, e2, off_up e3 (ref_ne f6 hq e1 e3), e4⟩
      · rw [List.mem_singleton.mp hq]
        exact ⟨ra, dom, g'', rfl, raB, off_up r6 raF, dn, ds⟩
    · rintro σ H3 ⟨x6, x7, x8, x9, rs, rfl, D3, x3, f3, ek, hv⟩
      rw [tkv_len, ← List.length_map (f := (·.1)), List.take_length] at ek
      refine ⟨(off_some (x3 _ _ lockW)).2.2, ?_⟩
      have x4 := backO x3
      have D4 : DrawAt (upd H3 Pd (.dK (tkv rs0))) d g c := D3.mut (off_some pd2).1 (off_some pd2).2.1 Pc
      have f4 : off d g (upd H3 Pd (.dK (tkv rs0))) Fd = some (.dK (tkv rs)) := off_up f3 FP
      have hv4 : ∀ q ∈ rs, PapV H0 (off d g (upd H3 Pd (.dK (tkv rs0)))) dots q.2 := fun q hq => by
        obtain ⟨pa, dom, g', e1, e2, e3, e4⟩ := hv q hq
        have nP : pa ≠ Pd := fun z => by rw [z, lockW] at e2; cases e2
        exact ⟨pa, dom, g', e1, ex_none x0W e2, off_up e3 nP, e4⟩
      obtain ⟨dm', gm', PA'⟩ := paps_of (ends := ends) (by rw [ek]; exact en) f4 (by rw [ek]; exact p2) hv4
      exact ⟨.ref Fd, rfl, k Fd dm' gm' _ D4 x4 (ex_none x0W nW0) PA'⟩
end
end Rw
end T_GR

section T_LPT
set_option Elab.async false
set_option linter.all false
set_option maxRecDepth 100000
set_option maxHeartbeats 8000000
namespace Rw
open PySem L2 PyProof.Rows
section
variable {P : Program} {w : World} {K : PySem.W.Frag} {mg : Str → Option Value} {base : Heap}
/-! ### all parts, as the law tells them -/
def spLPartsT (K : PySem.W.Frag) : Sp := fun vs H Q _ => ∃ (a : Addr) (zs : List Str), vs = [.ref a] ∧ SqT K H a (zs.map V.str) ∧ zs.length ≤ 6 ∧
  ∀ (p : Addr) (H' : Hp) (L : List (Addr × List Str)), Evl.Ex H H' → H p = none → H' p = some (.lst (L.map fun q => V.ref q.1)) → RowsT H' L → L.map (·.2) = partsS zs → Q (.ref p) H'
abbrev nLPartsT : List Str := ["some", "found", "name", "part", "many"]
theorem sc_lpartsT : FnScope nLPartsT ["some"] (defScope s_parts) := ⟨rfl, rfl, rfl, by decide +kernel, rfl, by decide +kernel, by decide +kernel⟩
theorem ok_lpartsT {f : Addr} {fd : FuncData} (F : Fun K "_law_parts" "_law_parts" s_parts f fd) (mLen : mg "len" = none) (mSorted : mg "sorted" = none) : FnOk P w K mg base CX0 1 f fd ["some"] (spLPartsT K) := by
  refine F.ok sc_lpartsT (fun vs H Q E h => ?_) (fun cdv A outer s H vs Q E hr h => ?_)
  · obtain ⟨a, zs, rfl, _⟩ := h
    rfl
  · obtain ⟨a, zs, rfl, hS, h6, k⟩ := h
    have nd := sc_lpartsT.nd
    refine ⟨_, pss_cons (ps_set (i := 1) nd rfl (.inl rfl) (pe_lst (pa_cons (pe_tup pa_nil) pa_nil)))
      (pss_cons (ps_for PassesOwn.never rfl (pi_tup (pv 0)) (pg_name (i := 2) nd rfl (.inr rfl))
        (pss_one (ps_set (i := 1) nd rfl (.inl rfl) (pe_op op_cat (pv 1)
          (pe_lc (own := [("part", 3)]) (g := gName 3) (tt := tYes) (te := tOp rCatU (tVar 3) (tTup (tCons (tVar 2) tNil))) rfl nd (pi_list (pv 1)) (blkOk_by (own := [("part", 3)]) (N := nLPartsT) (sc := defScope s_parts) (by decide +kernel))
            (fun _ _ _ _ _ => pg_name (i := 3) nd rfl (Or.inl rfl)) (fun _ _ _ _ _ => pts_nil) (fun _ _ _ _ _ => pe_op op_catU (pv 3) (pe_tup (pa_cons (pv 2) pa_nil))))))))
      (pss_one (ps_ret (pe_lc (own := [("many", 4), ("part", 3)]) (g := gTup K 2 (gCons (gName 4) (gCons (gName 3) gNil))) (tt := tYes) (te := tVar 3) rfl nd
          (pi_list (pe_callB (cr_sortNR (Nat.lt_of_le_of_lt (Nat.add_le_add_left (show 2 ≤ 64 by decide) _) hr.units)) (by rfl) mSorted (by decide +kernel) (pa_cons (pe_lc (own := [("part", 3)]) (g := gName 3) (tt := tYes) (te := tTup (tCons (tCB (fun xs H Q => ∃ x n, xs = [x] ∧ LenV K x H n ∧ Q (.int (n : Nat)) H) (tCons (tVar 3) tNil)) (tCons (tVar 3) tNil))) rfl nd (pi_list (pv 1)) (blkOk_by (own := [("part", 3)]) (N := nLPartsT) (sc := defScope s_parts) (by decide +kernel))
            (fun _ _ _ _ _ => pg_name (i := 3) nd rfl (Or.inl rfl)) (fun _ _ _ _ _ => pts_nil) (fun _ _ _ _ _ => pe_tup (pa_cons (pe_callB call_len (by rfl) mLen PySem.boot_len (pa_cons (pv 3) pa_nil)) (pa_cons (pv 3) pa_nil)))) pa_nil)))
          (blkOk_by (own := [("many", 4), ("part", 3)]) (N := nLPartsT) (sc := defScope s_parts) (by decide +kernel))
          (fun _ _ _ _ _ => pg_tup rfl (pgs_cons (pg_name (i := 4) nd rfl (Or.inl rfl)) (pgs_cons (pg_name (i := 3) nd rfl (Or.inl rfl)) pgs_nil))) (fun _ _ _ _ _ => pts_nil) (fun _ _ _ _ _ => pv 3))))), ?_⟩
    -- found = [()]
    refine ⟨by show 0 ≤ sizeLine; decide, fun e0 he0 => ⟨by show 1 ≤ sizeLine; decide, fun p0 hp0 => ?_⟩⟩
    have x1 : Evl.Ex H (upd (upd H e0 (.tup [])) p0 (.lst [.ref e0])) := (Evl.Ex.new he0).trans (Evl.Ex.new hp0)
    have l1 : (upd (upd H e0 (.tup [])) p0 (.lst [.ref e0])) p0 = some (.lst ([(e0, ([] : List Str))].map fun q => V.ref q.1)) := upd_same
    have t1 : RowsT (upd (upd H e0 (.tup [])) p0 (.lst [.ref e0])) [(e0, [])] := fun q hq => by
      rw [List.mem_singleton.mp hq]
      rw [upd_ne (ne_of_none (upd_same (H := H) (a := e0) (o := .tup [])) hp0)]
      exact upd_same
    generalize upd (upd H e0 (.tup [])) p0 (.lst [.ref e0]) = H1 at x1 l1 t1
    refine ⟨.ref a, rfl, a, rfl, ⟨_, Evl.ex_t x1 hS⟩, for_tup (K := K) (a := a) (xs := zs.map V.str)
      (fun i σ H' => i ≤ zs.length ∧ Evl.Ex H H' ∧ ∃ (p : Addr) (L : List (Addr × List Str)) (x2 : Option V), σ = [some (.ref a), some (.ref p), x2, none, none] ∧ H' p = some (.lst (L.map fun q => V.ref q.1)) ∧ RowsT H' L ∧ L.map (·.2) = parts0 (zs.take i))
      ⟨Nat.zero_le _, x1, p0, [(e0, [])], none, rfl, l1, t1, rfl⟩ (fun i σ H' _ h => Evl.ex_t h.2.1 hS) ?_ ?_⟩
    · rintro i y σ H2 hi ⟨_, x2, p, L, v2, rfl, hp, tL, eL⟩
      obtain ⟨z, hz, rfl⟩ := str_at hi
      have hil : i < zs.length := (List.getElem?_eq_some_iff.mp hz).1
      have few : L.length ≤ 64 := by
        have h1 := congrArg List.length eL
        rw [List.length_map, parts0_len i _ (by rw [List.length_take]; omega)] at h1
        rw [h1]
        exact Nat.le_trans (Nat.pow_le_pow_right (by decide) (by omega : i ≤ 6)) (by decide)
      have rowsLen : ∀ q ∈ L, q.2.length ≤ 6 := fun q hq => by
        have hm : q.2 ∈ parts0 (zs.take i) := by rw [← eL]; exact List.mem_map_of_mem hq
        exact Nat.le_trans (parts0_sub hm).length_le (by rw [List.length_take]; omega)
      refine ⟨.ref p, rfl, .ref p, rfl, p, rfl, ⟨_, Evl.sq_of hp⟩, fun D hD => lc_list (K := K) (a := p) (xs := L.map fun q => V.ref q.1)
        (fun j H' => j ≤ L.length ∧ Evl.Ex H2 H' ∧ ∃ M : List (Addr × List Str), H' D = some (.lst (M.map fun q => V.ref q.1)) ∧ RowsT H' M ∧ M.map (·.2) = (L.take j).map fun q => q.2 ++ [z])
        ⟨Nat.zero_le _, Evl.Ex.new hD, [], upd_same, (fun q hq => nomatch hq), rfl⟩ (fun j H' _ h => Evl.sq_of (h.2.1 _ _ hp)) ?_ ?_⟩
      · rintro j v H3 hj ⟨_, x3, M, hM, tM, eM⟩
        obtain ⟨q, hq, rfl⟩ := rowsT_at hj
        have hjl : j < L.length := (List.getElem?_eq_some_iff.mp hq).1
        have mq := List.mem_of_getElem? hq
        have tq := x3 _ _ (tL q mq)
        have Ml : M.length ≤ 64 := by
          have := congrArg List.length eM
          rw [List.length_map, List.length_map, List.length_take] at this
          omega
        refine ⟨rfl, yes_if ?_⟩
        refine ⟨.ref q.1, rfl, .str z, rfl, by show 1 ≤ sizeLine; decide, fun s hs => ?_⟩
        have y0 : Evl.Ex H3 (upd H3 s (.tup [.str z])) := Evl.Ex.new hs
        have s0 : (upd H3 s (.tup [.str z])) s = some (.tup [.str z]) := upd_same
        generalize upd H3 s (.tup [.str z]) = H3' at y0 s0
        refine ⟨q.1, s, _, _, rfl, rfl, y0 _ _ tq, s0, ?_, fun t H4 y1 t2 => ?_⟩
        · rw [List.length_map]
          have := rowsLen q mq
          exact Nat.le_of_lt (small1000 (by simp only [List.length_cons, List.length_nil]; omega))
        have t2' : H4 t = some (.tup ((q.2 ++ [z]).map V.str)) := by rw [t2, List.map_append]; rfl
        have y01 := y0.trans y1
        refine ⟨_, y01 _ _ hM, by rw [List.length_map]; exact small1000 (by omega), hjl, (x3.trans y01).mut hD, M ++ [(t, q.2 ++ [z])], ?_, ?_, ?_⟩
        · rw [upd_same, List.map_append]
          rfl
        · refine RowsT.mut (RowsT.app (tM.to y01) fun q' hq' => ?_) (y01 _ _ hM)
          rw [List.mem_singleton.mp hq']
          exact t2'
        · rw [List.map_append, eM, List.take_add_one, hq, List.map_append]
          rfl
      · rintro H3 ⟨_, x3, M, hM, tM, eM⟩
        rw [List.length_map, List.take_length] at eM
        have Ml : M.length ≤ 64 := by
          have := congrArg List.length eM
          rw [List.length_map, List.length_map] at this
          omega
        refine ⟨p, D, _, _, rfl, rfl, x3 _ _ hp, hM, Nat.le_of_lt (small1000 (by rw [List.length_map, List.length_map]; omega)), fun r hr' => ?_⟩
        refine ⟨hil, (x2.trans x3).trans (Evl.Ex.new hr'), r, L ++ M, _, rfl, ?_, RowsT.to (RowsT.app (tL.to x3) tM) (Evl.Ex.new hr'), ?_⟩
        · rw [upd_same, List.map_append]
        · rw [List.map_append, eM, eL, List.take_add_one, hz]
          show _ = parts0 (zs.take i ++ [z])
          rw [parts0_snoc, ← eL, List.map_map]
          rfl
    · rintro σ H2 ⟨_, x2, p, L, v2, rfl, hp, tL, eL⟩
      rw [List.length_map, List.take_length] at eL
      have few : L.length ≤ 64 := by
        have h1 := congrArg List.length eL
        rw [List.length_map, parts0_len zs.length _ rfl] at h1
        rw [h1]
        exact Nat.le_trans (Nat.pow_le_pow_right (by decide) h6) (by decide)
      -- the pairs
      refine ⟨.ref p, rfl, p, rfl, ⟨_, Evl.sq_of hp⟩, fun R hR => lc_list (K := K) (a := p) (xs := L.map fun q => V.ref q.1)
        (fun i H' => ∃ T : List (Addr × Addr × List Str), H' R = some (.lst (T.map fun t => V.ref t.1)) ∧ T.map (·.2) = L.take i ∧ (∀ t ∈ T, H' t.1 = some (.tup [.int ((t.2.2.length : Nat) : Int), .ref t.2.1])) ∧ Evl.Ex H2 H')
        ⟨[], upd_same, rfl, (fun t ht => nomatch ht), Evl.Ex.new hR⟩ (fun i H' _ h => let ⟨_, _, _, _, h⟩ := h; Evl.sq_of (h _ _ hp)) ?_ ?_⟩
      · rintro i v H6 hi ⟨T, t6, eT, tt, x6⟩
        obtain ⟨q, hq, rfl⟩ := rowsT_at hi
        have tq := x6 _ _ (tL q (List.mem_of_getElem? hq))
        have Tl : T.length ≤ 64 := by
          have := congrArg List.length eT
          rw [List.length_map, List.length_take] at this
          omega
        refine ⟨rfl, ?_⟩
        refine yes_if ?_
        refine ⟨.ref q.1, rfl, .ref q.1, (q.2.map V.str).length, rfl, .inr ⟨_, Evl.st_of tq, rfl⟩, .ref q.1, rfl, by show 2 ≤ sizeLine; decide, fun t ht => ?_⟩
        have y6 : Evl.Ex H6 (upd H6 t (.tup [.int ((q.2.map V.str).length : Nat), .ref q.1])) := Evl.Ex.new ht
        have t7 : (upd H6 t (.tup [.int ((q.2.map V.str).length : Nat), .ref q.1])) t = some (.tup [.int (q.2.length : Nat), .ref q.1]) := by rw [upd_same, List.length_map]
        generalize upd H6 t (.tup [.int ((q.2.map V.str).length : Nat), .ref q.1]) = H7 at y6 t7
        refine ⟨_, y6 _ _ t6, by rw [List.length_map]; exact small1000 (by omega), T ++ [(t, q)], ?_, ?_, fun u hu => ?_, (x6.trans y6).mut hR⟩
        · rw [upd_same, List.map_append]
          rfl
        · rw [List.map_append, eT, List.take_add_one, hq]
          rfl
        · rcases List.mem_append.mp hu with hu | hu
          · rw [upd_ne (ne_of (y6 _ _ (tt u hu)) (y6 _ _ t6) (by intro z; cases z))]
            exact y6 _ _ (tt u hu)
          · rw [List.mem_singleton.mp hu]
            show (upd H7 R _) t = _
            rw [upd_ne (ne_of t7 (y6 _ _ t6) (by intro z; cases z))]
            exact t7
      · rintro H6 ⟨T, t6, eT, tt, x6⟩
        rw [List.length_map, List.take_length] at eT
        have mT : ∀ t ∈ T, t.2 ∈ L := fun t ht => by rw [← eT]; exact List.mem_map_of_mem ht
        have keys : ∀ t ∈ T, keyN H6 (.ref t.1) = (((t.2.2.length : Nat) : Int), t.2.2) := fun t ht => keyN_of (tt t ht) (x6 _ _ (tL _ (mT t ht)))
        refine ⟨R, T.map (fun t => V.ref t.1), keyN H6, rfl, Evl.sq_of t6, fun x hx => ?_, fun ys so perm srd hso => ?_⟩
        · obtain ⟨t, ht, rfl⟩ := List.mem_map.mp hx
          refine ⟨t.1, t.2.1, rfl, ?_, ?_⟩
          · rw [keys t ht]
            exact tt t ht
          · rw [keys t ht]
            exact x6 _ _ (tL _ (mT t ht))
        obtain ⟨T', rfl, pT⟩ := perm_map perm T rfl
        have y7 : Evl.Ex H6 (upd H6 so (.lst (T'.map fun t => V.ref t.1))) := Evl.Ex.new hso
        have s7 : (upd H6 so (.lst (T'.map fun t => V.ref t.1))) so = some (.lst (T'.map fun t => V.ref t.1)) := upd_same
        generalize upd H6 so (.lst (T'.map fun t => V.ref t.1)) = H7 at y7 s7
        have mT' : ∀ t ∈ T', t ∈ T := fun t ht => pT.mem_iff.mp ht
        have Tl : T'.length ≤ 64 := by
          have := congrArg List.length eT
          rw [List.length_map, ← pT.length_eq] at this
          omega
        refine ⟨so, rfl, ⟨_, Evl.sq_of s7⟩, fun R2 hR2 => lc_list (K := K) (a := so) (xs := T'.map fun t => V.ref t.1)
          (fun i H' => H' R2 = some (.lst ((T'.take i).map fun t => V.ref t.2.1)) ∧ Evl.Ex H7 H') ⟨upd_same, Evl.Ex.new hR2⟩ (fun i H' _ h => Evl.sq_of (h.2 _ _ s7)) ?_ ?_⟩
        · rintro i v H8 hi ⟨a8, x8⟩
          rw [List.getElem?_map] at hi
          obtain ⟨t, ht, rfl⟩ : ∃ t, T'[i]? = some t ∧ v = .ref t.1 := by
            cases e : T'[i]? with
            | none => rw [e] at hi; cases hi
            | some t => rw [e] at hi; exact ⟨t, rfl, (Option.some.inj hi).symm⟩
          have mt := mT' t (List.mem_of_getElem? ht)
          refine ⟨t.1, _, rfl, Evl.st_of ((y7.trans x8) _ _ (tt t mt)), rfl, _, _, rfl, _, [], rfl, rfl, rfl, ?_⟩
          refine yes_if ?_
          refine ⟨.ref t.2.1, rfl, _, a8, ?_, ?_, x8.mut hR2⟩
          · rw [List.length_map, List.length_take]
            exact small1000 (by omega)
          · rw [upd_same, List.take_add_one, ht, List.map_append]
            rfl
        · rintro H8 ⟨a8, x8⟩
          rw [List.length_map, List.take_length] at a8
          have x28 := (x6.trans y7).trans x8
          have hR2' : H R2 = none := ex_none (x2.trans (x6.trans y7)) hR2
          refine k R2 H8 (T'.map (·.2)) (x2.trans x28) hR2' (by rw [a8, List.map_map]; rfl) (fun q hq => ?_) (partsS_is ?_ ?_)
          · obtain ⟨t, ht, rfl⟩ := List.mem_map.mp hq
            exact x28 _ _ (tL _ (mT t (mT' t ht)))
          · rw [← eL, ← eT]
            exact (pT.map _).map _
          · show List.Pairwise _ _
            rw [List.map_map, List.pairwise_map]
            refine List.Pairwise.imp_of_mem (fun {a b} ha hb h => ?_) (List.pairwise_map.mp srd)
            have h' : numRow (keyN H6 (.ref b.1)) (keyN H6 (.ref a.1)) = false := h
            rw [keys a (mT' a ha), keys b (mT' b hb)] at h'
            exact h'
end
end Rw
end T_LPT

section T_LP
set_option Elab.async false
set_option linter.all false
set_option maxRecDepth 100000
set_option maxHeartbeats 16000000
namespace Rw
open PySem L2 PyProof.Rows
theorem MixR.upd {H : Hp} {D pa : Addr} {dots : List Str} {f : Str → List V} {kvs : List (Key × V)} {u : HO} (M : MixR H D dots f) (h : H pa = some (.dK kvs)) (ne : D ≠ pa) : MixR (L2.upd H pa u) D dots f := by
  obtain ⟨rs, h1, h2, h3⟩ := M.ex
  refine ⟨rs, ?_, h2, fun q hq => ?_⟩
  · rcases h1 with h1 | ⟨o, h1⟩
    · exact .inl (by rw [upd_ne ne]; exact h1)
    · exact .inr ⟨o, by rw [upd_ne ne]; exact h1⟩
  · obtain ⟨a, e, h'⟩ := h3 q hq
    exact ⟨a, e, by rw [upd_ne (ne_of h' h (by intro z; cases z))]; exact h'⟩
/-- what a paper must have with one of a node's ways -/
def OkV (wd e : Str) (ps dots : List Str) (dom : List Str) (g : Str → Nat) (z : Str) (v : V) : Prop :=
  (wd = ("lost" : Str) → v ≠ .non) ∧ (wd = ("posts" : Str) → v = .str e → ps.length ≤ g z) ∧ ∀ y ∈ dots, v = .str y → y ∈ dom ∧ (wd = ("home" : Str) ∨ wd = ("rings" : Str) → g y < g z) ∧ (wd = ("posts" : Str) → g y ≤ stepP ps (g z) (.str y))
theorem fits_okV {wd e : Str} {ps dots dom : List Str} {f : Str → List V} {g : Str → Nat} {z : Str} : FitsP wd e ps dots f dom g z ↔ ∀ v ∈ f z, OkV wd e ps dots dom g z v := by
  constructor
  · rintro ⟨h1, h2, h3, h4⟩ v hv
    refine ⟨fun w c => h2 w (by rw [← c]; exact hv), fun w c => (h3 w).1 (by rw [← c]; exact hv), fun y yd c => ?_⟩
    have hb : y ∈ behind dots f z := mem_behind.mpr ⟨by rw [← c]; exact hv, yd⟩
    exact ⟨h1 y hb, fun w => h4 w y hb, fun w => (h3 w).2 y hb⟩
  · intro h
    have hb : ∀ y ∈ behind dots f z, y ∈ dom ∧ (wd = ("home" : Str) ∨ wd = ("rings" : Str) → g y < g z) ∧ (wd = ("posts" : Str) → g y ≤ stepP ps (g z) (.str y)) := fun y hy => by
      obtain ⟨a, b⟩ := mem_behind.mp hy
      exact (h _ a).2.2 y b rfl
    exact ⟨fun y hy => (hb y hy).1, fun w c => (h _ c).1 w rfl, fun w => ⟨fun c => (h _ c).2.1 w rfl, fun y hy => (hb y hy).2.2 w⟩, fun w y hy => (hb y hy).2.1 w⟩
section
variable {P : Program} {w : World} {K : PySem.W.Frag} {mg : Str → Option Value} {base : Heap}
theorem sc_is_countL : FnScope ["thing"] ["thing"] (defScope s_is_count) := ⟨rfl, rfl, rfl, by decide +kernel, rfl, by decide +kernel, by decide +kernel⟩
theorem ok_is_countL {f : Addr} {fd : FuncData} (F : Fun K "_law_is_count" "_law_is_count" s_is_count f fd) (mIsi : mg "isinstance" = none) (mInt : mg "int" = none) (mBool : mg "bool" = none) : FnOk P w K mg base CX0 1 f fd ["thing"] spNum := by
  refine F.ok sc_is_countL (fun vs H Q E h => ?_) (fun cdv A outer s H vs Q E hr h => ?_)
  · obtain ⟨k, rfl, _⟩ := h
    rfl
  · obtain ⟨k, rfl, kk⟩ := h
    refine ⟨_, pss_one (ps_ret (pe_and (pe_callB call_isi (by rfl) mIsi (by decide +kernel) (pa_cons (pv 0) (pa_cons (pe_bltn (v := .ty "int") (by rfl) mInt (by decide +kernel) rfl) pa_nil)))
      (pe_and (pe_not (pe_callB call_isi (by rfl) mIsi (by decide +kernel) (pa_cons (pv 0) (pa_cons (pe_bltn (v := .ty "bool") (by rfl) mBool (by decide +kernel) rfl) pa_nil)))) (pe_one (pe_cmpR op_ge (pv 0) pe_int (nomark _)))))), ?_⟩
    refine ⟨.int (k : Int), rfl, .int (k : Int), .ty "int", _, _, true, rfl, .ty _, .base (.int _), kit_ty (by decide +kernel), true, rfl, iteT ?_⟩
    refine ⟨.int (k : Int), rfl, .int (k : Int), .ty "bool", _, _, false, rfl, .ty _, .base (.int _), kit_ty (by decide +kernel), false, rfl, true, rfl, iteT ⟨.int (k : Int), rfl, _, _, rfl, rfl, ?_⟩⟩
    have e : decide ((0 : Int) ≤ (k : Int)) = true := decide_eq_true (by omega)
    show Q (.bl (decide ((0 : Int) ≤ (k : Int)))) H
    rw [e]
    exact kk
/-! ### this law's judge of a paper -/
def spLPaper : Sp := fun vs H Q _ => ∃ (m D pa nb tb sb pb : Addr) (wd e : Str) (dom : List Str) (g : Str → Nat) (f : Str → List V) (ends dots ss ps : List Str) (rows : List (Str × V)) (o n : Str → List (Str × V)) (H0 : Hp), vs = [.ref m, .ref D, .str e, .str wd, .ref pa] ∧ Evl.Ex H0 H ∧ H0 pa = none ∧ ModelR H0 m nb tb sb pb ends dots ss ps rows o n ∧ MixR H D dots f ∧ Webs dots f ∧ D ≠ pa ∧
  H pa = some (.dK (tkv (nW dom g))) ∧ dom.Nodup ∧ (∀ z ∈ dom, z ∈ dots) ∧ wish4 wd ∧ ∀ bb H', Evl.Ex H H' → (bb = true ↔ Pap wd e (startsOf wd dots ss) ss ps dots f dom g) → Q (.bl bb) H'
abbrev nLPaper : List Str := ["model", "web", "target", "word", "matter", "start", "node", "place", "key"]
theorem sc_lpaper : FnScope nLPaper ["model", "web", "target", "word", "matter"] (defScope s_is_paper) := ⟨rfl, rfl, rfl, by decide +kernel, rfl, by decide +kernel, by decide +kernel⟩
theorem ok_lpaper {f : Addr} {fd : FuncData} (F : Fun K "_law_is_paper" "_law_is_paper" s_is_paper f fd) (C1 : Cal P w K mg base 1 "_law_is_count" ["thing"] spNum) (C2 : Cal P w K mg base 1 "_law_next" ["model", "count", "place"] spLNext) (mIsi : mg "isinstance" = none) (mDict : mg "dict" = none) (mStr : mg "str" = none) (mLen : mg "len" = none) :
    FnOk P w K mg base CX0 2 f fd ["model", "web", "target", "word", "matter"] spLPaper := by
  obtain ⟨f1, fd1, F1, k1, b1, g1⟩ := C1.ex
  obtain ⟨f2, fd2, F2, k2, b2, g2⟩ := C2.ex
  refine F.ok sc_lpaper (fun vs H Q E h => ?_) (fun cdv A outer s H vs Q E hr h => ?_)
  · obtain ⟨m, D, pa, nb, tb, sb, pb, wd, e, dom, g, f, ends, dots, ss, ps, rows, o, n, H0, rfl, _⟩ := h
    rfl
  · obtain ⟨m, D, pa, nb, tb, sb, pb, wd, e, dom, g, f, ends, dots, ss, ps, rows, o, n, H0, rfl, x0, p0, MS, M, W, nDp, hpa, dnd, dsub, w4, k⟩ := h
    have nd := sc_lpaper.nd
    have hu := hu_of hr
    refine ⟨_, PSs.nox (pss_cons (ps_if (pt_not (pt_val (pe_callB call_isi (by rfl) mIsi (by decide +kernel) (pa_cons (pv 4) (pa_cons (pe_bltn (v := .ty "dict") (by rfl) mDict (by decide +kernel) rfl) pa_nil))))) (pss_one (ps_ret pe_bl)) pss_nil)
      (pss_cons (ps_if (pt_cmpR (op_neD hr.units) (pe_lock (pe_lc (own := [("key", 8)]) (g := gName 8) (tt := tOr (tNot (tB (tCB (rIsi K) (tCons (tVar 8) (tCons (tC (.ty "str")) tNil))))) (tB (tDNotIn (tVar 8) (tVar 1)))) (te := tVar 8) rfl nd (pi_keys (pv 4)) (blkOk_by (own := [("key", 8)]) (N := nLPaper) (sc := defScope s_is_paper) (by decide +kernel))
              (fun _ _ _ _ _ => pg_name (i := 8) nd rfl (Or.inl rfl)) (fun _ _ _ _ _ => pts_one (PW.pt (pw_or (pt_not (pt_val (pe_callB call_isi (by rfl) mIsi (by decide +kernel) (pa_cons (pv 8) (pa_cons (pe_bltn (v := .ty "str") (by rfl) mStr (by decide +kernel) rfl) pa_nil))))) (pw_or1 (pt_cmp (pc_dnotin hu (pv 8) (pv 1)) rfl))))) (fun _ _ _ _ _ => pv 8))) (pe_lst pa_nil) (nomark _)) (pss_one (ps_ret pe_bl)) pss_nil)
      (pss_cons (ps_if (pt_cmpR (op_neD hr.units) (pe_lock (pe_lc (own := [("key", 8)]) (g := gName 8) (tt := tNot (tB (tCall spNum [] E0 (tCons (tDGet (tVar 4) (tVar 8)) tNil)))) (te := tVar 8) rfl nd (pi_keys (pv 4)) (blkOk_by (own := [("key", 8)]) (N := nLPaper) (sc := defScope s_is_paper) (by decide +kernel))
              (fun _ _ _ _ _ => pg_name (i := 8) nd rfl (Or.inl rfl)) (fun _ _ _ _ _ => pts_one (pt_not (pt_val (pe_call F1 hr rfl g1 k1 b1 .nil pass0 (pa_cons (pe_dget hu (pv 4) (pv 8) (fun _ _ => rfl)) pa_nil))))) (fun _ _ _ _ _ => pv 8))) (pe_lst pa_nil) (nomark _)) (pss_one (ps_ret pe_bl)) pss_nil)
      (C8.pss_cut (ps_for PassesOwn.never rfl (pi_list (pe_ifExp (pt_cmpR op_eq (pv 3) pe_str (nomark _)) (pe_dget hu (pv 0) pe_str (fun _ _ => rfl)) (pe_dget hu (pv 0) pe_str (fun _ _ => rfl)))) (pg_name (i := 5) nd rfl (.inl rfl))
        (pss_one (ps_if (PW.pt (pw_or (pt_cmp (pc_dnotin hu (pv 5) (pv 4)) rfl) (pw_or1 (PW.pt (pw_and (pt_cmpR op_eq (pv 3) pe_str (nomark _)) (pw_and1 (pt_cmpR op_gt (pe_dget hu (pv 4) (pv 5) (fun _ _ => rfl)) (pe_call F2 hr rfl g2 k2 b2 .nil pass0 (pa_cons (pv 0) (pa_cons pe_int (pa_cons (pv 5) pa_nil)))) (nomark _)))))))) (pss_one (ps_ret pe_bl)) pss_nil)))
      (pss_cons (ps_lock (ps_for PassesOwn.never rfl (pi_keys (pv 4)) (pg_name (i := 6) nd rfl (.inl rfl))
        (pss_one (ps_for PassesOwn.never rfl (pi_list (pe_dget hu (pv 1) (pv 6) (fun _ _ => rfl))) (pg_name (i := 7) nd rfl (.inl rfl))
          (C8.pss_cut (ps_if (PW.pt (pw_and (pt_cmpR op_isN (pv 7) pe_non (nomark _)) (pw_and1 (pt_cmpR op_eq (pv 3) pe_str (nomark _))))) (pss_one (ps_ret pe_bl)) pss_nil)
          (C8.pss_cut (ps_if (PW.pt (pw_and (pt_cmpR op_eq (pv 7) (pv 2) (nomark _)) (pw_and (pt_cmpR op_eq (pv 3) pe_str (nomark _)) (pw_and1 (pt_cmpR op_lt (pe_dget hu (pv 4) (pv 6) (fun _ _ => rfl)) (pe_callB call_len (by rfl) mLen PySem.boot_len (pa_cons (pe_dget hu (pv 0) pe_str (fun _ _ => rfl)) pa_nil)) (nomark _)))))) (pss_one (ps_ret pe_bl)) pss_nil)
          (pss_one (ps_if (pt_cmp (pc_dinN hu (pv 7) (pv 1)) rfl)
            (C8.pss_cut (ps_if (PW.pt (pw_or (pt_cmp (pc_dnotin hu (pv 7) (pv 4)) rfl) (pw_or1 (PW.pt (pw_and (pt_cmpR op_in_seq (pv 3) (pe_tup (pa_cons pe_str (pa_cons pe_str pa_nil))) rfl) (pw_and1 (pt_cmpR op_ge (pe_dget hu (pv 4) (pv 7) (fun _ _ => rfl)) (pe_dget hu (pv 4) (pv 6) (fun _ _ => rfl)) (nomark _)))))))) (pss_one (ps_ret pe_bl)) pss_nil)
            (pss_one (ps_if (PW.pt (pw_and (pt_cmpR op_eq (pv 3) pe_str (nomark _)) (pw_and1 (pt_cmpR op_gt (pe_dget hu (pv 4) (pv 7) (fun _ _ => rfl)) (pe_call F2 hr rfl g2 k2 b2 .nil pass0 (pa_cons (pv 0) (pa_cons (pe_dget hu (pv 4) (pv 6) (fun _ _ => rfl)) (pa_cons (pv 7) pa_nil)))) (nomark _))))) (pss_one (ps_ret pe_bl)) pss_nil))) pss_nil))))))))
      (pss_one (ps_ret pe_bl))))))), ?_⟩
    have ok := MS.ok
    have d6 := ok.d6
    have dl : dom.length ≤ 6 := Nat.le_trans (nodup_le dom dots dnd dsub) d6
    have tl : (tkv (nW dom g)).length = dom.length := by rw [tkv_len, nW_len]
    have stm : ∀ z ∈ startsOf wd dots ss, z ∈ dots := fun z hz => by
      unfold startsOf at hz
      split at hz
      · exact hz
      · exact ok.sd z hz
    refine ⟨.ref pa, rfl, .ref pa, .ty "dict", _, _, true, rfl, .ty _, .base (.dK hpa), kit_ty (by decide +kernel), true, rfl, iteF ?_⟩
    -- the keys are nodes
    refine ⟨pa, .dK (tkv (nW dom g)), hpa, trivial, fun od => ?_⟩
    have locked : (upd H pa (.frz od (.dK (tkv (nW dom g))))) pa = some (.frz od (.dK (tkv (nW dom g)))) := upd_same
    have ML := M.upd (u := .frz od (.dK (tkv (nW dom g)))) hpa nDp
    have back : ∀ {Hx : Hp}, Evl.Ex (upd H pa (.frz od (.dK (tkv (nW dom g))))) Hx → Evl.Ex H (upd Hx pa (.dK (tkv (nW dom g)))) := fun {Hx} x b o h => by
      by_cases z : b = pa
      · subst z
        rw [upd_same, ← hpa, h]
      · rw [upd_ne z]
        exact x _ _ (by rw [upd_ne z]; exact h)
    generalize upd H pa (.frz od (.dK (tkv (nW dom g)))) = HL at locked back ML
    refine ⟨.ref pa, rfl, pa, od, rfl, .inl ⟨_, locked, fun R hR => lc_it walk_keys (fun i H' => Evl.Ex HL H' ∧ H' R = some (.lst [])) ⟨Evl.Ex.new hR, upd_same⟩ (fun i H' _ h => h.1 _ _ locked) ?_ ?_⟩⟩
    · rintro i x H7 H7' hi ⟨x7, r7⟩ ⟨rfl, kk, v, hkv, rfl⟩
      obtain ⟨z, hz, rfl, rfl⟩ := nW_at hkv
      have zm := List.mem_of_getElem? hz
      obtain ⟨r, gr, er⟩ := (ML.to x7).has z
      refine ⟨rfl, .str z, rfl, .str z, .ty "str", _, _, true, rfl, .ty _, .base (.str _), kit_ty (by decide +kernel), true, rfl, iteF ⟨.str z, rfl, .ref D, rfl, D, r, rfl, gr, _, rfl, ?_⟩⟩
      rw [er, decide_eq_true (dsub z zm)]
      exact iteF ⟨x7, r7⟩
    rintro H2 ⟨x2, r2⟩
    have nR : R ≠ pa := fun z => by rw [z, locked] at hR; cases hR
    refine ⟨x2 _ _ locked, Nat.zero_le _, fun e1 he1 => ?_⟩
    have x12 := back x2
    have r2' : (upd H2 pa (.dK (tkv (nW dom g)))) R = some (.lst []) := by rw [upd_ne nR]; exact r2
    have d2 : (upd H2 pa (.dK (tkv (nW dom g)))) pa = some (.dK (tkv (nW dom g))) := upd_same
    generalize upd H2 pa (.dK (tkv (nW dom g))) = H3 at x12 r2' d2 he1
    have y3 : Evl.Ex H3 (upd H3 e1 (.lst [])) := Evl.Ex.new he1
    refine ⟨.list [], .list [], .lst (Evl.sq_of (y3 _ _ r2')) .nil, .lst (Evl.sq_of upd_same) .nil, by rfl, by rfl, _, rfl, iteF ?_⟩
    have x03 := x12.trans y3
    have d3 := y3 _ _ d2
    generalize upd H3 e1 (.lst []) = H4 at x03 d3
    clear back locked ML
    have x04 := x0.trans x03
    have M4 := M.to x03
    -- the values are numbers
    refine ⟨pa, .dK (tkv (nW dom g)), d3, trivial, fun od => ?_⟩
    have locked : (upd H4 pa (.frz od (.dK (tkv (nW dom g))))) pa = some (.frz od (.dK (tkv (nW dom g)))) := upd_same
    have back : ∀ {Hx : Hp}, Evl.Ex (upd H4 pa (.frz od (.dK (tkv (nW dom g))))) Hx → Evl.Ex H4 (upd Hx pa (.dK (tkv (nW dom g)))) := fun {Hx} x b o h => by
      by_cases z : b = pa
      · subst z
        rw [upd_same, ← d3, h]
      · rw [upd_ne z]
        exact x _ _ (by rw [upd_ne z]; exact h)
    generalize upd H4 pa (.frz od (.dK (tkv (nW dom g)))) = HL at locked back
    refine ⟨.ref pa, rfl, pa, od, rfl, .inl ⟨_, locked, fun R2 hR2 => lc_it walk_keys (fun i H' => Evl.Ex HL H' ∧ H' R2 = some (.lst [])) ⟨Evl.Ex.new hR2, upd_same⟩ (fun i H' _ h => h.1 _ _ locked) ?_ ?_⟩⟩
    · rintro i x H7 H7' hi ⟨x7, r7⟩ ⟨rfl, kk, v, hkv, rfl⟩
      obtain ⟨z, hz, rfl, rfl⟩ := nW_at hkv
      have zm := List.mem_of_getElem? hz
      exact ⟨rfl, .ref pa, rfl, .str z, rfl, pa, _, rfl, .inl ⟨_, Sum.inr z, .inr ⟨od, x7 _ _ locked⟩, rfl, (nW_get zm).symm⟩, g z, rfl, true, rfl, iteF ⟨x7, r7⟩⟩
    rintro H5 ⟨x5, r5⟩
    have nR2 : R2 ≠ pa := fun z => by rw [z, locked] at hR2; cases hR2
    refine ⟨x5 _ _ locked, Nat.zero_le _, fun e2 he2 => ?_⟩
    have x45 := back x5
    have r5' : (upd H5 pa (.dK (tkv (nW dom g)))) R2 = some (.lst []) := by rw [upd_ne nR2]; exact r5
    have d5 : (upd H5 pa (.dK (tkv (nW dom g)))) pa = some (.dK (tkv (nW dom g))) := upd_same
    generalize upd H5 pa (.dK (tkv (nW dom g))) = H6 at x45 r5' d5 he2
    have y6 : Evl.Ex H6 (upd H6 e2 (.lst [])) := Evl.Ex.new he2
    refine ⟨.list [], .list [], .lst (Evl.sq_of (y6 _ _ r5')) .nil, .lst (Evl.sq_of upd_same) .nil, by rfl, by rfl, _, rfl, iteF ?_⟩
    have x46 := x45.trans y6
    have d6' := y6 _ _ d5
    generalize upd H6 e2 (.lst []) = H7 at x46 d6'
    clear back locked
    have x07 := x04.trans x46
    have x37 := x03.trans x46
    have M7 := M.to x37
    -- the starts
    refine ⟨fun σ' H' => ∃ x5 : Option V, σ' = [some (.ref m), some (.ref D), some (.str e), some (.str wd), some (.ref pa), x5, none, none, none] ∧ Evl.Ex H7 H' ∧ (∀ z ∈ startsOf wd dots ss, z ∈ dom) ∧ (wd = ("posts" : Str) → ∀ z ∈ ss, g z ≤ stepP ps 0 (.str z)), ?_, ?_⟩
    · refine ⟨.str wd, rfl, rfl, _, rfl, ite2 (fun q => ?_) (fun q => ?_)⟩
      · have ew : wd = ("rings" : Str) := by simpa using of_decide_eq_true q
        refine ⟨.ref m, rfl, m, _, rfl, dgK (x07 _ _ MS.hm) (mkS_nodes _ _ _ _), ?_⟩
        have hla : H7 nb = some (.lst ((startsOf wd dots ss).map V.str)) := by unfold startsOf; rw [if_pos ew]; exact x07 _ _ MS.hn
        generalize nb = la at hla ⊢
        refine ⟨la, rfl, ⟨_, Evl.sq_of hla⟩, for_list (K := K) (a := la) (xs := (startsOf wd dots ss).map V.str)
          (fun i σ H' => ∃ x5 : Option V, σ = [some (.ref m), some (.ref D), some (.str e), some (.str wd), some (.ref pa), x5, none, none, none] ∧ Evl.Ex H7 H' ∧ ∀ z ∈ (startsOf wd dots ss).take i, z ∈ dom ∧ (wd = ("posts" : Str) → g z ≤ stepP ps 0 (.str z)))
          ⟨none, rfl, Evl.Ex.refl _, fun z hz => nomatch hz⟩ (fun i σ H' _ ⟨_, _, x, _⟩ => Evl.sq_of (x _ _ hla)) ?_ ?_⟩
        · rintro i v σ H8 hi ⟨x5', rfl, x8, hall⟩
          obtain ⟨y, hy, rfl⟩ := str_at hi
          have yS := List.mem_of_getElem? hy
          have et : (startsOf wd dots ss).take (i + 1) = (startsOf wd dots ss).take i ++ [y] := by rw [List.take_add_one, hy]; rfl
          have nmy := ok.dm y (stm y yS)
          refine ⟨.str y, rfl, .ref pa, rfl, pa, _, rfl, .inl ⟨_, Sum.inr y, .inl (x8 _ _ d6'), rfl, rfl⟩, _, rfl, ?_⟩
          rw [nW_has]
          by_cases ym : y ∈ dom
          · rw [decide_eq_true ym]
            have step : (wd = ("posts" : Str) → g y ≤ stepP ps 0 (.str y)) → ∃ x5 : Option V, [some (V.ref m), some (.ref D), some (.str e), some (.str wd), some (.ref pa), some (.str y), none, none, none] = [some (.ref m), some (.ref D), some (.str e), some (.str wd), some (.ref pa), x5, none, none, none] ∧ Evl.Ex H7 H8 ∧ ∀ z ∈ (startsOf wd dots ss).take (i + 1), z ∈ dom ∧ (wd = ("posts" : Str) → g z ≤ stepP ps 0 (.str z)) := fun c => ⟨_, rfl, x8, fun z hz => by
              rw [et] at hz
              rcases List.mem_append.mp hz with hz | hz
              · exact hall z hz
              · rw [List.mem_singleton.mp hz]; exact ⟨ym, c⟩⟩
            refine iteF ⟨.str wd, rfl, rfl, _, rfl, ite2 (fun q2 => ?_) (fun q2 => ?_)⟩
            · have ew2 : wd = ("posts" : Str) := by simpa using of_decide_eq_true q2
              refine ⟨.ref pa, rfl, .str y, rfl, pa, _, rfl, .inl ⟨_, Sum.inr y, .inl (x8 _ _ d6'), rfl, (nW_get ym).symm⟩, .ref m, rfl, .str y, rfl, m, nb, tb, sb, pb, 0, .str y, ends, dots, ss, ps, rows, o, n, rfl, MS.to (x07.trans x8), .inr ⟨y, rfl, nmy⟩, _, _, rfl, rfl, _, rfl, ?_⟩
              by_cases lt : g y ≤ stepP ps 0 (.str y)
              · rw [decide_eq_false (show ¬ (stepP ps 0 (.str y) : Int) < (g y : Int) by omega)]
                exact iteF (step fun _ => lt)
              · rw [decide_eq_true (show (stepP ps 0 (.str y) : Int) < (g y : Int) by omega)]
                refine iteT (k false H8 (x37.trans x8) ⟨(fun c => nomatch c), fun c => ?_⟩)
                have hs : y ∈ ss := by
                  unfold startsOf at yS
                  rw [if_neg (by rw [ew2]; decide)] at yS
                  exact yS
                exact absurd (c.p0 ew2 y hs) lt
            · have ew2 : ¬ wd = ("posts" : Str) := fun z => by subst z; exact absurd q2 (by decide)
              exact step fun c => absurd c ew2
          · rw [decide_eq_false ym]
            refine iteT (k false H8 (x37.trans x8) ⟨(fun c => nomatch c), fun c => ?_⟩)
            exact absurd (c.st y yS) ym
        · rintro σ H8 ⟨x5', rfl, x8, hall⟩
          rw [List.length_map, List.take_length] at hall
          refine ⟨x5', rfl, x8, fun z hz => (hall z hz).1, fun c z hz => (hall z ?_).2 c⟩
          unfold startsOf
          rw [if_neg (by rw [c]; decide)]
          exact hz
      · have ew : ¬ wd = ("rings" : Str) := fun z => by subst z; exact absurd q (by decide)
        refine ⟨.ref m, rfl, m, _, rfl, dgK (x07 _ _ MS.hm) (mkS_starts _ _ _ _), ?_⟩
        have hla : H7 sb = some (.lst ((startsOf wd dots ss).map V.str)) := by unfold startsOf; rw [if_neg ew]; exact x07 _ _ MS.hs
        generalize sb = la at hla ⊢
        refine ⟨la, rfl, ⟨_, Evl.sq_of hla⟩, for_list (K := K) (a := la) (xs := (startsOf wd dots ss).map V.str)
          (fun i σ H' => ∃ x5 : Option V, σ = [some (.ref m), some (.ref D), some (.str e), some (.str wd), some (.ref pa), x5, none, none, none] ∧ Evl.Ex H7 H' ∧ ∀ z ∈ (startsOf wd dots ss).take i, z ∈ dom ∧ (wd = ("posts" : Str) → g z ≤ stepP ps 0 (.str z)))
          ⟨none, rfl, Evl.Ex.refl _, fun z hz => nomatch hz⟩ (fun i σ H' _ ⟨_, _, x, _⟩ => Evl.sq_of (x _ _ hla)) ?_ ?_⟩
        · rintro i v σ H8 hi ⟨x5', rfl, x8, hall⟩
          obtain ⟨y, hy, rfl⟩ := str_at hi
          have yS := List.mem_of_getElem? hy
          have et : (startsOf wd dots ss).take (i + 1) = (startsOf wd dots ss).take i ++ [y] := by rw [List.take_add_one, hy]; rfl
          have nmy := ok.dm y (stm y yS)
          refine ⟨.str y, rfl, .ref pa, rfl, pa, _, rfl, .inl ⟨_, Sum.inr y, .inl (x8 _ _ d6'), rfl, rfl⟩, _, rfl, ?_⟩
          rw [nW_has]
          by_cases ym : y ∈ dom
          · rw [decide_eq_true ym]
            have step : (wd = ("posts" : Str) → g y ≤ stepP ps 0 (.str y)) → ∃ x5 : Option V, [some (V.ref m), some (.ref D), some (.str e), some (.str wd), some (.ref pa), some (.str y), none, none, none] = [some (.ref m), some (.ref D), some (.str e), some (.str wd), some (.ref pa), x5, none, none, none] ∧ Evl.Ex H7 H8 ∧ ∀ z ∈ (startsOf wd dots ss).take (i + 1), z ∈ dom ∧ (wd = ("posts" : Str) → g z ≤ stepP ps 0 (.str z)) := fun c => ⟨_, rfl, x8, fun z hz => by
              rw [et] at hz
              rcases List.mem_append.mp hz with hz | hz
              · exact hall z hz
              · rw [List.mem_singleton.mp hz]; exact ⟨ym, c⟩⟩
            refine iteF ⟨.str wd, rfl, rfl, _, rfl, ite2 (fun q2 => ?_) (fun q2 => ?_)⟩
            · have ew2 : wd = ("posts" : Str) := by simpa using of_decide_eq_true q2
              refine ⟨.ref pa, rfl, .str y, rfl, pa, _, rfl, .inl ⟨_, Sum.inr y, .inl (x8 _ _ d6'), rfl, (nW_get ym).symm⟩, .ref m, rfl, .str y, rfl, m, nb, tb, sb, pb, 0, .str y, ends, dots, ss, ps, rows, o, n, rfl, MS.to (x07.trans x8), .inr ⟨y, rfl, nmy⟩, _, _, rfl, rfl, _, rfl, ?_⟩
              by_cases lt : g y ≤ stepP ps 0 (.str y)
              · rw [decide_eq_false (show ¬ (stepP ps 0 (.str y) : Int) < (g y : Int) by omega)]
                exact iteF (step fun _ => lt)
              · rw [decide_eq_true (show (stepP ps 0 (.str y) : Int) < (g y : Int) by omega)]
                refine iteT (k false H8 (x37.trans x8) ⟨(fun c => nomatch c), fun c => ?_⟩)
                have hs : y ∈ ss := by
                  unfold startsOf at yS
                  rw [if_neg (by rw [ew2]; decide)] at yS
                  exact yS
                exact absurd (c.p0 ew2 y hs) lt
            · have ew2 : ¬ wd = ("posts" : Str) := fun z => by subst z; exact absurd q2 (by decide)
              exact step fun c => absurd c ew2
          · rw [decide_eq_false ym]
            refine iteT (k false H8 (x37.trans x8) ⟨(fun c => nomatch c), fun c => ?_⟩)
            exact absurd (c.st y yS) ym
        · rintro σ H8 ⟨x5', rfl, x8, hall⟩
          rw [List.length_map, List.take_length] at hall
          refine ⟨x5', rfl, x8, fun z hz => (hall z hz).1, fun c z hz => (hall z ?_).2 c⟩
          unfold startsOf
          rw [if_neg (by rw [c]; decide)]
          exact hz
    rintro σ H8 ⟨x5', rfl, x8, hst, hp0⟩
    have x38 := x37.trans x8
    have x08 := x07.trans x8
    have d8 := x8 _ _ d6'
    have M8 := M.to x38
    -- for node in matter
    refine ⟨pa, .dK (tkv (nW dom g)), d8, trivial, fun od => ?_⟩
    have locked : (upd H8 pa (.frz od (.dK (tkv (nW dom g))))) pa = some (.frz od (.dK (tkv (nW dom g)))) := upd_same
    have xL : Evl.Ex H0 (upd H8 pa (.frz od (.dK (tkv (nW dom g))))) := x08.mut p0
    have ML := M8.upd (u := .frz od (.dK (tkv (nW dom g)))) d8 nDp
    have back : ∀ {Hx : Hp}, Evl.Ex (upd H8 pa (.frz od (.dK (tkv (nW dom g))))) Hx → Evl.Ex H8 (upd Hx pa (.dK (tkv (nW dom g)))) := fun {Hx} x b o h => by
      by_cases z : b = pa
      · subst z
        rw [upd_same, ← d8, h]
      · rw [upd_ne z]
        exact x _ _ (by rw [upd_ne z]; exact h)
    generalize upd H8 pa (.frz od (.dK (tkv (nW dom g)))) = HL at locked back xL ML
    refine ⟨.ref pa, rfl, pa, od, rfl, .inl ⟨_, locked, for_it walk_keys
      (fun i σ H' => ∃ x6 x7 : Option V, σ = [some (.ref m), some (.ref D), some (.str e), some (.str wd), some (.ref pa), x5', x6, x7, none] ∧ Evl.Ex HL H' ∧ ∀ z ∈ dom.take i, FitsP wd e ps dots f dom g z)
      ⟨none, none, rfl, Evl.Ex.refl _, fun z hz => nomatch hz⟩ (fun i σ H' _ ⟨_, _, _, x, _⟩ => x _ _ locked) ?_ ?_⟩⟩
    · rintro i x σ H9 H9' hi ⟨x6, x7, rfl, x9, hall⟩ ⟨rfl, kk, v, hkv, rfl⟩
      rw [tl] at hi
      obtain ⟨z, hz, rfl, rfl⟩ := nW_at hkv
      have zm := List.mem_of_getElem? hz
      have zd := dsub z zm
      have et : dom.take (i + 1) = dom.take i ++ [z] := by rw [List.take_add_one, hz]; rfl
      obtain ⟨l, gl, hl⟩ := (ML.to x9).get zd
      refine ⟨.ref D, rfl, .str z, rfl, D, _, rfl, gl, l, rfl, ⟨_, Evl.sq_of hl⟩, for_list (K := K) (a := l) (xs := f z)
        (fun j σ H' => ∃ x7 : Option V, σ = [some (.ref m), some (.ref D), some (.str e), some (.str wd), some (.ref pa), x5', some (.str z), x7, none] ∧ Evl.Ex H9' H' ∧ ∀ v ∈ (f z).take j, OkV wd e ps dots dom g z v)
        ⟨x7, rfl, Evl.Ex.refl _, fun z hz => nomatch hz⟩ (fun i σ H' _ ⟨_, _, x, _⟩ => Evl.sq_of (x _ _ hl)) ?_ ?_⟩
      · rintro j v σ HA hj ⟨x7', rfl, xA, hv⟩
        have vm := List.mem_of_getElem? hj
        have spv := W.sp z zd v vm
        have ev : (f z).take (j + 1) = (f z).take j ++ [v] := by rw [List.take_add_one, hj]; rfl
        have gp : ∀ {Hx : Hp}, Evl.Ex HL Hx → ∀ {y : Str}, y ∈ dom → DGet Hx pa (.str y) (some (.int (g y : Int))) := fun x y hy => .inl ⟨_, Sum.inr y, .inr ⟨od, x _ _ locked⟩, rfl, (nW_get hy).symm⟩
        have no : ∀ {Hx : Hp}, Evl.Ex H9' Hx → ¬ OkV wd e ps dots dom g z v → Q (.bl false) (upd Hx pa (.dK (tkv (nW dom g)))) := fun x c => k false _ (x38.trans (back (x9.trans x))) ⟨(fun c => nomatch c), fun h => absurd (fits_okV.mp (fits_pap h z zm) v vm) c⟩
        refine ⟨fun σ' H' => σ' = [some (.ref m), some (.ref D), some (.str e), some (.str wd), some (.ref pa), x5', some (.str z), some v, none] ∧ Evl.Ex H9' H' ∧ (wd = ("lost" : Str) → v ≠ .non), ?_, ?_⟩
        · refine ⟨v, rfl, rfl, _, rfl, ite2 (fun q => ?_) (fun q => ?_)⟩
          · have qv : v = .non := of_decide_eq_true q
            refine ⟨.str wd, rfl, rfl, _, rfl, ite2 (fun q2 => ?_) (fun q2 => ?_)⟩
            · have ew : wd = ("lost" : Str) := by simpa using of_decide_eq_true q2
              exact ⟨x9.trans xA _ _ locked, no xA fun c => c.1 ew qv⟩
            · have ew : ¬ wd = ("lost" : Str) := fun z => by subst z; exact absurd q2 (by decide)
              exact ⟨rfl, xA, fun c => absurd c ew⟩
          · exact ⟨rfl, xA, fun _ c => q (decide_eq_true c)⟩
        rintro σ HB ⟨rfl, xB, hlost⟩
        refine ⟨fun σ' H' => σ' = [some (.ref m), some (.ref D), some (.str e), some (.str wd), some (.ref pa), x5', some (.str z), some v, none] ∧ Evl.Ex H9' H' ∧ (wd = ("posts" : Str) → v = .str e → ps.length ≤ g z), ?_, ?_⟩
        · have sc : scal v (.str e) = true := by rcases spv with rfl | ⟨y, rfl, _⟩ <;> rfl
          refine ⟨v, rfl, .str e, rfl, sc, _, rfl, ite2 (fun q => ?_) (fun q => ?_)⟩
          · have qv : v = .str e := of_decide_eq_true q
            refine ⟨.str wd, rfl, rfl, _, rfl, ite2 (fun q2 => ?_) (fun q2 => ?_)⟩
            · have ew : wd = ("posts" : Str) := by simpa using of_decide_eq_true q2
              have MB := MS.to (xL.trans (x9.trans xB))
              refine ⟨.ref pa, rfl, .str z, rfl, pa, _, rfl, gp (x9.trans xB) zm, .ref m, rfl, m, _, rfl, dgK MB.hm (mkS_marks _ _ _ _), .ref pb, ps.length, rfl, .inl ⟨_, Evl.sq_of MB.hp, by rw [List.length_map]⟩, _, _, rfl, rfl, _, rfl, ite2 (fun q3 => ?_) (fun q3 => ?_)⟩
              · have lt := of_decide_eq_true q3
                exact ⟨x9.trans xB _ _ locked, no xB fun c => by have := c.2.1 ew qv; omega⟩
              · have lt : ¬ (g z : Int) < (ps.length : Int) := fun c => q3 (decide_eq_true c)
                exact ⟨rfl, xB, fun _ _ => by omega⟩
            · have ew : ¬ wd = ("posts" : Str) := fun z => by subst z; exact absurd q2 (by decide)
              exact ⟨rfl, xB, fun c => absurd c ew⟩
          · exact ⟨rfl, xB, fun _ c => absurd (decide_eq_true c) q⟩
        rintro σ HC ⟨rfl, xC, hgoal⟩
        have done : ∀ {Hx : Hp}, Evl.Ex H9' Hx → (∀ y ∈ dots, v = .str y → y ∈ dom ∧ (wd = ("home" : Str) ∨ wd = ("rings" : Str) → g y < g z) ∧ (wd = ("posts" : Str) → g y ≤ stepP ps (g z) (.str y))) → ∃ x7 : Option V, [some (V.ref m), some (.ref D), some (.str e), some (.str wd), some (.ref pa), x5', some (.str z), some v, none] = [some (.ref m), some (.ref D), some (.str e), some (.str wd), some (.ref pa), x5', some (.str z), x7, none] ∧ Evl.Ex H9' Hx ∧ ∀ v ∈ (f z).take (j + 1), OkV wd e ps dots dom g z v := fun x c => ⟨_, rfl, x, fun u hu' => by
          rw [ev] at hu'
          rcases List.mem_append.mp hu' with hu' | hu'
          · exact hv u hu'
          · rw [List.mem_singleton.mp hu']; exact ⟨hlost, hgoal, c⟩⟩
        obtain ⟨rsM, hM1, hM2, hM3⟩ := (ML.to (x9.trans xC)).ex
        rcases spv with rfl | ⟨y, rfl, nmy⟩
        · exact ⟨.non, rfl, .ref D, rfl, .inr ⟨D, _, rfl, rfl, hM1, _, rfl, iteF (done xC fun y _ c => nomatch c)⟩⟩
        obtain ⟨r, gr, er⟩ := (ML.to (x9.trans xC)).has y
        refine ⟨.str y, rfl, .ref D, rfl, .inl ⟨D, r, rfl, gr, _, rfl, ?_⟩⟩
        rw [er]
        by_cases yd : y ∈ dots
        case neg =>
          rw [decide_eq_false yd]
          exact iteF (done xC fun y' h c => by cases c; exact absurd h yd)
        rw [decide_eq_true yd]
        refine iteT ?_
        refine ⟨fun σ' H' => σ' = [some (.ref m), some (.ref D), some (.str e), some (.str wd), some (.ref pa), x5', some (.str z), some (.str y), none] ∧ Evl.Ex H9' H' ∧ y ∈ dom ∧ (wd = ("home" : Str) ∨ wd = ("rings" : Str) → g y < g z), ?_, ?_⟩
        · refine ⟨.str y, rfl, .ref pa, rfl, pa, _, rfl, .inl ⟨_, Sum.inr y, .inr ⟨od, (x9.trans xC) _ _ locked⟩, rfl, rfl⟩, _, rfl, ?_⟩
          rw [nW_has]
          by_cases ym : y ∈ dom
          · rw [decide_eq_true ym]
            refine iteF ⟨.str wd, rfl, by show 2 ≤ sizeLine; decide, fun t ht => ⟨t, _, rfl, .inr (Evl.st_of upd_same), rfl, rfl, _, rfl, ?_⟩⟩
            have yC : Evl.Ex HC (upd HC t (.tup [.str "home", .str "rings"])) := Evl.Ex.new ht
            generalize upd HC t (.tup [.str "home", .str "rings"]) = HD at yC
            have xD := xC.trans yC
            rw [show (if false = true then !inV (V.str wd) [V.str "home", V.str "rings"] else inV (V.str wd) [V.str "home", V.str "rings"]) = decide (wd ∈ [("home" : Str), "rings"]) from inV_str _ [("home" : Str), "rings"]]
            by_cases wm : wd ∈ [("home" : Str), "rings"]
            · rw [decide_eq_true wm]
              have wm' : wd = ("home" : Str) ∨ wd = ("rings" : Str) := by simpa using wm
              refine iteT ⟨.ref pa, rfl, .str y, rfl, pa, _, rfl, gp (x9.trans xD) ym, .ref pa, rfl, .str z, rfl, pa, _, rfl, gp (x9.trans xD) zm, _, _, rfl, rfl, _, rfl, ite2 (fun q3 => ?_) (fun q3 => ?_)⟩
              · have lt := of_decide_eq_true q3
                exact ⟨x9.trans xD _ _ locked, no xD fun c => by have := (c.2.2 y yd rfl).2.1 wm'; omega⟩
              · have lt : ¬ (g z : Int) ≤ (g y : Int) := fun c => q3 (decide_eq_true c)
                exact ⟨rfl, xD, ym, fun _ => by omega⟩
            · rw [decide_eq_false wm]
              exact iteF ⟨rfl, xD, ym, fun c => absurd (by simpa using c) wm⟩
          · rw [decide_eq_false ym]
            exact iteT ⟨x9.trans xC _ _ locked, no xC fun c => absurd (c.2.2 y yd rfl).1 ym⟩
        rintro σ HD ⟨rfl, xD, ym, hfall⟩
        refine ⟨.str wd, rfl, rfl, _, rfl, ite2 (fun q2 => ?_) (fun q2 => ?_)⟩
        · have ew : wd = ("posts" : Str) := by simpa using of_decide_eq_true q2
          have MD := MS.to (xL.trans (x9.trans xD))
          refine ⟨.ref pa, rfl, .str y, rfl, pa, _, rfl, gp (x9.trans xD) ym, .ref m, rfl, .ref pa, rfl, .str z, rfl, pa, _, rfl, gp (x9.trans xD) zm, .str y, rfl, m, nb, tb, sb, pb, g z, .str y, ends, dots, ss, ps, rows, o, n, rfl, MD, .inr ⟨y, rfl, nmy⟩, _, _, rfl, rfl, _, rfl, ite2 (fun q3 => ?_) (fun q3 => ?_)⟩
          · have lt := of_decide_eq_true q3
            exact ⟨x9.trans xD _ _ locked, no xD fun c => by have := (c.2.2 y yd rfl).2.2 ew; omega⟩
          · have lt : ¬ (stepP ps (g z) (.str y) : Int) < (g y : Int) := fun c => q3 (decide_eq_true c)
            exact done xD fun y' _ c => by cases c; exact ⟨ym, hfall, fun _ => by omega⟩
        · have ew : ¬ wd = ("posts" : Str) := fun z => by subst z; exact absurd q2 (by decide)
          exact done xD fun y' _ c => by cases c; exact ⟨ym, hfall, fun c => absurd c ew⟩
      · rintro σ HA ⟨x7', rfl, xA, hv⟩
        rw [List.take_length] at hv
        refine ⟨some (.str z), x7', rfl, x9.trans xA, fun y hy => ?_⟩
        rw [et] at hy
        rcases List.mem_append.mp hy with hy | hy
        · exact hall y hy
        · rw [List.mem_singleton.mp hy]
          exact fits_okV.mpr hv
    · rintro σ H9 ⟨x6, x7, rfl, x9, hall⟩
      rw [tl, List.take_length] at hall
      refine ⟨x9 _ _ locked, ?_⟩
      exact k true _ (x38.trans (back x9)) ⟨fun _ => pap_fits hst hp0 hall, fun _ => rfl⟩
end
end Rw
end T_LP

section T_LM
set_option Elab.async false
set_option linter.all false
set_option maxRecDepth 100000
set_option maxHeartbeats 16000000
namespace Rw
open PySem L2 PyProof.Rows
theorem un65r {k : Nat} {A : Around} (h : Room k A) : A.units + 65 < cLine := by
  have := h.un
  omega
section
variable {P : Program} {w : World} {K : PySem.W.Frag} {mg : Str → Option Value} {base : Heap}
/-! ### this law's judge of a moment -/
def spLMoment : Sp := fun vs H Q _ => ∃ (m a b p c nb tb sb pb : Addr) (wd e z : Str) (zs on ys ends dots ss ps : List Str) (rows : List (Str × V)) (o n : Str → List (Str × V)), vs = [.ref m, .ref a, .ref b, .str wd, .ref p] ∧ ModelR H m nb tb sb pb ends dots ss ps rows o n ∧ (∀ e, e ∈ rows.map (·.1) ↔ e ∈ ends) ∧ TabsOk ends dots o n ∧
  H a = some (.tup (zs.map V.str)) ∧ zs.length ≤ 6 ∧ H b = some (.tup (ys.map V.str)) ∧ ys.length ≤ 6 ∧ (∀ y ∈ ys, Nm y) ∧ H p = some (.tup [.str e, .ref c, .str z]) ∧ H c = some (.tup (on.map V.str)) ∧ on.Sublist ys ∧ e ∈ ends ∧ z ∈ dots ∧
  ∀ H', Evl.Ex H H' → Q (.bl (decide (z ∈ startsOf wd dots ss) && brk dots ps o n wd (zs ++ on) e z)) H'
abbrev nLMoment : List Str := ["model", "done", "fresh", "word", "matter", "target", "turned", "node"]
theorem sc_lmoment : FnScope nLMoment ["model", "done", "fresh", "word", "matter"] (defScope s_is_moment) := ⟨rfl, rfl, rfl, by decide +kernel, rfl, by decide +kernel, by decide +kernel⟩
theorem ok_lmoment {f : Addr} {fd : FuncData} (F : Fun K "_law_is_moment" "_law_is_moment" s_is_moment f fd) (C1 : Cal P w K mg base 1 "_law_parts" ["some"] (spLPartsT K)) (C2 : Cal P w K mg base 1 "_law_row" ["model", "turned", "target", "node"] spRowS) (C3 : Cal P w K mg base 2 "_law_is_bad" ["model", "target", "row", "word"] spIsBad)
    (mIsi : mg "isinstance" = none) (mTup : mg "tuple" = none) (mLen : mg "len" = none) (mStr : mg "str" = none) : FnOk P w K mg base CX0 3 f fd ["model", "done", "fresh", "word", "matter"] spLMoment := by
  obtain ⟨f1, fd1, F1, k1, b1, g1⟩ := C1.ex
  obtain ⟨f2, fd2, F2, k2, b2, g2⟩ := C2.ex
  obtain ⟨f3, fd3, F3, k3, b3, g3⟩ := C3.ex
  refine F.ok sc_lmoment (fun vs H Q E h => ?_) (fun cdv A outer s H vs Q E hr h => ?_)
  · obtain ⟨m, a, b, p, c, nb, tb, sb, pb, wd, e, z, zs, on, ys, ends, dots, ss, ps, rows, o, n, rfl, _⟩ := h
    rfl
  · obtain ⟨m, a, b, p, c, nb, tb, sb, pb, wd, e, z, zs, on, ys, ends, dots, ss, ps, rows, o, n, rfl, MS, rk, tok, ha, z6, hb, y6, ynm, hp, hc, os, em, zd, k⟩ := h
    have nd := sc_lmoment.nd
    have hu := hu_of hr
    have r1 : Room 1 _ := hr.mono (by decide)
    refine ⟨_, pss_cons (ps_if (PW.pt (pw_or (pt_not (pt_val (pe_callB call_isi (by rfl) mIsi (by decide +kernel) (pa_cons (pv 4) (pa_cons (pe_bltn (v := .ty "tuple") (by rfl) mTup (by decide +kernel) rfl) pa_nil)))))
          (pw_or (pt_cmpR op_ne (pe_callB call_len (by rfl) mLen PySem.boot_len (pa_cons (pv 4) pa_nil)) pe_int (nomark _))
          (pw_or1 (pt_not (pt_val (pe_callB call_isi (by rfl) mIsi (by decide +kernel) (pa_cons (pe_ix ix_tup (pv 4) pe_int (fun _ _ => rfl)) (pa_cons (pe_bltn (v := .ty "tuple") (by rfl) mTup (by decide +kernel) rfl) pa_nil))))))))) (pss_one (ps_ret pe_bl)) pss_nil)
      (pss_cons (ps_asg (pv 4) (pg_tup rfl (pgs_cons (pg_name (i := 5) nd rfl (.inl rfl)) (pgs_cons (pg_name (i := 6) nd rfl (.inl rfl)) (pgs_cons (pg_name (i := 7) nd rfl (.inl rfl)) pgs_nil)))))
      (pss_cons (ps_if (PW.pt (pw_or (pt_not (pt_val (pe_callB call_isi (by rfl) mIsi (by decide +kernel) (pa_cons (pv 5) (pa_cons (pe_bltn (v := .ty "str") (by rfl) mStr (by decide +kernel) rfl) pa_nil)))))
          (pw_or (pt_cmp (pc_dnotin hu (pv 5) (pe_dget hu (pv 0) pe_str (fun _ _ => rfl))) rfl)
          (pw_or1 (pt_cmpR (op_notInD (un65r hr)) (pv 6) (pe_call F1 r1 rfl g1 k1 b1 .nil pass0 (pa_cons (pv 2) pa_nil)) rfl))))) (pss_one (ps_ret pe_bl)) pss_nil)
      (C8.pss_cut (ps_if (PW.pt (pw_or (pt_not (pt_val (pe_callB call_isi (by rfl) mIsi (by decide +kernel) (pa_cons (pv 7) (pa_cons (pe_bltn (v := .ty "str") (by rfl) mStr (by decide +kernel) rfl) pa_nil)))))
          (pw_or1 (pt_cmpR op_notIn_seq (pv 7) (pe_ifExp (pt_cmpR op_eq (pv 3) pe_str (nomark _)) (pe_dget hu (pv 0) pe_str (fun _ _ => rfl)) (pe_dget hu (pv 0) pe_str (fun _ _ => rfl))) rfl)))) (pss_one (ps_ret pe_bl)) pss_nil)
      (pss_one (ps_ret (pe_call F3 hr rfl g3 k3 b3 .nil pass0 (pa_cons (pv 0) (pa_cons (pv 5) (pa_cons (pe_call F2 r1 rfl g2 k2 b2 .nil pass0 (pa_cons (pv 0) (pa_cons (pe_op op_catU (pv 1) (pv 6)) (pa_cons (pv 5) (pa_cons (pv 7) pa_nil))))) (pa_cons (pv 3) pa_nil)))))))))), ?_⟩
    have ok := MS.ok
    have d6 := ok.d6
    have ol := os.length_le
    have onm : ∀ y ∈ on, Nm y := fun y hy => ynm y (os.subset hy)
    refine ⟨.ref p, rfl, .ref p, .ty "tuple", _, _, true, rfl, .ty _, .base (.tup hp), kit_ty (by decide +kernel), true, rfl, iteF ?_⟩
    refine ⟨.ref p, rfl, .ref p, 3, rfl, .inr ⟨_, Evl.st_of hp, rfl⟩, rfl, false, rfl, iteF ?_⟩
    refine ⟨.ref p, rfl, p, _, 1, .ref c, rfl, rfl, Evl.st_of hp, rfl, .ref c, .ty "tuple", _, _, true, rfl, .ty _, .base (.tup hc), kit_ty (by decide +kernel), true, rfl, iteF ?_⟩
    refine ⟨.ref p, rfl, p, _, rfl, Evl.st_of hp, rfl, _, _, rfl, _, _, rfl, _, [], rfl, rfl, ?_⟩
    refine ⟨.str e, rfl, .str e, .ty "str", _, _, true, rfl, .ty _, .base (.str _), kit_ty (by decide +kernel), true, rfl, iteF ?_⟩
    obtain ⟨v, hv, _⟩ := tkv_some (tb := rows) (z := e) ((rk e).mpr em)
    refine ⟨.str e, rfl, .ref m, rfl, m, _, rfl, dgK MS.hm (mkS_tables _ _ _ _), tb, some v, rfl, dgR (k := Sum.inr e) MS.ht hv, _, rfl, iteF ?_⟩
    refine ⟨.ref c, rfl, .ref b, rfl, b, ys, rfl, Evl.st_of hb, y6, fun pl H1 L x1 _ hpl tL eL => ?_⟩
    refine ⟨.tuple (on.map PyData.str), _, dp_row (x1 _ _ hc), .lst (Evl.sq_of hpl) (dpa_rows tL), row_shaped onm, rows_shaped (fun q hq y hy => ynm y ((partsS_sub (by rw [← eL]; exact List.mem_map_of_mem hq)).subset hy)), ?_⟩
    rw [any_rows, eL, decide_eq_true (partsS_has os)]
    refine ⟨false, rfl, iteF ?_⟩
    have M1 := MS.to x1
    refine ⟨fun σ' H' => σ' = [some (.ref m), some (.ref a), some (.ref b), some (.str wd), some (.ref p), some (.str e), some (.ref c), some (.str z)] ∧ H' = H1 ∧ z ∈ startsOf wd dots ss, ?_, ?_⟩
    · refine ⟨.str z, rfl, .str z, .ty "str", _, _, true, rfl, .ty _, .base (.str _), kit_ty (by decide +kernel), true, rfl, iteF ?_⟩
      refine ⟨.str z, rfl, .str wd, rfl, rfl, _, rfl, ite2 (fun q => ?_) (fun q => ?_)⟩
      · have ew : wd = ("rings" : Str) := by simpa using of_decide_eq_true q
        have es : startsOf wd dots ss = dots := by unfold startsOf; rw [if_pos ew]
        refine ⟨.ref m, rfl, m, _, rfl, dgK M1.hm (mkS_nodes _ _ _ _), nb, _, rfl, .inl (Evl.sq_of M1.hn), rfl, flat_strs _, _, rfl, ?_⟩
        rw [if_pos (by decide), inV_str, decide_eq_true zd]
        exact iteF ⟨rfl, rfl, by rw [es]; exact zd⟩
      · have ew : ¬ wd = ("rings" : Str) := fun z => by subst z; exact absurd q (by decide)
        have es : startsOf wd dots ss = ss := by unfold startsOf; rw [if_neg ew]
        refine ⟨.ref m, rfl, m, _, rfl, dgK M1.hm (mkS_starts _ _ _ _), sb, _, rfl, .inl (Evl.sq_of M1.hs), rfl, flat_strs _, _, rfl, ?_⟩
        rw [if_pos (by decide), inV_str]
        by_cases zm : z ∈ ss
        · rw [decide_eq_true zm]
          exact iteF ⟨rfl, rfl, by rw [es]; exact zm⟩
        · rw [decide_eq_false zm]
          have := k H1 x1
          rw [es, decide_eq_false zm, Bool.false_and] at this
          exact iteT this
    rintro σ H1' ⟨rfl, rfl, zm⟩
    rw [decide_eq_true zm, Bool.true_and] at k
    refine ⟨.ref m, rfl, .str e, rfl, .ref m, rfl, .ref a, rfl, .ref c, rfl, a, c, _, _, rfl, rfl, x1 _ _ ha, x1 _ _ hc, Nat.le_of_lt (small1000 (by rw [List.length_map, List.length_map]; omega)), fun q H2 x2 hq => ?_⟩
    rw [← List.map_append] at hq
    refine ⟨.str e, rfl, .str z, rfl, m, q, nb, tb, sb, pb, e, z, zs ++ on, ends, dots, ss, ps, rows, o, n, rfl, M1.to x2, hq, em, zd, fun r H3 x3 _ hr3 => ?_⟩
    have LD : LeadOk dots (nowTab dots (o e) (n e) (zs ++ on)) := nowTab_lead (tok.to e em) (tok.tn e em) ok.dm (ok.em e em)
    obtain ⟨xs, u, ew, hu'⟩ := track_form (tb := nowTab dots (o e) (n e) (zs ++ on)) LD.sp (dots.length + 1) [] (.str z) (.inr ⟨z, rfl, ok.dm z zd⟩)
    have ewl : walkOf (nowTab dots (o e) (n e) (zs ++ on)) (dots.length + 1) z = xs.map V.str ++ [u] := ew
    have nmz : ∀ y ∈ xs, Nm y := fun y hy => by
      have q1 := track_spots (tb := nowTab dots (o e) (n e) (zs ++ on)) LD.sp (dots.length + 1) [] (.str z) (fun _ h => nomatch h) (.inr ⟨z, rfl, ok.dm z zd⟩) (.str y) (by rw [ew]; exact List.mem_append_left _ (List.mem_map_of_mem hy))
      rcases q1 with q1 | ⟨y', q1, q2⟩
      · cases q1
      · cases q1
        exact q2
    rw [ewl] at hr3
    refine ⟨.str wd, rfl, m, r, nb, tb, sb, pb, wd, e, xs, u, ends, dots, ss, ps, rows, o, n, rfl, M1.to (x2.trans x3), hr3, nmz, hu', fun H4 x4 => ?_⟩
    have eb : breaksB wd e ps (xs.map V.str ++ [u]) = brk dots ps o n wd (zs ++ on) e z := by unfold brk; rw [ewl]
    rw [eb]
    exact k H4 (x1.trans (x2.trans (x3.trans x4)))
end
end Rw
end T_LM

section T_LS
set_option Elab.async false
set_option linter.all false
set_option maxRecDepth 100000
set_option maxHeartbeats 16000000
namespace Rw
open PySem L2 PyProof.Rows
def rReprS' : List V → Hp → VK → Prop := fun xs H Q => ∃ z : Str, xs = [.str z] ∧ (reprText z).length ≤ sizeLine ∧ Q (.str (reprText z)) H
theorem call_reprS' {X : Cx} : CallR X (.builtin "repr") rReprS' := by
  intro pins s σ H xs us Q I r h
  obtain ⟨z, rfl, hz, q⟩ := h
  obtain ⟨u, rfl, t, rfl⟩ := vals1 r
  exact PySem.P.repr_of_str ⟨.str (reprText z), H, I.tok _, ⟨_, rfl⟩, q⟩ hz
theorem ModelS.lock {H : Hp} {m nb tb sb pb : Addr} {ends dots ss ps : List Str} {rows : List (Str × V)} {o n : Str → List (Str × V)} (MS : ModelS H m nb tb sb pb ends dots ss ps rows o n) (od : Obj) : ModelR (upd H tb (.frz od (.dK (tkv rows)))) m nb tb sb pb ends dots ss ps rows o n := by
  have rlen : rows.length = ends.length := by rw [← MS.rk.length_eq, List.length_map]
  have rne : rows ≠ [] := fun z => by
    have := MS.ok.e0
    rw [z] at rlen
    simp at rlen
    omega
  have ro := MS.ra.okP MS.rk MS.ok.en
  have up : ∀ {b : Addr} {u : HO}, H b = some u → b ≠ tb → (upd H tb (.frz od (.dK (tkv rows)))) b = some u := fun {b u} h ne => by rw [upd_ne ne]; exact h
  have mne : m ≠ tb := fun z => by
    have z1 := MS.hm
    rw [z, MS.ht] at z1
    have z3 := congrArg List.length (HO.dK.inj (Option.some.inj z1))
    rw [tkv_len] at z3
    have z4 : (mkS nb tb sb pb).length = 4 := rfl
    have := MS.ok.e2
    omega
  exact ⟨up MS.hm mne, up MS.hn (ne_of MS.hn MS.ht (by intro z; cases z)), .inr ⟨od, upd_same⟩, up MS.hs (ne_of MS.hs MS.ht (by intro z; cases z)), up MS.hp (ne_of MS.hp MS.ht (by intro z; cases z)), fun e he => by
    obtain ⟨p, po, pn, hv, pa⟩ := MS.ra e he
    exact ⟨p, po, pn, hv, up pa.hp (ne_of pa.hp MS.ht (by intro z; cases z)), up pa.ho (tab_ne MS.ht ro rne pa.ho pa.o1), up pa.hn (tab_ne MS.ht ro rne pa.hn pa.o2), pa.o1, pa.o2⟩, MS.ok⟩
section
variable {P : Program} {w : World} {K : PySem.W.Frag} {mg : Str → Option Value} {base : Heap}
/-! ### this law's judge of papers -/
def spLShown : Sp := fun vs H Q _ => ∃ (m a b t D nb tb sb pb : Addr) (wd : Str) (dm : Str → List Str) (gm : Str → Str → Nat) (zs ys ends dots ss ps : List Str) (rows : List (Str × V)) (o n : Str → List (Str × V)) (H0 : Hp), vs = [.ref m, .ref a, .ref b, .str wd, .ref t] ∧ Evl.Ex H0 H ∧ ModelS H0 m nb tb sb pb ends dots ss ps rows o n ∧ TabsOk ends dots o n ∧
  H a = some (.tup (zs.map V.str)) ∧ H b = some (.tup (ys.map V.str)) ∧ (∀ y ∈ ys, y ∉ zs) ∧ H t = some (.tup [.str "kept", .ref D]) ∧ H0 D = none ∧ PapsAt H0 H D ends dots dm gm ∧ wish4 wd ∧
  ∀ bb H', Evl.Ex H H' → (bb = true ↔ ∀ e ∈ ends, Pap wd e (startsOf wd dots ss) ss ps dots (spotsOf (o e) (n e) zs ys) (dm e) (gm e)) → Q (.bl bb) H'
abbrev nLShown : List Str := ["model", "done", "fresh", "word", "matter", "target", "web", "paper"]
theorem sc_lshown : FnScope nLShown ["model", "done", "fresh", "word", "matter"] (defScope s_is_shown) := ⟨rfl, rfl, rfl, by decide +kernel, rfl, by decide +kernel, by decide +kernel⟩
theorem ok_lshown {f : Addr} {fd : FuncData} (F : Fun K "_law_is_shown" "_law_is_shown" s_is_shown f fd) (C1 : Cal P w K mg base 1 "_law_web" ["model", "done", "fresh", "target"] spWebV) (C2 : Cal P w K mg base 2 "_law_is_paper" ["model", "web", "target", "word", "matter"] spLPaper)
    (mIsi : mg "isinstance" = none) (mTup : mg "tuple" = none) (mLen : mg "len" = none) (mRepr : mg "repr" = none) (mDict : mg "dict" = none) : FnOk P w K mg base CX0 3 f fd ["model", "done", "fresh", "word", "matter"] spLShown := by
  obtain ⟨f1, fd1, F1, k1, b1, g1⟩ := C1.ex
  obtain ⟨f2, fd2, F2, k2, b2, g2⟩ := C2.ex
  refine F.ok sc_lshown (fun vs H Q E h => ?_) (fun cdv A outer s H vs Q E hr h => ?_)
  · obtain ⟨m, a, b, t, D, nb, tb, sb, pb, wd, dm, gm, zs, ys, ends, dots, ss, ps, rows, o, n, H0, rfl, _⟩ := h
    rfl
  · obtain ⟨m, a, b, t, D, nb, tb, sb, pb, wd, dm, gm, zs, ys, ends, dots, ss, ps, rows, o, n, H0, rfl, x0, MS, tok, ha, hb, dis, ht, D0, PA, w4, k⟩ := h
    have nd := sc_lshown.nd
    have hu := hu_of hr
    have r1 : Room 1 _ := hr.mono (by decide)
    refine ⟨_, PSs.nox (pss_cons (ps_if (PW.pt (pw_or (pt_not (pt_val (pe_callB call_isi (by rfl) mIsi (by decide +kernel) (pa_cons (pv 4) (pa_cons (pe_bltn (v := .ty "tuple") (by rfl) mTup (by decide +kernel) rfl) pa_nil)))))
          (pw_or (pt_cmpR op_ne (pe_callB call_len (by rfl) mLen PySem.boot_len (pa_cons (pv 4) pa_nil)) pe_int (nomark _))
          (pw_or1 (pt_cmpR op_notIn_seq (pe_callB call_reprS' (by rfl) mRepr (by decide +kernel) (pa_cons (pe_ix ix_tup (pv 4) pe_int (fun _ _ => rfl)) pa_nil)) (pe_tup (pa_cons pe_str (pa_cons pe_str pa_nil))) rfl))))) (pss_one (ps_ret pe_bl)) pss_nil)
      (pss_cons (ps_if (pt_cmpR op_eq (pe_ix ix_tup (pv 4) pe_int (fun _ _ => rfl)) pe_str (nomark _)) (pss_one ps_never) pss_nil)
      (pss_cons (ps_if (PW.pt (pw_or (pt_not (pt_val (pe_callB call_isi (by rfl) mIsi (by decide +kernel) (pa_cons (pe_ix ix_tup (pv 4) pe_int (fun _ _ => rfl)) (pa_cons (pe_bltn (v := .ty "dict") (by rfl) mDict (by decide +kernel) rfl) pa_nil)))))
          (pw_or1 (pt_cmpR op_ne (pe_callB call_lenD (by rfl) mLen PySem.boot_len (pa_cons (pe_ix ix_tup (pv 4) pe_int (fun _ _ => rfl)) pa_nil)) (pe_callB call_lenD (by rfl) mLen PySem.boot_len (pa_cons (pe_dget hu (pv 0) pe_str (fun _ _ => rfl)) pa_nil)) (nomark _))))) (pss_one (ps_ret pe_bl)) pss_nil)
      (pss_cons (ps_lock (ps_for PassesOwn.never rfl (pi_keys (pe_dget hu (pv 0) pe_str (fun _ _ => rfl))) (pg_name (i := 5) nd rfl (.inl rfl))
        (pss_cons (ps_par (i := 6) (j := 7) (by rfl) nd rfl rfl (by decide) rfl rfl (pa_cons (pe_call F1 r1 rfl g1 k1 b1 .nil pass0 (pa_cons (pv 0) (pa_cons (pv 1) (pa_cons (pv 2) (pa_cons (pv 5) pa_nil))))) (pa_cons (pe_dget2 hu (pe_ix ix_tup (pv 4) pe_int (fun _ _ => rfl)) (pv 5) pe_non ⟨rfl, rfl, rfl, rfl⟩) pa_nil)) (by rfl))
        (pss_one (ps_if (pt_not (pt_val (pe_call F2 hr rfl g2 k2 b2 .nil pass0 (pa_cons (pv 0) (pa_cons (pv 6) (pa_cons (pv 5) (pa_cons (pv 3) (pa_cons (pv 7) pa_nil)))))))) (pss_one (ps_ret pe_bl)) pss_nil)))))
      (pss_one (ps_ret pe_bl)))))), ?_⟩
    have ok := MS.ok
    have e2 := ok.e2
    have d6 := ok.d6
    have MH : ModelS H m nb tb sb pb ends dots ss ps rows o n := MS.to x0
    refine ⟨.ref t, rfl, .ref t, .ty "tuple", _, _, true, rfl, .ty _, .base (.tup ht), kit_ty (by decide +kernel), true, rfl, iteF ?_⟩
    refine ⟨.ref t, rfl, .ref t, 2, rfl, .inr ⟨_, Evl.st_of ht, rfl⟩, rfl, false, rfl, iteF ?_⟩
    refine ⟨.ref t, rfl, t, _, 0, .str "kept", rfl, rfl, Evl.st_of ht, rfl, _, rfl, by decide +kernel, by show 2 ≤ sizeLine; decide, fun q hq => ⟨q, _, rfl, .inr (Evl.st_of upd_same), rfl, rfl, _, rfl, ?_⟩⟩
    have y1 : Evl.Ex H (upd H q (.tup [.str "'kept'", .str "'broken'"])) := Evl.Ex.new hq
    generalize upd H q (.tup [.str "'kept'", .str "'broken'"]) = H1 at y1
    rw [show (if true = true then !inV (V.str (reprText "kept")) [V.str "'kept'", V.str "'broken'"] else inV (V.str (reprText "kept")) [V.str "'kept'", V.str "'broken'"]) = false by decide +kernel]
    refine iteF ?_
    have ht1 := y1 _ _ ht
    refine ⟨.ref t, rfl, t, _, 0, .str "kept", rfl, rfl, Evl.st_of ht1, rfl, rfl, false, rfl, iteF ?_⟩
    obtain ⟨rs, r1', rp, r3⟩ := PA.ex
    have hD1 := y1 _ _ r1'
    have M1 := MH.to y1
    have rl : rs.length = rows.length := by
      have := (rp.trans MS.rk.symm).length_eq
      rw [List.length_map, List.length_map] at this
      exact this
    refine ⟨.ref t, rfl, t, _, 1, .ref D, rfl, rfl, Evl.st_of ht1, rfl, .ref D, .ty "dict", _, _, true, rfl, .ty _, .base (.dK hD1), kit_ty (by decide +kernel), true, rfl, iteF ?_⟩
    refine ⟨.ref t, rfl, t, _, 1, .ref D, rfl, rfl, Evl.st_of ht1, rfl, D, _, rfl, hD1, .ref m, rfl, m, _, rfl, dgK M1.hm (mkS_tables _ _ _ _), tb, _, rfl, M1.ht, rfl, _, rfl, ?_⟩
    rw [decide_eq_true (show V.int ((tkv rs).length : Int) = V.int ((tkv rows).length : Int) by rw [tkv_len, tkv_len, rl])]
    refine iteF ?_
    -- for target in model["tables"]
    have x01 := x0.trans y1
    have nDt : D ≠ tb := fun z => by rw [z, MS.ht] at D0; cases D0
    refine ⟨tb, .dK (tkv rows), M1.ht, trivial, fun od => ?_⟩
    have locked : (upd H1 tb (.frz od (.dK (tkv rows)))) tb = some (.frz od (.dK (tkv rows))) := upd_same
    have up : ∀ {p : Addr} {u : HO}, H1 p = some u → p ≠ tb → (upd H1 tb (.frz od (.dK (tkv rows)))) p = some u := fun {p u} h ne => by rw [upd_ne ne]; exact h
    have back : ∀ {Hx : Hp}, Evl.Ex (upd H1 tb (.frz od (.dK (tkv rows)))) Hx → Evl.Ex H1 (upd Hx tb (.dK (tkv rows))) := fun {Hx} x b o h => by
      by_cases z : b = tb
      · subst z
        rw [upd_same, ← M1.ht, h]
      · rw [upd_ne z]
        exact x _ _ (by rw [upd_ne z]; exact h)
    have xL : Evl.Ex (upd H0 tb (.frz od (.dK (tkv rows)))) (upd H1 tb (.frz od (.dK (tkv rows)))) := fun b u h => by
      by_cases z : b = tb
      · subst z
        rw [upd_same] at h ⊢
        exact h
      · rw [upd_ne z] at h ⊢
        exact x01 _ _ h
    have MR : ModelR (upd H0 tb (.frz od (.dK (tkv rows)))) m nb tb sb pb ends dots ss ps rows o n := MS.lock od
    have PL : PapsAt (upd H0 tb (.frz od (.dK (tkv rows)))) (upd H1 tb (.frz od (.dK (tkv rows)))) D ends dots dm gm := ⟨⟨rs, up hD1 nDt, rp, fun q hq => by
      obtain ⟨pa, e1, e0, h'⟩ := r3 q hq
      have npt : pa ≠ tb := fun z => by rw [z, MS.ht] at e0; cases e0
      exact ⟨pa, e1, by rw [upd_ne npt]; exact e0, up (y1 _ _ h') npt⟩⟩, PA.nd, PA.sub⟩
    have htL := up ht1 (ne_of ht1 M1.ht (by intro z; cases z))
    have haL := up (y1 _ _ ha) (ne_of (y1 _ _ ha) M1.ht (by intro z; cases z))
    have hbL := up (y1 _ _ hb) (ne_of (y1 _ _ hb) M1.ht (by intro z; cases z))
    have hmL : (upd H1 tb (.frz od (.dK (tkv rows)))) m = some (.dK (mkS nb tb sb pb)) := xL _ _ MR.hm
    generalize upd H1 tb (.frz od (.dK (tkv rows))) = HL at locked up back xL PL htL haL hbL hmL
    generalize upd H0 tb (.frz od (.dK (tkv rows))) = H0L at xL MR PL
    have ekeys : ∀ {i : Nat} {kk : Key} {v : V}, (tkv rows)[i]? = some (kk, v) → ∃ e, (rows.map (·.1))[i]? = some e ∧ kk = Sum.inr e := fun {i kk v} h => by
      unfold tkv at h
      rw [List.getElem?_map] at h
      cases q : rows[i]? with
      | none => rw [q] at h; cases h
      | some r =>
        rw [q] at h
        exact ⟨r.1, by rw [List.getElem?_map, q]; rfl, (congrArg Prod.fst (Option.some.inj h)).symm⟩
    obtain ⟨rsL, l1, l2, l3⟩ := PL.ex
    refine ⟨.ref m, rfl, m, _, rfl, dgK hmL (mkS_tables _ _ _ _), tb, od, rfl, .inl ⟨_, locked, for_it walk_keys
      (fun i σ H' => ∃ x5 x6 x7 : Option V, σ = [some (.ref m), some (.ref a), some (.ref b), some (.str wd), some (.ref t), x5, x6, x7] ∧ Evl.Ex HL H' ∧ ∀ e ∈ (rows.map (·.1)).take i, Pap wd e (startsOf wd dots ss) ss ps dots (spotsOf (o e) (n e) zs ys) (dm e) (gm e))
      ⟨none, none, none, rfl, Evl.Ex.refl _, fun z hz => nomatch hz⟩ (fun i σ H' _ ⟨_, _, _, _, x, _⟩ => x _ _ locked) ?_ ?_⟩⟩
    · rintro i x σ H2 H2' hi ⟨x5, x6, x7, rfl, x2, hall⟩ ⟨rfl, kk, v, hkv, rfl⟩
      obtain ⟨e, he, rfl⟩ := ekeys hkv
      have em : e ∈ ends := MS.rk.mem_iff.mp (List.mem_of_getElem? he)
      have et : (rows.map (·.1)).take (i + 1) = (rows.map (·.1)).take i ++ [e] := by rw [List.take_add_one, he]; rfl
      refine ⟨.ref m, rfl, .ref a, rfl, .ref b, rfl, .str e, rfl, m, a, b, nb, tb, sb, pb, e, zs, ys, ends, dots, ss, ps, rows, o, n, rfl, MR.to (xL.trans x2), x2 _ _ haL, x2 _ _ hbL, dis, em, fun Wd H3 x3 hWd MX => ?_⟩
      have x23 := x2.trans x3
      obtain ⟨v', hv', hm'⟩ := tkv_some (tb := rsL) (z := e) (l2.mem_iff.mpr em)
      obtain ⟨pa, ev', p0, hpa⟩ := l3 _ hm'
      have ev2 : v' = .ref pa := ev'
      subst ev2
      have W := webs_of (zs := zs) (ys := ys) ok em (tok.to e em) (tok.tn e em)
      have nWp : Wd ≠ pa := fun z => by rw [z, x2 _ _ hpa] at hWd; cases hWd
      refine ⟨.ref t, rfl, t, _, 1, .ref D, rfl, rfl, Evl.st_of (x23 _ _ htL), rfl, D, rfl, .inl ⟨_, .inl (x23 _ _ l1)⟩, .str e, rfl, some (.ref pa), .inl ⟨_, Sum.inr e, .inl (x23 _ _ l1), rfl, hv'.symm⟩, ?_⟩
      refine ⟨_, _, rfl, .ref m, rfl, .ref Wd, rfl, .str e, rfl, .str wd, rfl, .ref pa, rfl, m, Wd, pa, nb, tb, sb, pb, wd, e, dm e, gm e, _, ends, dots, ss, ps, rows, o, n, H0L, rfl, xL.trans x23, p0, MR, MX.r, W, nWp, x23 _ _ hpa, PL.nd e em, PL.sub e em, w4, fun bb H4 x4 hbb => ⟨bb, rfl, ?_⟩⟩
      have x24 := x23.trans x4
      cases bb with
      | true =>
        refine iteF ⟨_, _, _, rfl, x24, fun y hy => ?_⟩
        rw [et] at hy
        rcases List.mem_append.mp hy with hy | hy
        · exact hall y hy
        · rw [List.mem_singleton.mp hy]; exact hbb.mp rfl
      | false => exact iteT ⟨x24 _ _ locked, k false _ (y1.trans (back x24)) ⟨(fun c => nomatch c), fun c => absurd (hbb.mpr (c e em)) (by decide)⟩⟩
    · rintro σ H2 ⟨x5, x6, x7, rfl, x2, hall⟩
      rw [tkv_len, ← List.length_map (f := (·.1)), List.take_length] at hall
      refine ⟨x2 _ _ locked, ?_⟩
      exact k true _ (y1.trans (back x2)) ⟨fun _ e he => hall e (MS.rk.mem_iff.mpr he), fun _ => rfl⟩
end
end Rw
end T_LS

section T_MO
set_option Elab.async false
set_option linter.all false
set_option maxRecDepth 100000
set_option maxHeartbeats 16000000
namespace Rw
open PySem L2 PyProof.Rows
/-! ### goals, moments and nodes -/
structure Mom where
  p : Addr
  e : Str
  c : Addr
  on : List Str
  z : Str
def MomsT (H : Hp) (L : List Mom) : Prop := ∀ t ∈ L, H t.p = some (.tup [.str t.e, .ref t.c, .str t.z]) ∧ H t.c = some (.tup (t.on.map V.str))
theorem MomsT.to {H H' : Hp} {L : List Mom} (h : MomsT H L) (x : Evl.Ex H H') : MomsT H' L := fun t ht => ⟨x _ _ (h t ht).1, x _ _ (h t ht).2⟩
theorem MomsT.keep {H H' : Hp} {L : List Mom} (h : MomsT H L) (x : ∀ {a : Addr} {xs : List V}, H a = some (.tup xs) → H' a = some (.tup xs)) : MomsT H' L := fun t ht => ⟨x (h t ht).1, x (h t ht).2⟩
theorem MomsT.app {H : Hp} {L M : List Mom} (h1 : MomsT H L) (h2 : MomsT H M) : MomsT H (L ++ M) := fun t ht => (List.mem_append.mp ht).elim (h1 t) (h2 t)
def MomOk (ends dots ys : List Str) (t : Mom) : Prop := t.e ∈ ends ∧ t.on.Sublist ys ∧ t.z ∈ dots
theorem mom_data {K : PySem.W.Frag} {H : Hp} {ends dots ys : List Str} {L : List Mom} (h : MomsT H L) (ok : ∀ t ∈ L, MomOk ends dots ys t) (em : ∀ e ∈ ends, Nm e) (dm : ∀ z ∈ dots, Nm z) (ym : ∀ z ∈ ys, Nm z) : ∀ v ∈ L.map (fun t => V.ref t.p), DataV K H v := fun v hv => by
  obtain ⟨t, ht, rfl⟩ := List.mem_map.mp hv
  obtain ⟨h1, h2⟩ := h t ht
  obtain ⟨o1, o2, o3⟩ := ok t ht
  have on : ∀ z ∈ t.on, Nm z := fun z hz => ym z (o2.subset hz)
  obtain ⟨h3, h4⟩ := lay_strs on
  refine ⟨.tuple [.str t.e, .tuple (t.on.map PyData.str), .str t.z], .tup (Evl.st_of h1) (.cons (.str _) (.cons (dp_row h2) (.cons (.str _) .nil))), ?_, ?_⟩
  · show (PyData.strOk t.e && (PyData.canLayAll0 (t.on.map PyData.str) && (PyData.strOk t.z && true))) = true
    rw [nm_ok (em _ o1), h3, nm_ok (dm _ o3)]
    rfl
  · show max 0 (max (PyData.depthAll (t.on.map PyData.str) + 1) (max 0 0)) + 1 ≤ 60
    omega
section
variable {P : Program} {w : World} {K : PySem.W.Frag} {mg : Str → Option Value} {base : Heap}
def spMoms : Sp := fun vs H Q _ => ∃ (m b nb tb sb pb : Addr) (wd : V) (ys ends dots ss ps : List Str) (rows : List (Str × V)) (o n : Str → List (Str × V)), vs = [.ref m, .ref b, wd] ∧ ModelS H m nb tb sb pb ends dots ss ps rows o n ∧ H b = some (.tup (ys.map V.str)) ∧ ys.length ≤ 6 ∧
  ∀ (l : Addr) (L : List Mom) (H' : Hp), Evl.Ex H H' → H l = none → H' l = some (.lst (L.map fun t => V.ref t.p)) → MomsT H' L → (∀ t ∈ L, MomOk ends dots ys t) → L.length ≤ 1000 → Q (.ref l) H'
abbrev nMoms : List Str := ["model", "fresh", "word", "found", "target", "turned", "node"]
theorem sc_moms : FnScope nMoms ["model", "fresh", "word"] (defScope s_moments) := ⟨rfl, rfl, rfl, by decide +kernel, rfl, by decide +kernel, by decide +kernel⟩
theorem ok_moms {f : Addr} {fd : FuncData} (F : Fun K "_law_moments" "_law_moments" s_moments f fd) (C1 : Cal P w K mg base 1 "_law_parts" ["some"] (spLPartsT K)) : FnOk P w K mg base CX0 2 f fd ["model", "fresh", "word"] spMoms := by
  obtain ⟨f1, fd1, F1, k1, b1, g1⟩ := C1.ex
  refine F.ok sc_moms (fun vs H Q E h => ?_) (fun cdv A outer s H vs Q E hr h => ?_)
  · obtain ⟨m, b, nb, tb, sb, pb, wd, ys, ends, dots, ss, ps, rows, o, n, rfl, _⟩ := h
    rfl
  · obtain ⟨m, b, nb, tb, sb, pb, wd, ys, ends, dots, ss, ps, rows, o, n, rfl, MS, hb, y6, k⟩ := h
    have nd := sc_moms.nd
    have hu := hu_of hr
    refine ⟨_, PSs.nox (pss_cons (ps_set (i := 3) nd rfl (.inl rfl) (pe_lst pa_nil))
      (pss_cons (ps_lock (ps_for PassesOwn.never rfl (pi_keys (pe_dget hu (pv 0) pe_str (fun _ _ => rfl))) (pg_name (i := 4) nd rfl (.inr rfl))
        (pss_one (ps_for PassesOwn.never rfl (pi_list (pe_call F1 hr rfl g1 k1 b1 .nil pass0 (pa_cons (pv 1) pa_nil))) (pg_name (i := 5) nd rfl (.inr rfl))
          (pss_one (ps_set (i := 3) nd rfl (.inl rfl) (pe_op op_cat (pv 3)
            (pe_lc (own := [("node", 6)]) (g := gName 6) (tt := tYes) (te := tTup (tCons (tVar 4) (tCons (tVar 5) (tCons (tVar 6) tNil)))) rfl nd (pi_list (pe_dget hu (pv 0) pe_str (fun _ _ => rfl))) (blkOk_by (own := [("node", 6)]) (N := nMoms) (sc := defScope s_moments) (by decide +kernel))
              (fun _ _ _ _ _ => pg_name (i := 6) nd rfl (Or.inl rfl)) (fun _ _ _ _ _ => pts_nil) (fun _ _ _ _ _ => pe_tup (pa_cons (pv 4) (pa_cons (pv 5) (pa_cons (pv 6) pa_nil))))))))))))
      (pss_one (ps_ret (pv 3))))), ?_⟩
    have ok := MS.ok
    have e2 := ok.e2
    have d6 := ok.d6
    have rlen : rows.length ≤ 2 := by
      have := MS.rk.length_eq
      rw [List.length_map] at this
      omega
    refine ⟨Nat.zero_le _, fun f0 hf0 => ?_⟩
    have y1 : Evl.Ex H (upd H f0 (.lst [])) := Evl.Ex.new hf0
    have q1 : (upd H f0 (.lst [])) f0 = some (.lst (([] : List Mom).map fun t => V.ref t.p)) := upd_same
    generalize upd H f0 (.lst []) = H1 at y1 q1
    have M1 := MS.to y1
    refine ⟨tb, .dK (tkv rows), M1.ht, trivial, fun od => ?_⟩
    have locked : (upd H1 tb (.frz od (.dK (tkv rows)))) tb = some (.frz od (.dK (tkv rows))) := upd_same
    have MR := M1.lock od
    have qL : (upd H1 tb (.frz od (.dK (tkv rows)))) f0 = some (.lst (([] : List Mom).map fun t => V.ref t.p)) := by rw [upd_ne (ne_of q1 M1.ht (by intro z; cases z))]; exact q1
    have hbL : (upd H1 tb (.frz od (.dK (tkv rows)))) b = some (.tup (ys.map V.str)) := by rw [upd_ne (ne_of (y1 _ _ hb) M1.ht (by intro z; cases z))]; exact y1 _ _ hb
    have back : ∀ {Hx : Hp}, Evl.Ex (upd H1 tb (.frz od (.dK (tkv rows)))) Hx → Evl.Ex H1 (upd Hx tb (.dK (tkv rows))) := back_lock M1.ht
    have noneL : ∀ {p : Addr}, (upd H1 tb (.frz od (.dK (tkv rows)))) p = none → H p = none := fun {p} h => by
      cases q : H p with
      | none => rfl
      | some u =>
        by_cases e : p = tb
        · subst e
          rw [upd_same] at h
          cases h
        · rw [upd_ne e, y1 _ _ q] at h
          cases h
    generalize upd H1 tb (.frz od (.dK (tkv rows))) = HL at locked MR qL hbL back noneL
    refine ⟨.ref m, rfl, m, _, rfl, dgK MR.hm (mkS_tables _ _ _ _), tb, od, rfl, .inl ⟨_, locked, for_it walk_keys
      (fun i σ H' => ∃ (x4 x5 : Option V) (fa : Addr) (L : List Mom), σ = [some (.ref m), some (.ref b), some wd, some (.ref fa), x4, x5, none] ∧ Evl.Ex HL H' ∧ H fa = none ∧ H' fa = some (.lst (L.map fun t => V.ref t.p)) ∧ MomsT H' L ∧ (∀ t ∈ L, MomOk ends dots ys t) ∧ L.length ≤ 400 * i)
      ⟨none, none, f0, [], rfl, Evl.Ex.refl _, hf0, qL, (fun t ht => nomatch ht), (fun t ht => nomatch ht), Nat.zero_le _⟩ (fun i σ H' _ ⟨_, _, _, _, _, x, _⟩ => x _ _ locked) ?_ ?_⟩⟩
    · rintro i x σ H2 H2' hi ⟨x4, x5, fa, L, rfl, x2, fn, fh, tL, oL, lL⟩ ⟨rfl, kk, v, hkv, rfl⟩
      rw [tkv_len] at hi
      obtain ⟨e, he, rfl⟩ := wkey_at (rs := rows) rfl hkv
      have em : e ∈ ends := MS.rk.mem_iff.mp (List.mem_of_getElem? he)
      refine ⟨.ref b, rfl, b, ys, rfl, Evl.st_of (x2 _ _ hbL), y6, fun pl H3 M x3 _ hpl tM eM => ⟨pl, rfl, ⟨_, Evl.sq_of hpl⟩, for_list (K := K) (a := pl) (xs := M.map fun q => V.ref q.1)
        (fun j σ H' => ∃ (x5 : Option V) (fa : Addr) (L : List Mom), σ = [some (.ref m), some (.ref b), some wd, some (.ref fa), some (.str e), x5, none] ∧ Evl.Ex H3 H' ∧ H fa = none ∧ H' fa = some (.lst (L.map fun t => V.ref t.p)) ∧ MomsT H' L ∧ (∀ t ∈ L, MomOk ends dots ys t) ∧ L.length ≤ 400 * i + 6 * j)
        ⟨x5, fa, L, rfl, Evl.Ex.refl _, fn, x3 _ _ fh, tL.to x3, oL, lL⟩ (fun i σ H' _ ⟨_, _, _, _, x, _⟩ => Evl.sq_of (x _ _ hpl)) ?_ ?_⟩⟩
      · rintro j v σ H4 hj ⟨x5', fb, L4, rfl, x4', fbn, f4, t4, o4, l4⟩
        obtain ⟨q, hq, rfl⟩ := rowsT_at hj
        have mq := List.mem_of_getElem? hq
        have Ml : M.length ≤ 64 := by
          have := partsS_len (zs := ys) y6
          rw [← eM, List.length_map] at this
          exact this
        have jl : j < M.length := (List.getElem?_eq_some_iff.mp hq).1
        have qs : q.2.Sublist ys := partsS_sub (by rw [← eM]; exact List.mem_map_of_mem mq)
        have M4 := MR.to (x2.trans (x3.trans x4'))
        have tq := x4' _ _ (tM q mq)
        refine ⟨.ref fb, rfl, .ref m, rfl, m, _, rfl, dgK M4.hm (mkS_nodes _ _ _ _), nb, rfl, ⟨_, Evl.sq_of M4.hn⟩, fun R hR => lc_list (K := K) (a := nb) (xs := dots.map V.str)
          (fun l H' => Evl.Ex H4 H' ∧ ∃ N : List Mom, H' R = some (.lst (N.map fun t => V.ref t.p)) ∧ MomsT H' N ∧ (∀ t ∈ N, MomOk ends dots ys t) ∧ N.length ≤ l)
          ⟨Evl.Ex.new hR, [], upd_same, (fun t ht => nomatch ht), (fun t ht => nomatch ht), Nat.zero_le _⟩ (fun l H' _ h => Evl.sq_of (h.1 _ _ M4.hn)) ?_ ?_⟩
        · rintro l v H5 hl ⟨x5h, N, r5, t5, o5, l5⟩
          obtain ⟨z, hz, rfl⟩ := str_at hl
          have ll : l < dots.length := (List.getElem?_eq_some_iff.mp hz).1
          refine ⟨rfl, yes_if ⟨.str e, rfl, .ref q.1, rfl, .str z, rfl, by show 3 ≤ sizeLine; decide, fun t ht => ?_⟩⟩
          have y6' : Evl.Ex H5 (upd H5 t (.tup [.str e, .ref q.1, .str z])) := Evl.Ex.new ht
          have p6 : (upd H5 t (.tup [.str e, .ref q.1, .str z])) t = some (.tup [.str e, .ref q.1, .str z]) := upd_same
          generalize upd H5 t (.tup [.str e, .ref q.1, .str z]) = H6 at y6' p6
          have r6 := y6' _ _ r5
          have kt : ∀ {a : Addr} {xs ws : List V}, H6 a = some (.tup xs) → (upd H6 R (.lst ws)) a = some (.tup xs) := fun {a xs ws} h => by rw [upd_ne (ne_of h r6 (by intro z; cases z))]; exact h
          refine ⟨_, r6, by rw [List.length_map]; exact small1000 (by omega), (x5h.trans y6').mut hR, N ++ [⟨t, e, q.1, q.2, z⟩], by rw [upd_same, List.map_append]; rfl, MomsT.keep (MomsT.app (t5.to y6') fun u hu' => ?_) kt, fun u hu' => ?_, by rw [List.length_append]; show N.length + 1 ≤ _; omega⟩
          · rw [List.mem_singleton.mp hu']
            exact ⟨p6, (x5h.trans y6') _ _ tq⟩
          · rcases List.mem_append.mp hu' with hu' | hu'
            · exact o5 u hu'
            · rw [List.mem_singleton.mp hu']; exact ⟨em, qs, List.mem_of_getElem? hz⟩
        rintro H5 ⟨x5h, N, r5, t5, o5, l5⟩
        rw [List.length_map] at l5
        refine ⟨fb, R, _, _, rfl, rfl, x5h _ _ f4, r5, Nat.le_of_lt (small1000 (by rw [List.length_map, List.length_map]; omega)), fun p3 hp3 => ?_⟩
        refine ⟨_, p3, L4 ++ N, rfl, (x4'.trans x5h).trans (Evl.Ex.new hp3), noneL (ex_none (x2.trans (x3.trans (x4'.trans x5h))) hp3), by rw [upd_same, List.map_append], (MomsT.app (t4.to x5h) t5).to (Evl.Ex.new hp3), fun u hu' => ?_, by rw [List.length_append]; omega⟩
        rcases List.mem_append.mp hu' with hu' | hu'
        · exact o4 u hu'
        · exact o5 u hu'
      · rintro σ H4 ⟨x5', fb, L4, rfl, x4', fbn, f4, t4, o4, l4⟩
        have Ml : M.length ≤ 64 := by
          have := partsS_len (zs := ys) y6
          rw [← eM, List.length_map] at this
          exact this
        rw [List.length_map] at l4
        exact ⟨_, x5', fb, L4, rfl, x2.trans (x3.trans x4'), fbn, f4, t4, o4, by omega⟩
    · rintro σ H2 ⟨x4, x5, fa, L, rfl, x2, fn, fh, tL, oL, lL⟩
      refine ⟨x2 _ _ locked, ?_⟩
      have lt := x2 _ _ locked
      rw [tkv_len] at lL
      have kt : ∀ {a : Addr} {xs : List V}, H2 a = some (.tup xs) → (upd H2 tb (.dK (tkv rows))) a = some (.tup xs) := fun {a xs} h => by rw [upd_ne (ne_of h lt (by intro z; cases z))]; exact h
      exact ⟨.ref fa, rfl, k fa L _ (y1.trans (back x2)) fn (by rw [upd_ne (ne_of fh lt (by intro z; cases z))]; exact fh) (tL.keep kt) oL (by omega)⟩
end
end Rw
end T_MO

section T_G1
set_option Elab.async false
set_option linter.all false
set_option maxRecDepth 100000
set_option maxHeartbeats 2000000
namespace Rw
open PySem PySem.Spec PySem.Calls L2 PyProof.Rows
/-- the law's own call, its def a FnG -/
theorem law_goes {P : Program} {w : World} {K : PySem.W.Frag} {mg mb : Str → Option Value} {k : Nat} {fa a : Addr} {fd : FuncData} {x : Str} {sp : Sp} {s : Shared} {vs : List Value} {ns : List Int}
    (known : K.In s.heap) (globs : s.heap.Ns mainGlobals mg) (blt : s.heap.Ns builtinsNs mb) (blt_is : ∀ y : Str, y ≠ "__name__" → mb y = bootBuiltins y) (nolim : s.heap.NoLimit) (nogen : s.gens = #[])
    (scr : s.heap.get? a = some { cls := .type "list", data := .seq vs.toArray }) (intsOf : IntsAre vs ns) (few : ns.length ≤ sizeLine) (room : Room k callerA)
    (F : ∀ base : Heap, K.In base → base.Ns mainGlobals mg → FnG P w K mg base CX0 k fa fd [x] sp) (bind : ∀ (s : Shared) (u : Value), BindsTo s fd ⟨[u], []⟩ [(x, u)])
    (prom : ∀ H : Hp, SqL K H a (ns.map V.int) → sp [.ref a] H (fun v _ => v = .bl true) fun _ _ _ => False) :
    codeAny (model P w) callerA (.call (.ref fa) ⟨[.ref a], []⟩) (fun r s' => r = .ok (.ret (.bool true)) ∧ OldK s.heap s'.heap ∧ s'.os = s.os ∧ AllBare s'.gens) s := by
  have items := vals_ints intsOf
  have main : ∀ H : Hp, (∀ b u, H b = some u → b = a ∧ K.lookup a = none ∧ u = .frz { cls := .type "list", data := .seq vs.toArray } (.lst (ns.map V.int))) → SqL K H a (ns.map V.int) →
      codeAny (model P w) callerA (.call (.ref fa) ⟨[.ref a], []⟩) (fun r s' => r = .ok (.ret (.bool true)) ∧ OldK s.heap s'.heap ∧ s'.os = s.os ∧ AllBare s'.gens) s := by
    intro H sole reads
    have held : HOk P w H s.heap := fun b u z => by
      obtain ⟨rfl, _, rfl⟩ := sole b u z
      exact ⟨scr, by rw [List.length_map]; exact few, vs, _, items, scr⟩
    have ns_hid : ∀ {b : Addr} {m : Str → Option Value}, s.heap.Ns b m → (hidT s.heap H).Ns b m := by
      rintro b m ⟨o, es, ep, at_b, isD, rest⟩
      refine ⟨o, es, ep, hidT_get at_b ?_, isD, rest⟩
      cases z : H b with
      | none => rfl
      | some u =>
        obtain ⟨rfl, _, _⟩ := sole b u z
        rw [scr] at at_b
        cases at_b
        cases isD
    have known_hid : K.In (hidT s.heap H) := fun b o at_b => hidT_get (known b o at_b) (by
      cases z : H b with
      | none => rfl
      | some u =>
        obtain ⟨rfl, no, _⟩ := sole b u z
        rw [no] at at_b
        cases at_b)
    have lim_hid : (hidT s.heap H).NoLimit := by
      obtain ⟨mc, q1, q2⟩ := nolim
      exact ⟨mc, ns_hid q1, q2⟩
    have here : Env0 P w K mg (hidT s.heap H) callerA [] s H :=
      { frames := rfl, mod := ⟨known_hid, ns_hid globs, ⟨mb, ns_hid blt, blt_is⟩, lim_hid⟩, bs := fun b o => of_hidT, bsz := Nat.le_of_eq (hidT_size _ _), funs := trivial,
        frf := fun b hb => (by cases hb), hok := held, bare := .of_eq nogen }
    have ran := (F _ known_hid (ns_hid globs)).goes callerA [] s H ⟨[.ref a], []⟩ [.ref a] [.ref a] _ _ rfl room here (bind s (.ref a)) (.cons rfl .nil) (prom H reads)
    refine codeAny_mono ran fun out s' got => ?_
    match out, got with
    | .error _, got => exact got.elim
    | .ok .next, got => exact got.elim
    | .ok .brk, got => exact got.elim
    | .ok .cont, got => exact got.elim
    | .ok (.ret u), got =>
      obtain ⟨v, H', os, bare, un, held', rel, yes⟩ := got
      have yes' : v = .bl true := yes
      subst yes'
      have u_is : u = Value.bool true := rel
      subst u_is
      refine ⟨rfl, OldK.of_keep fun b o at_b => ?_, os, bare⟩
      cases z : H b with
      | none => exact un.keep b o at_b z (fun hb => by cases hb) (fun hb => by cases hb)
      | some u =>
        obtain ⟨rfl, _, rfl⟩ := sole b u z
        obtain ⟨still, _⟩ := held' b _ (un.frzs b _ _ z)
        rw [scr] at at_b
        cases at_b
        exact still
  cases kn : K.lookup a with
  | none =>
    refine main (fun b => if b = a then some (.frz { cls := .type "list", data := .seq vs.toArray } (.lst (ns.map V.int))) else none) (fun b u z => ?_) (.inl (.inr ⟨_, if_pos rfl⟩))
    by_cases e : b = a
    · rw [if_pos e] at z
      exact ⟨e, kn, (Option.some.inj z).symm⟩
    · rw [if_neg e] at z
      cases z
  | some o =>
    have o_is := known a o kn
    rw [scr] at o_is
    cases o_is
    exact main (fun _ => none) (fun b u z => by cases z) (.inr ⟨_, vs.toArray, _, kn, rfl, rfl, rfl, by rw [List.size_toArray, intsOf.length]; exact few, by simpa using items⟩)
/-- the end of a row, its law a FnG -/
theorem walk_ofG {l : PySem.W.OpenLaw} {n k : Nat} {q : Program} {loose : List Str} {XP : (Str → Option Value) → Heap → Prop} {YP : World → Heap → Prop} {d : DefRec} {K : Params → PySem.W.Frag} {sp : World → Sp} {x : Str}
    (most : l.most = some n) (small : n ≤ sizeLine) (nodef : d.params.defaults = []) (room : Room k callerA) (knows : ∀ (w : World) (h : Heap), YP w h → (K w.params).In h)
    (F : ∀ (w : World) (mg : Str → Option Value) (fa : Addr) (h : Heap), (K w.params).In h → h.Ns mainGlobals mg → mg d.name = some (.ref fa) →
      ∃ fd : FuncData, (∀ (s : Shared) (u : Value), BindsTo s fd ⟨[u], []⟩ [(x, u)]) ∧ ∀ base : Heap, (K w.params).In base → base.Ns mainGlobals mg → FnG l.prog w (K w.params) mg base CX0 k fa fd [x] (sp w))
    (prom : ∀ (w : World) (H : Hp) (a : Addr) (ns : List Int), ns.length ≤ n → SqL (K w.params) H a (ns.map V.int) → sp w [.ref a] H (fun v _ => v = .bl true) fun _ _ _ => False) :
    PySem.W.WalkO q loose XP YP l.row.toRowW d [] (fun f vs => PySem.call f vs) := by
  refine Att.attach_call most nodef ?_
  intro w s₀ s₁ mg mb fa o pm cd doc a vs ns G Y _ _ _ at_law scr intsOf few nogen
  obtain ⟨fd, bind, all⟩ := F w mg fa _ (knows w _ Y) G.T.g at_law
  exact law_goes (knows w _ Y) G.T.g G.T.b G.T.builtins G.T.nolimit nogen scr intsOf (Nat.le_trans few small) room all bind fun H reads => prom w H a ns few reads
end Rw
end T_G1

section T_LW
set_option Elab.async false
set_option linter.all false
set_option maxRecDepth 100000
set_option maxHeartbeats 16000000
namespace Rw
open PySem L2 PyProof.Rows
section
variable {P : Program} {w : World} {K : PySem.W.Frag} {mg : Str → Option Value} {base : Heap}
def spLaw (K : PySem.W.Frag) : Sp := fun vs H Q _ => ∃ (a : Addr) (ns : List Int), vs = [.ref a] ∧ SqL K H a (ns.map V.int) ∧ ns.length ≤ 63 ∧ ∀ H', Q (.bl true) H'
abbrev nLaw : List Str := ["script", "draw", "turn", "model", "made", "done", "fresh", "word", "papers", "target", "was_kept", "was_broken", "matter", "due", "triple"]
theorem sc_law : FnScope nLaw ["script"] (defScope s_law) := ⟨rfl, rfl, rfl, by decide +kernel, rfl, by decide +kernel, by decide +kernel⟩
theorem ok_law {f C : Addr} {fd : FuncData} (F : Fun K "law" "law" s_law f fd)
    (CB : Cal P w K mg base 1 "_law_begin" ["script"] (spBegin K)) (CMd : Cal P w K mg base 5 "_law_model" ["draw", "many"] spModelS) (CMa : Cal P w K mg base 6 "_law_made" ["model"] (spMade C)) (CS : Cal P w K mg base 4 "_law_some" ["draw", "names"] (spSomeS K)) (CMv : Cal P w K mg base 1 "_law_moved" ["model"] spMovedS) (CR : Cal P w K mg base 2 "_law_rest" ["model", "done"] spRestS)
    (CO : Cal P w K mg base 3 "_law_own_paper" ["model", "web", "word"] spOwnP) (CWb : Cal P w K mg base 1 "_law_web" ["model", "done", "fresh", "target"] spWebV) (CL : Cal P w K mg base 3 "_law_is_shown" ["model", "done", "fresh", "word", "matter"] spLShown) (CG : Cal P w K mg base 3 "_law_greater" ["draw", "model", "papers", "word"] spGreater)
    (CP : Cal P w K mg base 9 "is_shown" ["net", "done", "lot", "wish", "thing"] (spIsShown C)) (CM : Cal P w K mg base 3 "_law_mixed" ["draw", "some"] (spMixed K)) (CMo : Cal P w K mg base 2 "_law_moments" ["model", "fresh", "word"] spMoms) (CJ : Cal P w K mg base 3 "_law_is_moment" ["model", "done", "fresh", "word", "matter"] spLMoment)
    (mRange : mg "range" = none) (mMin : mg "min" = none) (mMax : mg "max" = none) (mLen : mg "len" = none) : FnG P w K mg base CX0 10 f fd ["script"] (spLaw K) := by
  obtain ⟨fB, fdB, BG, kB, bB, gB⟩ := CB.ex
  obtain ⟨fM, fdM, MD, kM, bM, gM⟩ := CMd.ex
  obtain ⟨fA, fdA, MA, kA, bA, gA⟩ := CMa.ex
  obtain ⟨fS, fdS, SM, kS, bS, gS⟩ := CS.ex
  obtain ⟨fV, fdV, MV, kV_, bV, gV⟩ := CMv.ex
  obtain ⟨fR, fdR, RS, kR, bR, gR⟩ := CR.ex
  obtain ⟨fO, fdO, OW, kO, bO, gO⟩ := CO.ex
  obtain ⟨fW, fdW, WE, kW, bW, gW⟩ := CWb.ex
  obtain ⟨fL, fdL, LS, kL, bL, gL⟩ := CL.ex
  obtain ⟨fG, fdG, GR, kG, bG, gG⟩ := CG.ex
  obtain ⟨fP, fdP, IS, kP, bP, gP⟩ := CP.ex
  obtain ⟨fX, fdX, MX, kX, bX, gX⟩ := CM.ex
  obtain ⟨fN, fdN, MO, kN, bN, gN⟩ := CMo.ex
  obtain ⟨fJ, fdJ, LM, kJ, bJ, gJ⟩ := CJ.ex
  refine Rw.Fun.okG F sc_law (fun vs H Q E h => ?_) (fun cdv A outer s H vs Q E guard hr h => ?_)
  · obtain ⟨a, ns, rfl, _⟩ := h
    rfl
  · obtain ⟨a, ns, rfl, hS, hl, k⟩ := h
    have nd := sc_law.nd
    have hu := hu_of hr
    have r1 : Room 1 _ := hr.mono (by decide)
    have r2 : Room 2 _ := hr.mono (by decide)
    have r3 : Room 3 _ := hr.mono (by decide)
    have r4 : Room 4 _ := hr.mono (by decide)
    have r5 : Room 5 _ := hr.mono (by decide)
    have r6 : Room 6 _ := hr.mono (by decide)
    refine ⟨_, PSs.nox (pss_cons (ps_set (i := 1) nd rfl (.inl rfl) (pe_call BG r1 rfl gB kB bB .nil pass0 (pa_cons (pv 0) pa_nil)))
      (pss_cons (ps_for PassesOwn.never rfl (pi_range1 (by rfl) mRange (pa_cons (pe_callB (call_max2 rfl) (by rfl) mMax (by decide +kernel) (pa_cons pe_int (pa_cons (pe_callB (call_min2 rfl) (by rfl) mMin (by decide +kernel) (pa_cons pe_int (pa_cons (pe_callB call_len (by rfl) mLen PySem.boot_len (pa_cons (pv 0) pa_nil)) pa_nil))) pa_nil))) pa_nil)) (pg_name (i := 2) nd rfl (.inl rfl))
        (pss_cons (ps_set (i := 3) nd rfl (.inl rfl) (pe_call MD r5 rfl gM kM bM .nil pass0 (pa_cons (pv 1) (pa_cons pe_int pa_nil))))
        (pss_cons (ps_par (i := 4) (j := 5) (by rfl) nd rfl rfl (by decide) rfl rfl (pa_cons (pe_call MA r6 rfl gA kA bA .nil pass0 (pa_cons (pv 3) pa_nil)) (pa_cons (pe_call SM r4 rfl gS kS bS .nil pass0 (pa_cons (pv 1) (pa_cons (pe_call MV r1 rfl gV kV_ bV .nil pass0 (pa_cons (pv 3) pa_nil)) pa_nil))) pa_nil)) (by rfl))
        (pss_cons (ps_set (i := 6) nd rfl (.inl rfl) (pe_call SM r4 rfl gS kS bS .nil pass0 (pa_cons (pv 1) (pa_cons (pe_call RS r2 rfl gR kR bR .nil pass0 (pa_cons (pv 3) (pa_cons (pv 5) pa_nil))) pa_nil))))
        (pss_one (ps_for PassesOwn.never rfl (pi_list (pe_lst (pa_cons pe_str (pa_cons pe_str (pa_cons pe_str (pa_cons pe_str pa_nil)))))) (pg_name (i := 7) nd rfl (.inl rfl))
          (pss_cons (ps_set (i := 8) nd rfl (.inl rfl) pe_dnewK)
          (C8.pss_cut (ps_lock (ps_for PassesOwn.never rfl (pi_keys (pe_dget hu (pv 3) pe_str (fun _ _ => rfl))) (pg_name (i := 9) nd rfl (.inl rfl))
            (pss_one (ps_dput hu (pv 8) (pv 9) (pe_call OW r3 rfl gO kO bO .nil pass0 (pa_cons (pv 3) (pa_cons (pe_call WE r1 rfl gW kW bW .nil pass0 (pa_cons (pv 3) (pa_cons (pv 5) (pa_cons (pv 6) (pa_cons (pv 9) pa_nil))))) (pa_cons (pv 7) pa_nil)))) rfl))))
          (pss_cons (ps_par (i := 10) (j := 11) (by rfl) nd rfl rfl (by decide) rfl rfl (pa_cons (pe_call LS r3 rfl gL kL bL .nil pass0 (pa_cons (pv 3) (pa_cons (pv 5) (pa_cons (pv 6) (pa_cons (pv 7) (pa_cons (pe_tup (pa_cons pe_str (pa_cons (pv 8) pa_nil))) pa_nil)))))) (pa_cons pe_bl pa_nil)) (by rfl))
          (C8.pss_cut (ps_for PassesOwn.never rfl (pi_list (pe_lst (pa_cons (pv 8) (pa_cons (pe_call GR r3 rfl gG kG bG .nil pass0 (pa_cons (pv 1) (pa_cons (pv 3) (pa_cons (pv 8) (pa_cons (pv 7) pa_nil))))) (pa_cons (pe_call GR r3 rfl gG kG bG .nil pass0 (pa_cons (pv 1) (pa_cons (pv 3) (pa_cons (pv 8) (pa_cons (pv 7) pa_nil))))) pa_nil))))) (pg_name (i := 12) nd rfl (.inl rfl))
            (pss_cons (ps_set (i := 13) nd rfl (.inl rfl) (pe_call LS r3 rfl gL kL bL .nil pass0 (pa_cons (pv 3) (pa_cons (pv 5) (pa_cons (pv 6) (pa_cons (pv 7) (pa_cons (pe_tup (pa_cons pe_str (pa_cons (pv 12) pa_nil))) pa_nil)))))))
            (pss_one (ps_if (pt_cmpR op_ne (pe_call IS hr rfl gP kP bP .nil pass0 (pa_cons (pv 4) (pa_cons (pv 5) (pa_cons (pv 6) (pa_cons (pv 7) (pa_cons (pe_tup (pa_cons pe_str (pa_cons (pv 12) pa_nil))) pa_nil)))))) (pv 13) (nomark _)) (pss_one (ps_ret pe_bl)) pss_nil))))
          (pss_one (ps_for PassesOwn.never rfl (pi_list (pe_slice sl_list (pe_call MX r3 rfl gX kX bX .nil pass0 (pa_cons (pv 1) (pa_cons (pe_call MO r2 rfl gN kN bN .nil pass0 (pa_cons (pv 3) (pa_cons (pv 6) (pa_cons (pv 7) pa_nil)))) pa_nil))) po_none (po_some pe_int))) (pg_name (i := 14) nd rfl (.inl rfl))
            (pss_cons (ps_set (i := 13) nd rfl (.inl rfl) (pe_call LM r3 rfl gJ kJ bJ .nil pass0 (pa_cons (pv 3) (pa_cons (pv 5) (pa_cons (pv 6) (pa_cons (pv 7) (pa_cons (pv 14) pa_nil)))))))
            (C8.pss_cut (ps_set (i := 11) nd rfl (.inl rfl) (pe_or (pv 11) (pe_one (pv 13))))
            (pss_one (ps_if (PW.pt (pw_or (pt_cmpR op_ne (pe_call IS hr rfl gP kP bP .nil pass0 (pa_cons (pv 4) (pa_cons (pv 5) (pa_cons (pv 6) (pa_cons (pv 7) (pa_cons (pe_tup (pa_cons pe_str (pa_cons (pv 14) pa_nil))) pa_nil)))))) (pv 13) (nomark _)) (pw_or1 (PW.pt (pw_and (pt_val (pv 10)) (pw_and1 (pt_val (pv 13)))))))) (pss_one (ps_ret pe_bl)) pss_nil))))))))))))))))
      (pss_one (ps_ret pe_bl)))), ?_⟩
    -- draw = _law_begin(script)
    refine ⟨.ref a, rfl, a, ns, rfl, hS, hl, fun d g c H1 D1 x1 => ?_⟩
    refine ⟨.ref a, rfl, .ref a, _, rfl, .inl ⟨_, Evl.ex_l (x1.trans (ex_off d g H1)) hS, rfl⟩, 10, _, rfl, 4, _, rfl, ?_⟩
    obtain ⟨many, hmany⟩ : ∃ many : Int, many = (if (if ((ns.map V.int).length : Int) < 10 then ((ns.map V.int).length : Int) else 10) > 4 then (if ((ns.map V.int).length : Int) < 10 then ((ns.map V.int).length : Int) else 10) else 4) := ⟨_, rfl⟩
    have bound : (0 : Int) ≤ many ∧ many ≤ 100 := by
      rw [hmany, List.length_map]
      split <;> split <;> omega
    refine ⟨many, by rw [hmany], by omega, by omega, for_range (lo := 0) (n := many.toNat)
      (fun i σ H' => ∃ x2 x3 x4 x5 x6 x7 x8 x9 x10 x11 x12 x13 x14 : Option V, σ = [some (.ref a), some (.ref d), x2, x3, x4, x5, x6, x7, x8, x9, x10, x11, x12, x13, x14] ∧ DrawAt H' d g c)
      ⟨none, none, none, none, none, none, none, none, none, none, none, none, none, rfl, D1⟩ ?_ ?_⟩
    · rintro i σ H2 hi ⟨x2, x3, x4, x5, x6, x7, x8, x9, x10, x11, x12, x13, x14, rfl, D2⟩
      -- model
      refine ⟨.ref d, rfl, d, g, c, 6, rfl, D2, by decide, by decide, fun m nb tb sb pb ends dots ss ps rows o n H3 D3 y3 MS _ => ?_⟩
      have ok := MS.ok
      have e2 := ok.e2
      have d6 := ok.d6
      have MS3 := MS.to (ex_off d g H3)
      have tok : TabsOk ends dots o n := ⟨fun e he => by obtain ⟨_, _, _, _, pa⟩ := MS.ra e he; exact pa.o1, fun e he => by obtain ⟨_, _, _, _, pa⟩ := MS.ra e he; exact pa.o2⟩
      have mvl : (moving ends dots o n).length ≤ 6 := Nat.le_trans (List.length_filter_le _ _) d6
      have mnd : (moving ends dots o n).Nodup := ok.dn.sublist List.filter_sublist
      have mso : sortedS (moving ends dots o n) = true := sorted_sub List.filter_sublist ok.ds
      have mnm : ∀ z ∈ moving ends dots o n, Nm z := fun z hz => ok.dm z (List.mem_filter.mp hz).1
      -- made, done
      refine ⟨.ref m, rfl, m, nb, tb, sb, pb, ends, dots, ss, ps, rows, o, n, rfl, MS3, fun nx H4 y4 hnx N4 => ?_⟩
      have D4 := D3.ext y4
      have NO4 : NetAt C (off d g H4) nx ends dots ss ps o n := N4.to (rest_off D3)
      have MO4 : ModelS (off d g H4) m nb tb sb pb ends dots ss ps rows o n := MS.to (off_ex y4)
      refine ⟨.ref d, rfl, .ref m, rfl, m, nb, tb, sb, pb, ends, dots, ss, ps, rows, o, n, rfl, MS3.to y4, fun ml H5 y5 hml0 hml => ?_⟩
      have D5 := D4.ext y5
      have nml := D4.ned hml0
      refine ⟨d, g, c, ml, moving ends dots o n, rfl, D5, Evl.sq_of (off_of hml nml.1 nml.2.1), by omega, fun dn zs H6 zsub D6 y6 hdn => ⟨_, _, rfl, ?_⟩⟩
      have v6 := (off_ex (d := d) (g := g) y5).trans y6
      -- fresh
      have MS6 : ModelS H6 m nb tb sb pb ends dots ss ps rows o n := (MO4.to v6).to (ex_off d g H6)
      refine ⟨.ref d, rfl, .ref m, rfl, .ref dn, rfl, m, dn, nb, tb, sb, pb, zs, ends, dots, ss, ps, rows, o, n, rfl, MS6, (off_some hdn).2.2, fun rl H7 y7 hrl0 hrl => ?_⟩
      have D7 := D6.ext y7
      have nrl := D6.ned hrl0
      have rsub : (restOf zs (moving ends dots o n)).Sublist (moving ends dots o n) := List.filter_sublist
      have rl6 := rsub.length_le
      refine ⟨d, g, c, rl, restOf zs (moving ends dots o n), rfl, D7, Evl.sq_of (off_of hrl nrl.1 nrl.2.1), by omega, fun fr ys H8 ysub D8 y8 hfr => ?_⟩
      have v8 := v6.trans ((off_ex (d := d) (g := g) y7).trans y8)
      have hdn8 : off d g H8 dn = some (.tup (zs.map V.str)) := y8 _ _ (off_ex (d := d) (g := g) y7 _ _ hdn)
      have ysm := ysub.trans rsub
      have dis : ∀ y ∈ ys, y ∉ zs := fun y hy => by
        have := (List.mem_filter.mp (ysub.subset hy)).2
        exact of_decide_eq_true this
      have zl := zsub.length_le
      have yl := ysm.length_le
      have ynm : ∀ y ∈ ys, Nm y := fun y hy => mnm y (ysm.subset hy)
      -- for word in [..]
      refine ⟨by show 4 ≤ sizeLine; decide, fun wl hwl => ?_⟩
      obtain ⟨D9, y9, w9, wln, _⟩ := off_new (o := .lst [.str "home", .str "lost", .str "posts", .str "rings"]) D8 (Evl.Ex.refl _) hwl
      generalize upd H8 wl (.lst [.str "home", .str "lost", .str "posts", .str "rings"]) = H9 at D9 y9 w9
      obtain ⟨Hb, hHb⟩ : ∃ Hb, Hb = off d g H9 := ⟨_, rfl⟩
      have Hbd : ∀ {b : Addr} {u : HO}, Hb b = some u → b ≠ d ∧ b ≠ g := fun h => by rw [hHb] at h; exact ⟨(off_some h).1, (off_some h).2.1⟩
      have MSb : ModelS Hb m nb tb sb pb ends dots ss ps rows o n := by rw [hHb]; exact MO4.to (v8.trans y9)
      have Nb : NetAt C Hb nx ends dots ss ps o n := by rw [hHb]; exact NO4.to (v8.trans y9)
      have dnb : Hb dn = some (.tup (zs.map V.str)) := by rw [hHb]; exact y9 _ _ hdn8
      have frb : Hb fr = some (.tup (ys.map V.str)) := by rw [hHb]; exact y9 _ _ hfr
      have wlb : Hb wl = some (.lst [.str "home", .str "lost", .str "posts", .str "rings"]) := by rw [hHb]; exact w9
      have La : LotAt Hb dn zs (moving ends dots o n) := ⟨dnb, fun z hz => zsub.subset hz, mnd.sublist zsub, sorted_sub zsub mso, fun z hz => mnm z (zsub.subset hz), by omega⟩
      have Lb : LotAt Hb fr ys (moving ends dots o n) := ⟨frb, fun z hz => ysm.subset hz, mnd.sublist ysm, sorted_sub ysm mso, ynm, by omega⟩
      have w0 : Evl.Ex Hb (off d g H9) := by rw [hHb]; exact Evl.Ex.refl _
      refine ⟨wl, rfl, ⟨_, Evl.sq_of (off_some w9).2.2⟩, for_list (K := K) (a := wl) (xs := [.str "home", .str "lost", .str "posts", .str "rings"])
        (fun j σ H' => ∃ x7 x8 x9 x10 x11 x12 x13 x14 : Option V, σ = [some (.ref a), some (.ref d), some (.int (0 + (i : Int))), some (.ref m), some (.ref nx), some (.ref dn), some (.ref fr), x7, x8, x9, x10, x11, x12, x13, x14] ∧ DrawAt H' d g c ∧ Evl.Ex Hb (off d g H'))
        ⟨_, _, _, _, _, _, _, _, rfl, D9, w0⟩ (fun j σ H' _ ⟨_, _, _, _, _, _, _, _, _, _, x⟩ => Evl.sq_of (off_some (x _ _ wlb)).2.2) ?_ ?_⟩
      · rintro j v σ HA hj ⟨z7, z8, z9, z10, z11, z12, z13, z14, rfl, DA, xA⟩
        obtain ⟨wd, rfl, w4⟩ : ∃ wd : Str, v = .str wd ∧ wish4 wd := by
          have hm := List.mem_of_getElem? hj
          simp only [List.mem_cons, List.not_mem_nil, or_false] at hm
          rcases hm with rfl | rfl | rfl | rfl
          · exact ⟨_, rfl, .inl rfl⟩
          · exact ⟨_, rfl, .inr (.inl rfl)⟩
          · exact ⟨_, rfl, .inr (.inr (.inl rfl))⟩
          · exact ⟨_, rfl, .inr (.inr (.inr rfl))⟩
        -- papers
        refine fun Pd hPd => ?_
        obtain ⟨DB, yB, pB', PdA, _⟩ := off_new (o := .dK []) DA (Evl.Ex.refl _) hPd
        have pB : off d g (upd HA Pd (.dK [])) Pd = some (.dK (tkv [])) := pB'
        clear pB'
        have PdH : Hb Pd = none := ex_none xA PdA
        have xB := xA.trans yB
        have Pdd := (off_some pB).1
        have Pdg := (off_some pB).2.1
        have Pdc : Pd ≠ c := (DA.ned hPd).2.2
        generalize upd HA Pd (.dK []) = HBf at DB yB pB xB
        refine ⟨fun σ' H' => ∃ (x9 : Option V) (dm : Str → List Str) (gm : Str → Str → Nat), σ' = [some (.ref a), some (.ref d), some (.int (0 + (i : Int))), some (.ref m), some (.ref nx), some (.ref dn), some (.ref fr), some (.str wd), some (.ref Pd), x9, z10, z11, z12, z13, z14] ∧ DrawAt H' d g c ∧ Evl.Ex Hb (off d g H') ∧ PapsAt Hb (off d g H') Pd ends dots dm gm, ?_, ?_⟩
        · have MSB : ModelS HBf m nb tb sb pb ends dots ss ps rows o n := (MSb.to xB).to (ex_off d g HBf)
          refine ⟨tb, .dK (tkv rows), MSB.ht, trivial, fun od => ?_⟩
          have tbd := Hbd MSb.ht
          have tbc : tb ≠ c := draw_c DB (xB _ _ MSb.ht) (by intro xs z; cases z)
          have DL : DrawAt (upd HBf tb (.frz od (.dK (tkv rows)))) d g c := DB.mut tbd.1 tbd.2 tbc
          have nPt : Pd ≠ tb := fun z => by rw [z, MSb.ht] at PdH; cases PdH
          have pL : (upd HBf tb (.frz od (.dK (tkv rows)))) Pd = some (.dK (tkv [])) := by rw [upd_ne nPt]; exact (off_some pB).2.2
          have xx : Evl.Ex (upd Hb tb (.frz od (.dK (tkv rows)))) (woA Pd (upd HBf tb (.frz od (.dK (tkv rows))))) := fun b u h => by
            by_cases q : b = tb
            · subst q
              rw [upd_same] at h
              rw [woA_ne nPt.symm, upd_same]
              exact h
            · rw [upd_ne q] at h
              have nb' : b ≠ Pd := fun z => by rw [z, PdH] at h; cases h
              rw [woA_ne nb', upd_ne q]
              exact (off_some (xB _ _ h)).2.2
          have MR := (MSb.lock od).to xx
          have dn0 := xx _ _ (show (upd Hb tb (.frz od (.dK (tkv rows)))) dn = some (.tup (zs.map V.str)) by rw [upd_ne (ne_of dnb MSb.ht (by intro z; cases z))]; exact dnb)
          have fr0 := xx _ _ (show (upd Hb tb (.frz od (.dK (tkv rows)))) fr = some (.tup (ys.map V.str)) by rw [upd_ne (ne_of frb MSb.ht (by intro z; cases z))]; exact frb)
          have lock0 := xx _ _ (show (upd Hb tb (.frz od (.dK (tkv rows)))) tb = some (.frz od (.dK (tkv rows))) from upd_same)
          have D0 : DrawAt (woA Pd (upd HBf tb (.frz od (.dK (tkv rows))))) d g c := by
            obtain ⟨⟨r, t, e1⟩, ⟨gs, e2⟩, ⟨cs, e3⟩, e4⟩ := DL
            exact ⟨⟨r, t, by rw [woA_ne Pdd.symm]; exact e1⟩, ⟨gs, by rw [woA_ne Pdg.symm]; exact e2⟩, ⟨cs, by rw [woA_ne Pdc.symm]; exact e3⟩, e4⟩
          have back : ∀ {Hx : Hp}, Evl.Ex (woA Pd (upd HBf tb (.frz od (.dK (tkv rows))))) Hx → Evl.Ex Hb (off d g (upd Hx tb (.dK (tkv rows)))) := fun {Hx} x b u h => by
            have hb := Hbd h
            by_cases q : b = tb
            · subst q
              rw [MSb.ht] at h
              exact off_of (by rw [upd_same]; exact h) hb.1 hb.2
            · exact off_of (by rw [upd_ne q]; exact x _ _ (xx _ _ (by rw [upd_ne q]; exact h))) hb.1 hb.2
          have none0 : ∀ {p : Addr}, (woA Pd (upd HBf tb (.frz od (.dK (tkv rows))))) p = none → Hb p = none := fun {p} h => by
            cases q : Hb p with
            | none => rfl
            | some u =>
              by_cases e : p = tb
              · subst e
                rw [lock0] at h
                cases h
              · rw [xx _ _ (by rw [upd_ne e]; exact q)] at h
                cases h
          have xw : Evl.Ex (woA Pd (upd HBf tb (.frz od (.dK (tkv rows))))) (upd HBf tb (.frz od (.dK (tkv rows)))) := woA_ex _ _
          have nP0 : (woA Pd (upd HBf tb (.frz od (.dK (tkv rows))))) Pd = none := woA_none
          generalize upd HBf tb (.frz od (.dK (tkv rows))) = HL at DL pL xx MR dn0 fr0 lock0 D0 back none0 xw nP0
          generalize woA Pd HL = HB0 at xx MR dn0 fr0 lock0 D0 back none0 xw nP0
          refine ⟨.ref m, rfl, m, _, rfl, dgK (xw _ _ MR.hm) (mkS_tables _ _ _ _), tb, od, rfl, .inl ⟨_, xw _ _ lock0, for_it walk_keys
            (fun l σ H' => ∃ (x9 : Option V) (rs : List (Str × V)), σ = [some (.ref a), some (.ref d), some (.int (0 + (i : Int))), some (.ref m), some (.ref nx), some (.ref dn), some (.ref fr), some (.str wd), some (.ref Pd), x9, z10, z11, z12, z13, z14] ∧ Evl.Ex HB0 H' ∧ H' Pd = some (.dK (tkv rs)) ∧ rs.map (·.1) = (rows.map (·.1)).take l ∧ ∀ q ∈ rs, PapV HB0 H' dots q.2)
            ⟨_, [], rfl, xw, pL, rfl, fun q hq => nomatch hq⟩ (fun l σ H' _ ⟨_, _, _, x, _⟩ => x _ _ lock0) ?_ ?_⟩⟩
          · rintro l x σ HC HC' hl' ⟨x9, rs, rfl, xC, pC, ek, hv⟩ ⟨rfl, kk, v, hkv, rfl⟩
            rw [tkv_len] at hl'
            obtain ⟨e, he, rfl⟩ := wkey_at (rs := rows) rfl hkv
            have em : e ∈ ends := MSb.rk.mem_iff.mp (List.mem_of_getElem? he)
            have ken : (rows.map (·.1)).Nodup := MSb.rk.nodup_iff.mpr ok.en
            have rl2 : rows.length ≤ 2 := by
              have := MSb.rk.length_eq
              rw [List.length_map] at this
              omega
            refine ⟨.ref m, rfl, .ref m, rfl, .ref dn, rfl, .ref fr, rfl, .str e, rfl, m, dn, fr, nb, tb, sb, pb, e, zs, ys, ends, dots, ss, ps, rows, o, n, rfl, MR.to xC, xC _ _ dn0, xC _ _ fr0, dis, em, fun Wd HD xD hWd MX => ?_⟩
            have xCD := xC.trans xD
            have W := webs_of (zs := zs) (ys := ys) ok em (tok.to e em) (tok.tn e em)
            refine ⟨.str wd, rfl, m, Wd, nb, tb, sb, pb, wd, spotsOf (o e) (n e) zs ys, ends, dots, ss, ps, rows, o, n, rfl, MR.to xCD, MX.u, W, fun v HE xE Ow => ?_⟩
            obtain ⟨pa, dom, g', rfl, pa0, hpa, h1, h2, _⟩ := Ow
            have xCE := xCD.trans xE
            have pE := (xD.trans xE) _ _ pC
            have nPa : pa ≠ Pd := fun z => by rw [z, xD _ _ pC] at pa0; cases pa0
            have rsl : rs.length ≤ 2 := by
              have := congrArg List.length ek
              rw [List.length_map, List.length_take, List.length_map] at this
              omega
            have en' : e ∉ rs.map (·.1) := fun hm => by
              rw [ek] at hm
              have q1 : ((rows.map (·.1)).take (l + 1)).Nodup := ken.sublist (List.take_sublist _ _)
              rw [List.take_add_one, he] at q1
              exact (List.nodup_append.mp q1).2.2 e hm e (List.mem_singleton.mpr rfl) rfl
            refine ⟨.ref Pd, rfl, .str e, rfl, Pd, _, rfl, DPut.k (k := Sum.inr e) pE (by rw [tkv_len]; exact small1000 (by omega)), ?_⟩
            rw [tkv_new en']
            refine ⟨_, rs ++ [(e, .ref pa)], rfl, xCE.mut nP0, upd_same, by rw [List.map_append, ek, List.take_add_one, he]; rfl, fun q hq => ?_⟩
            rcases List.mem_append.mp hq with hq | hq
            · obtain ⟨pa', dom', g3, e1, e2, e3, e4⟩ := (hv q hq).to (xD.trans xE)
              exact ⟨pa', dom', g3, e1, e2, by rw [upd_ne (ref_ne pE hq e1 e3)]; exact e3, e4⟩
            · rw [List.mem_singleton.mp hq]
              exact ⟨pa, dom, g', rfl, ex_none xCD pa0, by rw [upd_ne nPa]; exact hpa, h1, h2⟩
          · rintro σ HC ⟨x9, rs, rfl, xC, pC, ek, hv⟩
            rw [tkv_len, ← List.length_map (f := (·.1)), List.take_length] at ek
            refine ⟨xC _ _ lock0, ?_⟩
            have DC : DrawAt HC d g c := D0.ext xC
            have DC' : DrawAt (upd HC tb (.dK (tkv rows))) d g c := DC.mut tbd.1 tbd.2 tbc
            have pf : off d g (upd HC tb (.dK (tkv rows))) Pd = some (.dK (tkv rs)) := off_of (by rw [upd_ne nPt]; exact pC) Pdd Pdg
            have hv' : ∀ q ∈ rs, PapV Hb (off d g (upd HC tb (.dK (tkv rows)))) dots q.2 := fun q hq => by
              obtain ⟨pa, dom, g', e1, e2, e3, e4⟩ := hv q hq
              have n1 : pa ≠ tb := fun z => by rw [z, lock0] at e2; cases e2
              obtain ⟨⟨r, t, f1⟩, ⟨gs, f2⟩, _⟩ := D0
              have n2 : pa ≠ d := fun z => by rw [z, f1] at e2; cases e2
              have n3 : pa ≠ g := fun z => by rw [z, f2] at e2; cases e2
              exact ⟨pa, dom, g', e1, none0 e2, off_of (by rw [upd_ne n1]; exact e3) n2 n3, e4⟩
            obtain ⟨dm, gm, PA⟩ := paps_of (ends := ends) (by rw [ek]; exact MSb.rk.nodup_iff.mpr ok.en) pf (by rw [ek]; exact MSb.rk) hv'
            exact ⟨x9, dm, gm, rfl, DC', back xC, PA⟩
        rintro σ HC ⟨x9, dm, gm, rfl, DC, xC, PA⟩
        -- was_kept
        refine ⟨.ref m, rfl, .ref dn, rfl, .ref fr, rfl, .str wd, rfl, .ref Pd, rfl, by show 2 ≤ sizeLine; decide, fun t ht => ?_⟩
        obtain ⟨DD, yD, tD, _, _⟩ := off_new (o := .tup [.str "kept", .ref Pd]) DC (Evl.Ex.refl _) ht
        generalize upd HC t (.tup [.str "kept", .ref Pd]) = HD at DD yD tD
        have xD := xC.trans yD
        have PD := PA.to yD
        refine ⟨m, dn, fr, t, Pd, nb, tb, sb, pb, wd, dm, gm, zs, ys, ends, dots, ss, ps, rows, o, n, Hb, rfl, xD.trans (ex_off d g HD), MSb, tok, (off_some (xD _ _ dnb)).2.2, (off_some (xD _ _ frb)).2.2, dis, (off_some tD).2.2, PdH, PD.to (ex_off d g HD), w4, fun b0 HE xE hb0 => ⟨_, _, rfl, ?_⟩⟩
        have DE := DD.ext xE
        have xE' := xD.trans (off_ex (d := d) (g := g) xE)
        have PE := PD.to (off_ex (d := d) (g := g) xE)
        -- for matter in [..]
        refine ⟨fun σ' H' => ∃ x12 x13 : Option V, σ' = [some (.ref a), some (.ref d), some (.int (0 + (i : Int))), some (.ref m), some (.ref nx), some (.ref dn), some (.ref fr), some (.str wd), some (.ref Pd), x9, some (.bl b0), some (.bl false), x12, x13, z14] ∧ DrawAt H' d g c ∧ Evl.Ex Hb (off d g H'), ?_, ?_⟩
        · refine ⟨.ref Pd, rfl, .ref d, rfl, .ref m, rfl, .ref Pd, rfl, .str wd, rfl, d, g, c, m, Pd, nb, tb, sb, pb, wd, dm, gm, ends, dots, ss, ps, rows, o, n, Hb, rfl, DE, xE', PdH, MSb.r, PE, fun P1 dm1 gm1 HF DF xF P10 PA1 => ?_⟩
          have xF' := xE'.trans xF
          have PF := PE.to xF
          refine ⟨.ref d, rfl, .ref m, rfl, .ref Pd, rfl, .str wd, rfl, d, g, c, m, Pd, nb, tb, sb, pb, wd, dm, gm, ends, dots, ss, ps, rows, o, n, Hb, rfl, DF, xF', PdH, MSb.r, PF, fun P2 dm2 gm2 HG DG xG P20 PA2 => ⟨by show 3 ≤ sizeLine; decide, fun sl hsl => ?_⟩⟩
          have xG' := xF'.trans xG
          obtain ⟨DH, yH, sH, _, _⟩ := off_new (o := .lst [.ref Pd, .ref P1, .ref P2]) DG (Evl.Ex.refl _) hsl
          generalize upd HG sl (.lst [.ref Pd, .ref P1, .ref P2]) = HH at DH yH sH
          have xH := xG'.trans yH
          have items : ∀ v ∈ [V.ref Pd, .ref P1, .ref P2], ∃ (Dv : Addr) (dv : Str → List Str) (gv : Str → Str → Nat), v = .ref Dv ∧ Hb Dv = none ∧ PapsAt Hb (off d g HH) Dv ends dots dv gv := fun v hv => by
            simp only [List.mem_cons, List.not_mem_nil, or_false] at hv
            rcases hv with rfl | rfl | rfl
            · exact ⟨Pd, dm, gm, rfl, PdH, (PF.to xG).to yH⟩
            · exact ⟨P1, dm1, gm1, rfl, P10, (PA1.to xG).to yH⟩
            · exact ⟨P2, dm2, gm2, rfl, P20, PA2.to yH⟩
          refine ⟨sl, rfl, ⟨_, Evl.sq_of (off_some sH).2.2⟩, for_list (K := K) (a := sl) (xs := [.ref Pd, .ref P1, .ref P2])
            (fun l σ H' => ∃ x12 x13 : Option V, σ = [some (.ref a), some (.ref d), some (.int (0 + (i : Int))), some (.ref m), some (.ref nx), some (.ref dn), some (.ref fr), some (.str wd), some (.ref Pd), x9, some (.bl b0), some (.bl false), x12, x13, z14] ∧ DrawAt H' d g c ∧ Evl.Ex (off d g HH) (off d g H'))
            ⟨z12, z13, rfl, DH, Evl.Ex.refl _⟩ (fun l σ H' _ ⟨_, _, _, _, x⟩ => Evl.sq_of (off_some (x _ _ sH)).2.2) ?_ ?_⟩
          · rintro l v σ HI hl' ⟨x12, x13, rfl, DI, xI⟩
            obtain ⟨Dv, dv, gv, rfl, Dv0, PV⟩ := items v (List.mem_of_getElem? hl')
            have xI' := xH.trans xI
            have PI := PV.to xI
            -- due
            refine ⟨.ref m, rfl, .ref dn, rfl, .ref fr, rfl, .str wd, rfl, .ref Dv, rfl, by show 2 ≤ sizeLine; decide, fun t1 ht1 => ?_⟩
            obtain ⟨DJ, yJ, tJ, _, _⟩ := off_new (o := .tup [.str "kept", .ref Dv]) DI (Evl.Ex.refl _) ht1
            generalize upd HI t1 (.tup [.str "kept", .ref Dv]) = HJ at DJ yJ tJ
            have xJ := xI'.trans yJ
            have PJ := PI.to yJ
            refine ⟨m, dn, fr, t1, Dv, nb, tb, sb, pb, wd, dv, gv, zs, ys, ends, dots, ss, ps, rows, o, n, Hb, rfl, xJ.trans (ex_off d g HJ), MSb, tok, (off_some (xJ _ _ dnb)).2.2, (off_some (xJ _ _ frb)).2.2, dis, (off_some tJ).2.2, Dv0, PJ.to (ex_off d g HJ), w4, fun b1 HK xK hb1 => ?_⟩
            have DK := DJ.ext xK
            have xK' := xJ.trans (off_ex (d := d) (g := g) xK)
            have PK := PJ.to (off_ex (d := d) (g := g) xK)
            -- is_shown
            refine ⟨.ref nx, rfl, .ref dn, rfl, .ref fr, rfl, .str wd, rfl, .ref Dv, rfl, by show 2 ≤ sizeLine; decide, fun t2 ht2 => ?_⟩
            obtain ⟨DL, yL, tL, _, _⟩ := off_new (o := .tup [.str "kept", .ref Dv]) DK (Evl.Ex.refl _) ht2
            generalize upd HK t2 (.tup [.str "kept", .ref Dv]) = HL at DL yL tL
            have xL := xK'.trans yL
            refine ⟨nx, dn, fr, t2, wd, zs, ys, ends, dots, ss, ps, o, n, Hb, rfl, xL.trans (ex_off d g HL), Nb, ok, tok, La, Lb, dis, w4, .inl ⟨Dv, dv, gv, (off_some tL).2.2, (PK.to yL).to (ex_off d g HL), fun b2 HM xM hb2 => ⟨.bl b1, rfl, rfl, _, rfl, ?_⟩⟩⟩
            have eb : b2 = b1 := by
              have h1 := hb2.trans hb1.symm
              cases b1 <;> cases b2 <;> simp at h1 ⊢
            subst eb
            rw [show (!decide (V.bl b2 = V.bl b2)) = false by rw [decide_eq_true rfl]; rfl]
            exact iteF ⟨_, _, rfl, DL.ext xM, xI.trans (yJ.trans ((off_ex xK).trans (yL.trans (off_ex xM))))⟩
          · rintro σ HI ⟨x12, x13, rfl, DI, xI⟩
            exact ⟨x12, x13, rfl, DI, xH.trans xI⟩
        rintro σ HF ⟨x12, x13, rfl, DF, xF⟩
        -- for triple in ..
        have MSF : ModelS HF m nb tb sb pb ends dots ss ps rows o n := (MSb.to xF).to (ex_off d g HF)
        refine ⟨.ref d, rfl, .ref m, rfl, .ref fr, rfl, .str wd, rfl, m, fr, nb, tb, sb, pb, .str wd, ys, ends, dots, ss, ps, rows, o, n, rfl, MSF, (off_some (xF _ _ frb)).2.2, by omega, fun l L HG xG hln hl' tL oL lL => ?_⟩
        have DG := DF.ext xG
        have nl := DF.ned hln
        have xG' := xF.trans (off_ex (d := d) (g := g) xG)
        have lO : off d g HG l = some (.lst (L.map fun t => V.ref t.p)) := off_of hl' nl.1 nl.2.1
        have tO : MomsT (off d g HG) L := tL.keep fun {p xs} h => off_of h (fun e => by obtain ⟨r, t, q⟩ := DG.ex; rw [e, q] at h; cases h) (fun e => by obtain ⟨gs, q⟩ := DG.gl; rw [e, q] at h; cases h)
        refine ⟨d, g, c, l, _, rfl, DG, .inl (Evl.sq_of lO), by rw [List.length_map]; exact lL, mom_data tO oL ok.em ok.dm ynm, fun p xs HH perm DH xH _ hp => ?_⟩
        have xH' := xG'.trans xH
        have tH := tO.to xH
        refine ⟨40, rfl, p, _, rfl, Evl.sq_of (off_some hp).2.2, fun sl hsl => ?_⟩
        obtain ⟨DI, yI, sI, _, _⟩ := off_new (o := .lst (cutV xs none (some 40))) DH (Evl.Ex.refl _) hsl
        generalize upd HH sl (.lst (cutV xs none (some 40))) = HI at DI yI sI
        have xI := xH'.trans yI
        have tI := tH.to yI
        have items : ∀ v ∈ cutV xs none (some 40), ∃ t ∈ L, v = .ref t.p := fun v hv => by
          obtain ⟨t, ht, e⟩ := List.mem_map.mp (perm.mem_iff.mp (cutV_mem hv))
          exact ⟨t, ht, e.symm⟩
        refine ⟨sl, rfl, ⟨_, Evl.sq_of (off_some sI).2.2⟩, for_list (K := K) (a := sl) (xs := cutV xs none (some 40))
          (fun l σ H' => ∃ (wb : Bool) (x13 x14 : Option V), σ = [some (.ref a), some (.ref d), some (.int (0 + (i : Int))), some (.ref m), some (.ref nx), some (.ref dn), some (.ref fr), some (.str wd), some (.ref Pd), x9, some (.bl b0), some (.bl wb), x12, x13, x14] ∧ DrawAt H' d g c ∧ Evl.Ex (off d g HI) (off d g H'))
          ⟨false, x13, z14, rfl, DI, Evl.Ex.refl _⟩ (fun l σ H' _ ⟨_, _, _, _, _, x⟩ => Evl.sq_of (off_some (x _ _ sI)).2.2) ?_ ?_⟩
        · rintro l' v σ HJ hl'' ⟨wb, x13', x14', rfl, DJ, xJ⟩
          obtain ⟨t, ht, rfl⟩ := items v (List.mem_of_getElem? hl'')
          have tJ := tI.to xJ
          obtain ⟨t1, t2⟩ := tJ t ht
          obtain ⟨tem, tsub, tzd⟩ := oL t ht
          have xJ' := xI.trans xJ
          have MSJ : ModelS HJ m nb tb sb pb ends dots ss ps rows o n := (MSb.to xJ').to (ex_off d g HJ)
          -- due
          refine ⟨.ref m, rfl, .ref dn, rfl, .ref fr, rfl, .str wd, rfl, .ref t.p, rfl, m, dn, fr, t.p, t.c, nb, tb, sb, pb, wd, t.e, t.z, zs, t.on, ys, ends, dots, ss, ps, rows, o, n, rfl, MSJ.r, fun e => MSb.rk.mem_iff, tok, (off_some (xJ' _ _ dnb)).2.2, by omega, (off_some (xJ' _ _ frb)).2.2, by omega, ynm, (off_some t1).2.2, (off_some t2).2.2, tsub, tem, tzd, fun HK xK => ?_⟩
          have DK := DJ.ext xK
          have xK' := xJ'.trans (off_ex (d := d) (g := g) xK)
          obtain ⟨due, hdue⟩ : ∃ due, due = (decide (t.z ∈ startsOf wd dots ss) && brk dots ps o n wd (zs ++ t.on) t.e t.z) := ⟨_, rfl⟩
          rw [← hdue]
          refine ⟨fun σ' H' => ∃ wb' : Bool, σ' = [some (.ref a), some (.ref d), some (.int (0 + (i : Int))), some (.ref m), some (.ref nx), some (.ref dn), some (.ref fr), some (.str wd), some (.ref Pd), x9, some (.bl b0), some (.bl wb'), x12, some (.bl due), some (.ref t.p)] ∧ HK = H', ?_, ?_⟩
          · refine ⟨.bl wb, rfl, wb, rfl, ?_⟩
            cases wb with
            | true => exact iteT ⟨true, rfl, rfl⟩
            | false => exact iteF ⟨.bl due, rfl, due, rfl, rfl⟩
          rintro σ HK' ⟨wb', rfl, rfl⟩
          -- is_shown
          refine ⟨.ref nx, rfl, .ref dn, rfl, .ref fr, rfl, .str wd, rfl, .ref t.p, rfl, by show 2 ≤ sizeLine; decide, fun t3 ht3 => ?_⟩
          obtain ⟨DL, yL, tL', _, _⟩ := off_new (o := .tup [.str "broken", .ref t.p]) DK (Evl.Ex.refl _) ht3
          have tK := (tJ.to (off_ex (d := d) (g := g) xK)).to yL t ht
          generalize upd HK t3 (.tup [.str "broken", .ref t.p]) = HL at DL yL tL' tK
          have xL := xK'.trans yL
          have LC : LotAt HL t.c t.on ys := ⟨(off_some tK.2).2.2, fun z hz => tsub.subset hz, (mnd.sublist ysm).sublist tsub, sorted_sub (tsub.trans ysm) mso, fun z hz => ynm z (tsub.subset hz), by have := tsub.length_le; omega⟩
          refine ⟨nx, dn, fr, t3, wd, zs, ys, ends, dots, ss, ps, o, n, Hb, rfl, xL.trans (ex_off d g HL), Nb, ok, tok, La, Lb, dis, w4, .inr ⟨t.p, t.c, t.e, t.z, t.on, (off_some tL').2.2, (off_some tK.1).2.2, LC, tem, tzd, fun HM xM => ⟨.bl due, rfl, rfl, _, rfl, ?_⟩⟩⟩
          rw [← hdue, show (!decide (V.bl due = V.bl due)) = false by rw [decide_eq_true rfl]; rfl]
          have DM := DL.ext xM
          have xM' := xJ.trans ((off_ex (d := d) (g := g) xK).trans (yL.trans (off_ex xM)))
          refine iteF ⟨.bl b0, rfl, b0, rfl, ?_⟩
          cases hb : b0 with
          | false => exact iteF ⟨wb', _, _, rfl, DM, xM'⟩
          | true =>
            refine iteT ⟨.bl due, rfl, due, rfl, ?_⟩
            cases hd : due with
            | false => exact iteF ⟨wb', _, _, rfl, DM, xM'⟩
            | true =>
              rw [hd] at hdue
              obtain ⟨zm, hbrk⟩ := Bool.and_eq_true_iff.mp hdue.symm
              have hP := (hb0.mp hb) t.e tem
              have := pap_sound hP w4 ok.dn (ok.ed t.e tem) (PA.sub t.e tem) (fun y yd u hu' => by
                have q1 := (look_ok (tok.to t.e tem) yd).1
                have q2 := (look_ok (tok.tn t.e tem) yd).1
                have fin : ∀ {u : V}, PlaceOk dots t.e y u → u = .non ∨ u = .str t.e ∨ ∃ x ∈ dots, u = .str x := fun h => by
                  rcases h with h | h | ⟨x, hx, _, h⟩
                  · exact .inl h
                  · exact .inr (.inl h)
                  · exact .inr (.inr ⟨x, hx, h⟩)
                rcases mem_spots.mp hu' with ⟨_, e⟩ | ⟨_, e⟩
                · rw [e]; exact fin q1
                · rw [e]; exact fin q2) (on := zs ++ t.on) (fun y hy => (List.mem_append.mp hy).imp id fun h => tsub.subset h) (fun y hy => List.mem_append_left _ hy) (of_decide_eq_true zm)
              rw [this] at hbrk
              cases hbrk
        · rintro σ HJ ⟨wb, x13', x14', rfl, DJ, xJ⟩
          exact ⟨_, _, _, _, _, _, _, _, rfl, DJ, xI.trans xJ⟩
      · rintro σ HA ⟨z7, z8, z9, z10, z11, z12, z13, z14, rfl, DA, xA⟩
        exact ⟨_, _, _, _, _, _, _, _, _, _, _, _, _, rfl, DA⟩
    · rintro σ H2 ⟨x2, x3, x4, x5, x6, x7, x8, x9, x10, x11, x12, x13, x14, rfl, D2⟩
      exact k H2
end
end Rw
end T_LW

section T_B1
set_option Elab.async false
set_option linter.all false
set_option maxRecDepth 100000
set_option maxHeartbeats 4000000
namespace Rw
open PySem L2 PyProof.Rows
section
variable {P : Program} {w : World} {K : PySem.W.Frag} {mg : Str → Option Value} {base : Heap}
theorem sc_begin : FnScope ["script", "great", "cell"] ["script"] (defScope s_begin) := ⟨rfl, rfl, rfl, by decide +kernel, rfl, by decide +kernel, by decide +kernel⟩
theorem ok_begin {f : Addr} {fd : FuncData} (F : Fun K "_law_begin" "_law_begin" s_begin f fd) (mAbs : mg "abs" = none) : FnOk P w K mg base CX0 1 f fd ["script"] (spBegin K) := by
  refine F.ok sc_begin (fun vs H Q E h => ?_) (fun cdv A outer s H vs Q E hr h => ?_)
  · obtain ⟨a, ns, rfl, _⟩ := h
    rfl
  · obtain ⟨a, ns, rfl, hS, hl, k⟩ := h
    have nd := sc_begin.nd
    refine ⟨_, pss_cons (ps_setLc (i := 1) (own := [("cell", 2)]) (g := gName 2) (by rfl) nd rfl rfl (sw_true rfl rfl rfl (by decide +kernel)) (pi_list (pv 0)) (blkOk_by (own := [("cell", 2)]) (N := ["script", "great", "cell"]) (sc := defScope s_begin) (by decide +kernel))
          (fun _ _ _ _ _ => pg_name (i := 2) nd rfl (Or.inl rfl)) (fun _ _ _ _ _ => pts_one (pt_cmpR op_ge (pe_callB call_abs (by rfl) mAbs boot_abs (pa_cons (pv 2) pa_nil)) (pe_op op_pow pe_int pe_int) (nomark _)))
          (fun _ _ _ _ _ => pe_op op_sub (pe_callB call_abs (by rfl) mAbs boot_abs (pa_cons (pv 2) pa_nil)) (pe_op op_pow pe_int pe_int)))
      (pss_one (ps_ret (pe_disp (pps_cons pe_str (pv 1) (pps_cons pe_str pe_int (pps_cons pe_str
          (pe_lc (own := [("cell", 2)]) (g := gName 2) (tt := tYes) rfl nd (pi_list (pv 0)) (blkOk_by (own := [("cell", 2)]) (N := ["script", "great", "cell"]) (sc := defScope s_begin) (by decide +kernel))
            (fun _ _ _ _ _ => pg_name (i := 2) nd rfl (Or.inl rfl)) (fun _ _ _ _ _ => pts_nil) (fun _ _ _ _ _ => pe_callB call_abs (by rfl) mAbs boot_abs (pa_cons (pv 2) pa_nil)))
          (pps_cons pe_str pe_int pps_nil)))) (by rfl) (by rfl) (fun z => by cases z) (by decide)))), ?_⟩
    -- great = [..]
    have int_at : ∀ {i : Nat} {x : V}, (ns.map V.int)[i]? = some x → ∃ z : Int, x = V.int z := fun {i x} hi => by
      rw [List.getElem?_map] at hi
      cases e : ns[i]? with
      | none => rw [e] at hi; cases hi
      | some z => rw [e] at hi; exact ⟨z, (Option.some.inj hi).symm⟩
    refine ⟨.ref a, rfl, a, rfl, ⟨_, hS⟩, fun g hg => lc_list (K := K) (a := a) (xs := ns.map V.int)
      (fun i H1 => ∃ gs : List Int, gs.length ≤ i ∧ H1 = upd H g (.lst (gs.map V.int))) ⟨[], Nat.le_refl _, rfl⟩ ?_ ?_ ?_⟩
    · rintro i H1 _ ⟨gs, _, rfl⟩
      exact Evl.ex_l (Evl.Ex.new hg) hS
    · rintro i x H1 hi ⟨gs, hgl, rfl⟩
      obtain ⟨z, rfl⟩ := int_at hi
      have hil : i < (ns.map V.int).length := (List.getElem?_eq_some_iff.mp hi).1
      rw [List.length_map] at hil
      refine ⟨rfl, _, rfl, z, rfl, 10, 18, rfl, rfl, ⟨by decide, by decide, by decide⟩, _, _, rfl, rfl, _, rfl, ite2 (fun _ => ?_) (fun _ => ⟨gs, by omega, rfl⟩)⟩
      refine ⟨_, rfl, z, rfl, 10, 18, rfl, rfl, ⟨by decide, by decide, by decide⟩, _, _, rfl, rfl, _, upd_same, ?_, gs ++ [(if z < 0 then -z else z) - 10 ^ (18 : Int).toNat], ?_, ?_⟩
      · rw [List.length_map]; exact small1000 (by omega)
      · rw [List.length_append]; show gs.length + 1 ≤ i + 1; omega
      · rw [upd_upd, List.map_append]; rfl
    · rintro H1 ⟨gs, _, rfl⟩
      -- the dict
      intro d hd
      have hng : g ≠ d := ne_of_none upd_same hd
      have hSd : SqL K (upd (upd H g (.lst (gs.map V.int))) d (.dK [])) a (ns.map V.int) := Evl.ex_l (Evl.Ex.new hd) (Evl.ex_l (Evl.Ex.new hg) hS)
      refine ⟨.ref g, rfl, .ref a, rfl, a, rfl, ⟨_, hSd⟩, fun c hc => lc_list (K := K) (a := a) (xs := ns.map V.int)
        (fun i H1 => ∃ cs : List Int, cs.length ≤ i ∧ H1 = upd (upd (upd H g (.lst (gs.map V.int))) d (.dK [])) c (.lst (cs.map V.int))) ⟨[], Nat.le_refl _, rfl⟩ ?_ ?_ ?_⟩
      · rintro i H1 _ ⟨cs, _, rfl⟩
        exact Evl.ex_l (Evl.Ex.new hc) hSd
      · rintro i x H1 hi ⟨cs, hcl, rfl⟩
        obtain ⟨z, rfl⟩ := int_at hi
        have hil : i < (ns.map V.int).length := (List.getElem?_eq_some_iff.mp hi).1
        rw [List.length_map] at hil
        refine ⟨rfl, ?_⟩
        refine yes_if ?_
        refine ⟨_, rfl, z, rfl, _, upd_same, ?_, cs ++ [if z < 0 then -z else z], ?_, ?_⟩
        · rw [List.length_map]; exact small1000 (by omega)
        · rw [List.length_append]; show cs.length + 1 ≤ i + 1; omega
        · rw [upd_upd, List.map_append]; rfl
      · rintro H1 ⟨cs, _, rfl⟩
        have ndc : d ≠ c := ne_of_none upd_same hc
        have ngc : g ≠ c := ne_of_none (o := .lst (gs.map V.int)) (by rw [upd_ne hng]; exact upd_same) hc
        have dn : H d = none := by rw [upd_ne hng.symm] at hd; exact hd
        have cn : H c = none := by rw [upd_ne ndc.symm, upd_ne ngc.symm] at hc; exact hc
        refine ⟨by rw [upd_ne ndc]; exact upd_same, dkv g c 0 0, rfl, by show 4 ≤ 15; decide, ?_⟩
        refine k d g c _ ⟨⟨0, 0, ?_⟩, ⟨gs, ?_⟩, ⟨cs, ?_⟩, ngc.symm⟩ fun b o e => off_of ?_ (ne_of_none e dn) (ne_of_none e hg)
        · rw [upd_same]
          exact congrArg (fun z => some (HO.dK z)) (by kernel_rfl)
        · rw [upd_ne hng, upd_ne ngc, upd_ne hng, upd_same]
        · rw [upd_ne ndc.symm, upd_same]
        · rw [upd_ne (ne_of_none e dn), upd_ne (ne_of_none e cn), upd_ne (ne_of_none e dn), upd_ne (ne_of_none e hg)]
          exact e
end
end Rw
end T_B1

section T_Z0
set_option Elab.async false
set_option linter.all false
set_option maxRecDepth 100000
set_option maxHeartbeats 8000000
namespace Rw
open PySem L2 PyProof.Rows
theorem all_mk {P : Program} {w : World} {K : PySem.W.Frag} {h : Heap} {mg : Str → Option Value} {fa : Addr} (X : K.In h) (G : h.Ns mainGlobals mg) (hfa : mg "law" = some (.ref fa))
    {Wa : Addr} {odW : Option Addr} {slW : Array (Option Value)} {nW : Nat} {tw1 tw2 tw3 tw4 : Tok}
    {C fI TI q1 q2 : Addr} {odI anI odT : Option Addr} {slI slT : Array (Option Value)} {ocI kVI dcI pmI cdI ctI ocT : Value} {nT : Nat}
    {f_s_begin : Addr} {od_s_begin an_s_begin : Option Addr} {sl_s_begin : Array (Option Value)} {oc_s_begin kV_s_begin dc_s_begin pm_s_begin cd_s_begin ct_s_begin : Value}
    {f_s_blend : Addr} {od_s_blend an_s_blend : Option Addr} {sl_s_blend : Array (Option Value)} {oc_s_blend kV_s_blend dc_s_blend pm_s_blend cd_s_blend ct_s_blend : Value}
    {f_s_take : Addr} {od_s_take an_s_take : Option Addr} {sl_s_take : Array (Option Value)} {oc_s_take kV_s_take dc_s_take pm_s_take cd_s_take ct_s_take : Value}
    {f_s_pick : Addr} {od_s_pick an_s_pick : Option Addr} {sl_s_pick : Array (Option Value)} {oc_s_pick kV_s_pick dc_s_pick pm_s_pick cd_s_pick ct_s_pick : Value}
    {f_s_mixed : Addr} {od_s_mixed an_s_mixed : Option Addr} {sl_s_mixed : Array (Option Value)} {oc_s_mixed kV_s_mixed dc_s_mixed pm_s_mixed cd_s_mixed ct_s_mixed : Value}
    {f_s_names : Addr} {od_s_names an_s_names : Option Addr} {sl_s_names : Array (Option Value)} {oc_s_names kV_s_names dc_s_names pm_s_names cd_s_names ct_s_names : Value}
    {f_s_made : Addr} {od_s_made an_s_made : Option Addr} {sl_s_made : Array (Option Value)} {oc_s_made kV_s_made dc_s_made pm_s_made cd_s_made ct_s_made : Value}
    {f_t_table : Addr} {od_t_table an_t_table : Option Addr} {sl_t_table : Array (Option Value)} {oc_t_table kV_t_table dc_t_table pm_t_table cd_t_table ct_t_table : Value}
    {f_t_model : Addr} {od_t_model an_t_model : Option Addr} {sl_t_model : Array (Option Value)} {oc_t_model kV_t_model dc_t_model pm_t_model cd_t_model ct_t_model : Value}
    {f_t_moved : Addr} {od_t_moved an_t_moved : Option Addr} {sl_t_moved : Array (Option Value)} {oc_t_moved kV_t_moved dc_t_moved pm_t_moved cd_t_moved ct_t_moved : Value}
    {f_t_some : Addr} {od_t_some an_t_some : Option Addr} {sl_t_some : Array (Option Value)} {oc_t_some kV_t_some dc_t_some pm_t_some cd_t_some ct_t_some : Value}
    {f_t_rest : Addr} {od_t_rest an_t_rest : Option Addr} {sl_t_rest : Array (Option Value)} {oc_t_rest kV_t_rest dc_t_rest pm_t_rest cd_t_rest ct_t_rest : Value}
    {f_t_parts : Addr} {od_t_parts an_t_parts : Option Addr} {sl_t_parts : Array (Option Value)} {oc_t_parts kV_t_parts dc_t_parts pm_t_parts cd_t_parts ct_t_parts : Value}
    {f_t_row : Addr} {od_t_row an_t_row : Option Addr} {sl_t_row : Array (Option Value)} {oc_t_row kV_t_row dc_t_row pm_t_row cd_t_row ct_t_row : Value}
    {f_t_is_passed : Addr} {od_t_is_passed an_t_is_passed : Option Addr} {sl_t_is_passed : Array (Option Value)} {oc_t_is_passed kV_t_is_passed dc_t_is_passed pm_t_is_passed cd_t_is_passed ct_t_is_passed : Value}
    {f_t_is_bad : Addr} {od_t_is_bad an_t_is_bad : Option Addr} {sl_t_is_bad : Array (Option Value)} {oc_t_is_bad kV_t_is_bad dc_t_is_bad pm_t_is_bad cd_t_is_bad ct_t_is_bad : Value}
    {f_t_web : Addr} {od_t_web an_t_web : Option Addr} {sl_t_web : Array (Option Value)} {oc_t_web kV_t_web dc_t_web pm_t_web cd_t_web ct_t_web : Value}
    {f_t_next : Addr} {od_t_next an_t_next : Option Addr} {sl_t_next : Array (Option Value)} {oc_t_next kV_t_next dc_t_next pm_t_next cd_t_next ct_t_next : Value}
    {f_t_is_count : Addr} {od_t_is_count an_t_is_count : Option Addr} {sl_t_is_count : Array (Option Value)} {oc_t_is_count kV_t_is_count dc_t_is_count pm_t_is_count cd_t_is_count ct_t_is_count : Value}
    {f_t_is_paper : Addr} {od_t_is_paper an_t_is_paper : Option Addr} {sl_t_is_paper : Array (Option Value)} {oc_t_is_paper kV_t_is_paper dc_t_is_paper pm_t_is_paper cd_t_is_paper ct_t_is_paper : Value}
    {f_t_is_moment : Addr} {od_t_is_moment an_t_is_moment : Option Addr} {sl_t_is_moment : Array (Option Value)} {oc_t_is_moment kV_t_is_moment dc_t_is_moment pm_t_is_moment cd_t_is_moment ct_t_is_moment : Value}
    {f_t_is_shown : Addr} {od_t_is_shown an_t_is_shown : Option Addr} {sl_t_is_shown : Array (Option Value)} {oc_t_is_shown kV_t_is_shown dc_t_is_shown pm_t_is_shown cd_t_is_shown ct_t_is_shown : Value}
    {f_t_ranks : Addr} {od_t_ranks an_t_ranks : Option Addr} {sl_t_ranks : Array (Option Value)} {oc_t_ranks kV_t_ranks dc_t_ranks pm_t_ranks cd_t_ranks ct_t_ranks : Value}
    {f_t_near : Addr} {od_t_near an_t_near : Option Addr} {sl_t_near : Array (Option Value)} {oc_t_near kV_t_near dc_t_near pm_t_near cd_t_near ct_t_near : Value}
    {f_t_least : Addr} {od_t_least an_t_least : Option Addr} {sl_t_least : Array (Option Value)} {oc_t_least kV_t_least dc_t_least pm_t_least cd_t_least ct_t_least : Value}
    {f_t_own_paper : Addr} {od_t_own_paper an_t_own_paper : Option Addr} {sl_t_own_paper : Array (Option Value)} {oc_t_own_paper kV_t_own_paper dc_t_own_paper pm_t_own_paper cd_t_own_paper ct_t_own_paper : Value}
    {f_t_greater : Addr} {od_t_greater an_t_greater : Option Addr} {sl_t_greater : Array (Option Value)} {oc_t_greater kV_t_greater dc_t_greater pm_t_greater cd_t_greater ct_t_greater : Value}
    {f_t_moments : Addr} {od_t_moments an_t_moments : Option Addr} {sl_t_moments : Array (Option Value)} {oc_t_moments kV_t_moments dc_t_moments pm_t_moments cd_t_moments ct_t_moments : Value}
    {f_p_is_list : Addr} {od_p_is_list an_p_is_list : Option Addr} {sl_p_is_list : Array (Option Value)} {oc_p_is_list kV_p_is_list dc_p_is_list pm_p_is_list cd_p_is_list ct_p_is_list : Value}
    {f_p_is_name : Addr} {od_p_is_name an_p_is_name : Option Addr} {sl_p_is_name : Array (Option Value)} {oc_p_is_name kV_p_is_name dc_p_is_name pm_p_is_name cd_p_is_name ct_p_is_name : Value}
    {f_p_is_place : Addr} {od_p_is_place an_p_is_place : Option Addr} {sl_p_is_place : Array (Option Value)} {oc_p_is_place kV_p_is_place dc_p_is_place pm_p_is_place cd_p_is_place ct_p_is_place : Value}
    {f_p_is_table : Addr} {od_p_is_table an_p_is_table : Option Addr} {sl_p_is_table : Array (Option Value)} {oc_p_is_table kV_p_is_table dc_p_is_table pm_p_is_table cd_p_is_table ct_p_is_table : Value}
    {f_p_are_different : Addr} {od_p_are_different an_p_are_different : Option Addr} {sl_p_are_different : Array (Option Value)} {oc_p_are_different kV_p_are_different dc_p_are_different pm_p_are_different cd_p_are_different ct_p_are_different : Value}
    {f_p_are_nodes : Addr} {od_p_are_nodes an_p_are_nodes : Option Addr} {sl_p_are_nodes : Array (Option Value)} {oc_p_are_nodes kV_p_are_nodes dc_p_are_nodes pm_p_are_nodes cd_p_are_nodes ct_p_are_nodes : Value}
    {f_p_is_pair_of_dicts : Addr} {od_p_is_pair_of_dicts an_p_is_pair_of_dicts : Option Addr} {sl_p_is_pair_of_dicts : Array (Option Value)} {oc_p_is_pair_of_dicts kV_p_is_pair_of_dicts dc_p_is_pair_of_dicts pm_p_is_pair_of_dicts cd_p_is_pair_of_dicts ct_p_is_pair_of_dicts : Value}
    {f_p_are_tables : Addr} {od_p_are_tables an_p_are_tables : Option Addr} {sl_p_are_tables : Array (Option Value)} {oc_p_are_tables kV_p_are_tables dc_p_are_tables pm_p_are_tables cd_p_are_tables ct_p_are_tables : Value}
    {f_p_check_net : Addr} {od_p_check_net an_p_check_net : Option Addr} {sl_p_check_net : Array (Option Value)} {oc_p_check_net kV_p_check_net dc_p_check_net pm_p_check_net cd_p_check_net ct_p_check_net : Value}
    {f_p_check_goal : Addr} {od_p_check_goal an_p_check_goal : Option Addr} {sl_p_check_goal : Array (Option Value)} {oc_p_check_goal kV_p_check_goal dc_p_check_goal pm_p_check_goal cd_p_check_goal ct_p_check_goal : Value}
    {f_p_check_lot : Addr} {od_p_check_lot an_p_check_lot : Option Addr} {sl_p_check_lot : Array (Option Value)} {oc_p_check_lot kV_p_check_lot dc_p_check_lot pm_p_check_lot cd_p_check_lot ct_p_check_lot : Value}
    {f_p_check_round : Addr} {od_p_check_round an_p_check_round : Option Addr} {sl_p_check_round : Array (Option Value)} {oc_p_check_round kV_p_check_round dc_p_check_round pm_p_check_round cd_p_check_round ct_p_check_round : Value}
    {f_p_is_lot_of : Addr} {od_p_is_lot_of an_p_is_lot_of : Option Addr} {sl_p_is_lot_of : Array (Option Value)} {oc_p_is_lot_of kV_p_is_lot_of dc_p_is_lot_of pm_p_is_lot_of cd_p_is_lot_of ct_p_is_lot_of : Value}
    {f_g_goals : Addr} {od_g_goals an_g_goals : Option Addr} {sl_g_goals : Array (Option Value)} {oc_g_goals kV_g_goals dc_g_goals pm_g_goals cd_g_goals ct_g_goals : Value}
    {p_g_goals : Addr} {r_g_goals : List Value}
    {f_g_nodes : Addr} {od_g_nodes an_g_nodes : Option Addr} {sl_g_nodes : Array (Option Value)} {oc_g_nodes kV_g_nodes dc_g_nodes pm_g_nodes cd_g_nodes ct_g_nodes : Value}
    {p_g_nodes : Addr} {r_g_nodes : List Value}
    {f_g_changing : Addr} {od_g_changing an_g_changing : Option Addr} {sl_g_changing : Array (Option Value)} {oc_g_changing kV_g_changing dc_g_changing pm_g_changing cd_g_changing ct_g_changing : Value}
    {p_g_changing : Addr} {r_g_changing : List Value}
    {f_p_is_number : Addr} {od_p_is_number an_p_is_number : Option Addr} {sl_p_is_number : Array (Option Value)} {oc_p_is_number kV_p_is_number dc_p_is_number pm_p_is_number cd_p_is_number ct_p_is_number : Value}
    {f_p_is_count : Addr} {od_p_is_count an_p_is_count : Option Addr} {sl_p_is_count : Array (Option Value)} {oc_p_is_count kV_p_is_count dc_p_is_count pm_p_is_count cd_p_is_count ct_p_is_count : Value}
    {f_p_followed : Addr} {od_p_followed an_p_followed : Option Addr} {sl_p_followed : Array (Option Value)} {oc_p_followed kV_p_followed dc_p_followed pm_p_followed cd_p_followed ct_p_followed : Value}
    {f_p_ways : Addr} {od_p_ways an_p_ways : Option Addr} {sl_p_ways : Array (Option Value)} {oc_p_ways kV_p_ways dc_p_ways pm_p_ways cd_p_ways ct_p_ways : Value}
    {f_p_ways_at : Addr} {od_p_ways_at an_p_ways_at : Option Addr} {sl_p_ways_at : Array (Option Value)} {oc_p_ways_at kV_p_ways_at dc_p_ways_at pm_p_ways_at cd_p_ways_at ct_p_ways_at : Value}
    {f_p_nodes_behind : Addr} {od_p_nodes_behind an_p_nodes_behind : Option Addr} {sl_p_nodes_behind : Array (Option Value)} {oc_p_nodes_behind kV_p_nodes_behind dc_p_nodes_behind pm_p_nodes_behind cd_p_nodes_behind ct_p_nodes_behind : Value}
    {f_p_starts : Addr} {od_p_starts an_p_starts : Option Addr} {sl_p_starts : Array (Option Value)} {oc_p_starts kV_p_starts dc_p_starts pm_p_starts cd_p_starts ct_p_starts : Value}
    {f_p_breaks : Addr} {od_p_breaks an_p_breaks : Option Addr} {sl_p_breaks : Array (Option Value)} {oc_p_breaks kV_p_breaks dc_p_breaks pm_p_breaks cd_p_breaks ct_p_breaks : Value}
    {f_p_posts_passed : Addr} {od_p_posts_passed an_p_posts_passed : Option Addr} {sl_p_posts_passed : Array (Option Value)} {oc_p_posts_passed kV_p_posts_passed dc_p_posts_passed pm_p_posts_passed cd_p_posts_passed ct_p_posts_passed : Value}
    {f_p_passed_with : Addr} {od_p_passed_with an_p_passed_with : Option Addr} {sl_p_passed_with : Array (Option Value)} {oc_p_passed_with kV_p_passed_with dc_p_passed_with pm_p_passed_with cd_p_passed_with ct_p_passed_with : Value}
    {f_p_check_wish : Addr} {od_p_check_wish an_p_check_wish : Option Addr} {sl_p_check_wish : Array (Option Value)} {oc_p_check_wish kV_p_check_wish dc_p_check_wish pm_p_check_wish cd_p_check_wish ct_p_check_wish : Value}
    {f_p_is_fault : Addr} {od_p_is_fault an_p_is_fault : Option Addr} {sl_p_is_fault : Array (Option Value)} {oc_p_is_fault kV_p_is_fault dc_p_is_fault pm_p_is_fault cd_p_is_fault ct_p_is_fault : Value}
    {f_p_fits : Addr} {od_p_fits an_p_fits : Option Addr} {sl_p_fits : Array (Option Value)} {oc_p_fits kV_p_fits dc_p_fits pm_p_fits cd_p_fits ct_p_fits : Value}
    {f_p_is_paper : Addr} {od_p_is_paper an_p_is_paper : Option Addr} {sl_p_is_paper : Array (Option Value)} {oc_p_is_paper kV_p_is_paper dc_p_is_paper pm_p_is_paper cd_p_is_paper ct_p_is_paper : Value}
    {f_p_are_papers : Addr} {od_p_are_papers an_p_are_papers : Option Addr} {sl_p_are_papers : Array (Option Value)} {oc_p_are_papers kV_p_are_papers dc_p_are_papers pm_p_are_papers cd_p_are_papers ct_p_are_papers : Value}
    {f_p_is_shown : Addr} {od_p_is_shown an_p_is_shown : Option Addr} {sl_p_is_shown : Array (Option Value)} {oc_p_is_shown kV_p_is_shown dc_p_is_shown pm_p_is_shown cd_p_is_shown ct_p_is_shown : Value}
    {f_g_tables : Addr} {od_g_tables an_g_tables : Option Addr} {sl_g_tables : Array (Option Value)} {oc_g_tables kV_g_tables dc_g_tables pm_g_tables cd_g_tables ct_g_tables : Value}
    {p_g_tables : Addr} {r_g_tables : List Value}
    {f_g_sources : Addr} {od_g_sources an_g_sources : Option Addr} {sl_g_sources : Array (Option Value)} {oc_g_sources kV_g_sources dc_g_sources pm_g_sources cd_g_sources ct_g_sources : Value}
    {p_g_sources : Addr} {r_g_sources : List Value}
    {f_g_posts : Addr} {od_g_posts an_g_posts : Option Addr} {sl_g_posts : Array (Option Value)} {oc_g_posts kV_g_posts dc_g_posts pm_g_posts cd_g_posts ct_g_posts : Value}
    {p_g_posts : Addr} {r_g_posts : List Value}
    {f_law : Addr} {od_law an_law : Option Addr} {sl_law : Array (Option Value)} {oc_law kV_law dc_law pm_law cd_law ct_law : Value}
    {t_MOST_POSTS : Tok}
    {t_MOST_NODES : Tok}
    {t_MOST_GOALS : Tok}
    {t_MOST_LETTERS : Tok}
    (aC : PySem.W.nsIn K mainGlobals "Net" = some (some (.ref C)))
    (a_s_begin : PySem.W.nsIn K mainGlobals "_law_begin" = some (some (.ref f_s_begin)))
    (l_s_begin : K.lookup f_s_begin = some ⟨oc_s_begin, od_s_begin, .func (PySem.W.fnOf "_law_begin" "_law_begin" (defArgs s_begin) (defBody s_begin) (defScope s_begin) .none kV_s_begin dc_s_begin pm_s_begin an_s_begin cd_s_begin ct_s_begin), sl_s_begin⟩)
    (c_s_begin : PySem.W.codeIn K cd_s_begin "_law_begin" = true)
    (k_s_begin : PySem.W.keepIn K (.ref f_s_begin) = true)
    (a_s_blend : PySem.W.nsIn K mainGlobals "_law_blend" = some (some (.ref f_s_blend)))
    (l_s_blend : K.lookup f_s_blend = some ⟨oc_s_blend, od_s_blend, .func (PySem.W.fnOf "_law_blend" "_law_blend" (defArgs s_blend) (defBody s_blend) (defScope s_blend) .none kV_s_blend dc_s_blend pm_s_blend an_s_blend cd_s_blend ct_s_blend), sl_s_blend⟩)
    (c_s_blend : PySem.W.codeIn K cd_s_blend "_law_blend" = true)
    (k_s_blend : PySem.W.keepIn K (.ref f_s_blend) = true)
    (a_s_take : PySem.W.nsIn K mainGlobals "_law_take" = some (some (.ref f_s_take)))
    (l_s_take : K.lookup f_s_take = some ⟨oc_s_take, od_s_take, .func (PySem.W.fnOf "_law_take" "_law_take" (defArgs s_take) (defBody s_take) (defScope s_take) .none kV_s_take dc_s_take pm_s_take an_s_take cd_s_take ct_s_take), sl_s_take⟩)
    (c_s_take : PySem.W.codeIn K cd_s_take "_law_take" = true)
    (k_s_take : PySem.W.keepIn K (.ref f_s_take) = true)
    (a_s_pick : PySem.W.nsIn K mainGlobals "_law_pick" = some (some (.ref f_s_pick)))
    (l_s_pick : K.lookup f_s_pick = some ⟨oc_s_pick, od_s_pick, .func (PySem.W.fnOf "_law_pick" "_law_pick" (defArgs s_pick) (defBody s_pick) (defScope s_pick) .none kV_s_pick dc_s_pick pm_s_pick an_s_pick cd_s_pick ct_s_pick), sl_s_pick⟩)
    (c_s_pick : PySem.W.codeIn K cd_s_pick "_law_pick" = true)
    (k_s_pick : PySem.W.keepIn K (.ref f_s_pick) = true)
    (a_s_mixed : PySem.W.nsIn K mainGlobals "_law_mixed" = some (some (.ref f_s_mixed)))
    (l_s_mixed : K.lookup f_s_mixed = some ⟨oc_s_mixed, od_s_mixed, .func (PySem.W.fnOf "_law_mixed" "_law_mixed" (defArgs s_mixed) (defBody s_mixed) (defScope s_mixed) .none kV_s_mixed dc_s_mixed pm_s_mixed an_s_mixed cd_s_mixed ct_s_mixed), sl_s_mixed⟩)
    (c_s_mixed : PySem.W.codeIn K cd_s_mixed "_law_mixed" = true)
    (k_s_mixed : PySem.W.keepIn K (.ref f_s_mixed) = true)
    (a_s_names : PySem.W.nsIn K mainGlobals "_law_names" = some (some (.ref f_s_names)))
    (l_s_names : K.lookup f_s_names = some ⟨oc_s_names, od_s_names, .func (PySem.W.fnOf "_law_names" "_law_names" (defArgs s_names) (defBody s_names) (defScope s_names) .none kV_s_names dc_s_names pm_s_names an_s_names cd_s_names ct_s_names), sl_s_names⟩)
    (c_s_names : PySem.W.codeIn K cd_s_names "_law_names" = true)
    (k_s_names : PySem.W.keepIn K (.ref f_s_names) = true)
    (a_s_made : PySem.W.nsIn K mainGlobals "_law_made" = some (some (.ref f_s_made)))
    (l_s_made : K.lookup f_s_made = some ⟨oc_s_made, od_s_made, .func (PySem.W.fnOf "_law_made" "_law_made" (defArgs s_made) (defBody s_made) (defScope s_made) .none kV_s_made dc_s_made pm_s_made an_s_made cd_s_made ct_s_made), sl_s_made⟩)
    (c_s_made : PySem.W.codeIn K cd_s_made "_law_made" = true)
    (k_s_made : PySem.W.keepIn K (.ref f_s_made) = true)
    (a_t_table : PySem.W.nsIn K mainGlobals "_law_table" = some (some (.ref f_t_table)))
    (l_t_table : K.lookup f_t_table = some ⟨oc_t_table, od_t_table, .func (PySem.W.fnOf "_law_table" "_law_table" (defArgs s_table) (defBody s_table) (defScope s_table) .none kV_t_table dc_t_table pm_t_table an_t_table cd_t_table ct_t_table), sl_t_table⟩)
    (c_t_table : PySem.W.codeIn K cd_t_table "_law_table" = true)
    (k_t_table : PySem.W.keepIn K (.ref f_t_table) = true)
    (a_t_model : PySem.W.nsIn K mainGlobals "_law_model" = some (some (.ref f_t_model)))
    (l_t_model : K.lookup f_t_model = some ⟨oc_t_model, od_t_model, .func (PySem.W.fnOf "_law_model" "_law_model" (defArgs s_model) (defBody s_model) (defScope s_model) .none kV_t_model dc_t_model pm_t_model an_t_model cd_t_model ct_t_model), sl_t_model⟩)
    (c_t_model : PySem.W.codeIn K cd_t_model "_law_model" = true)
    (k_t_model : PySem.W.keepIn K (.ref f_t_model) = true)
    (a_t_moved : PySem.W.nsIn K mainGlobals "_law_moved" = some (some (.ref f_t_moved)))
    (l_t_moved : K.lookup f_t_moved = some ⟨oc_t_moved, od_t_moved, .func (PySem.W.fnOf "_law_moved" "_law_moved" (defArgs s_moved) (defBody s_moved) (defScope s_moved) .none kV_t_moved dc_t_moved pm_t_moved an_t_moved cd_t_moved ct_t_moved), sl_t_moved⟩)
    (c_t_moved : PySem.W.codeIn K cd_t_moved "_law_moved" = true)
    (k_t_moved : PySem.W.keepIn K (.ref f_t_moved) = true)
    (a_t_some : PySem.W.nsIn K mainGlobals "_law_some" = some (some (.ref f_t_some)))
    (l_t_some : K.lookup f_t_some = some ⟨oc_t_some, od_t_some, .func (PySem.W.fnOf "_law_some" "_law_some" (defArgs s_some) (defBody s_some) (defScope s_some) .none kV_t_some dc_t_some pm_t_some an_t_some cd_t_some ct_t_some), sl_t_some⟩)
    (c_t_some : PySem.W.codeIn K cd_t_some "_law_some" = true)
    (k_t_some : PySem.W.keepIn K (.ref f_t_some) = true)
    (a_t_rest : PySem.W.nsIn K mainGlobals "_law_rest" = some (some (.ref f_t_rest)))
    (l_t_rest : K.lookup f_t_rest = some ⟨oc_t_rest, od_t_rest, .func (PySem.W.fnOf "_law_rest" "_law_rest" (defArgs s_rest) (defBody s_rest) (defScope s_rest) .none kV_t_rest dc_t_rest pm_t_rest an_t_rest cd_t_rest ct_t_rest), sl_t_rest⟩)
    (c_t_rest : PySem.W.codeIn K cd_t_rest "_law_rest" = true)
    (k_t_rest : PySem.W.keepIn K (.ref f_t_rest) = true)
    (a_t_parts : PySem.W.nsIn K mainGlobals "_law_parts" = some (some (.ref f_t_parts)))
    (l_t_parts : K.lookup f_t_parts = some ⟨oc_t_parts, od_t_parts, .func (PySem.W.fnOf "_law_parts" "_law_parts" (defArgs s_parts) (defBody s_parts) (defScope s_parts) .none kV_t_parts dc_t_parts pm_t_parts an_t_parts cd_t_parts ct_t_parts), sl_t_parts⟩)
    (c_t_parts : PySem.W.codeIn K cd_t_parts "_law_parts" = true)
    (k_t_parts : PySem.W.keepIn K (.ref f_t_parts) = true)
    (a_t_row : PySem.W.nsIn K mainGlobals "_law_row" = some (some (.ref f_t_row)))
    (l_t_row : K.lookup f_t_row = some ⟨oc_t_row, od_t_row, .func (PySem.W.fnOf "_law_row" "_law_row" (defArgs s_row) (defBody s_row) (defScope s_row) .none kV_t_row dc_t_row pm_t_row an_t_row cd_t_row ct_t_row), sl_t_row⟩)
    (c_t_row : PySem.W.codeIn K cd_t_row "_law_row" = true)
    (k_t_row : PySem.W.keepIn K (.ref f_t_row) = true)
    (a_t_is_passed : PySem.W.nsIn K mainGlobals "_law_is_passed" = some (some (.ref f_t_is_passed)))
    (l_t_is_passed : K.lookup f_t_is_passed = some ⟨oc_t_is_passed, od_t_is_passed, .func (PySem.W.fnOf "_law_is_passed" "_law_is_passed" (defArgs s_is_passed) (defBody s_is_passed) (defScope s_is_passed) .none kV_t_is_passed dc_t_is_passed pm_t_is_passed an_t_is_passed cd_t_is_passed ct_t_is_passed), sl_t_is_passed⟩)
    (c_t_is_passed : PySem.W.codeIn K cd_t_is_passed "_law_is_passed" = true)
    (k_t_is_passed : PySem.W.keepIn K (.ref f_t_is_passed) = true)
    (a_t_is_bad : PySem.W.nsIn K mainGlobals "_law_is_bad" = some (some (.ref f_t_is_bad)))
    (l_t_is_bad : K.lookup f_t_is_bad = some ⟨oc_t_is_bad, od_t_is_bad, .func (PySem.W.fnOf "_law_is_bad" "_law_is_bad" (defArgs s_is_bad) (defBody s_is_bad) (defScope s_is_bad) .none kV_t_is_bad dc_t_is_bad pm_t_is_bad an_t_is_bad cd_t_is_bad ct_t_is_bad), sl_t_is_bad⟩)
    (c_t_is_bad : PySem.W.codeIn K cd_t_is_bad "_law_is_bad" = true)
    (k_t_is_bad : PySem.W.keepIn K (.ref f_t_is_bad) = true)
    (a_t_web : PySem.W.nsIn K mainGlobals "_law_web" = some (some (.ref f_t_web)))
    (l_t_web : K.lookup f_t_web = some ⟨oc_t_web, od_t_web, .func (PySem.W.fnOf "_law_web" "_law_web" (defArgs s_web) (defBody s_web) (defScope s_web) .none kV_t_web dc_t_web pm_t_web an_t_web cd_t_web ct_t_web), sl_t_web⟩)
    (c_t_web : PySem.W.codeIn K cd_t_web "_law_web" = true)
    (k_t_web : PySem.W.keepIn K (.ref f_t_web) = true)
    (a_t_next : PySem.W.nsIn K mainGlobals "_law_next" = some (some (.ref f_t_next)))
    (l_t_next : K.lookup f_t_next = some ⟨oc_t_next, od_t_next, .func (PySem.W.fnOf "_law_next" "_law_next" (defArgs s_next) (defBody s_next) (defScope s_next) .none kV_t_next dc_t_next pm_t_next an_t_next cd_t_next ct_t_next), sl_t_next⟩)
    (c_t_next : PySem.W.codeIn K cd_t_next "_law_next" = true)
    (k_t_next : PySem.W.keepIn K (.ref f_t_next) = true)
    (a_t_is_count : PySem.W.nsIn K mainGlobals "_law_is_count" = some (some (.ref f_t_is_count)))
    (l_t_is_count : K.lookup f_t_is_count = some ⟨oc_t_is_count, od_t_is_count, .func (PySem.W.fnOf "_law_is_count" "_law_is_count" (defArgs s_is_count) (defBody s_is_count) (defScope s_is_count) .none kV_t_is_count dc_t_is_count pm_t_is_count an_t_is_count cd_t_is_count ct_t_is_count), sl_t_is_count⟩)
    (c_t_is_count : PySem.W.codeIn K cd_t_is_count "_law_is_count" = true)
    (k_t_is_count : PySem.W.keepIn K (.ref f_t_is_count) = true)
    (a_t_is_paper : PySem.W.nsIn K mainGlobals "_law_is_paper" = some (some (.ref f_t_is_paper)))
    (l_t_is_paper : K.lookup f_t_is_paper = some ⟨oc_t_is_paper, od_t_is_paper, .func (PySem.W.fnOf "_law_is_paper" "_law_is_paper" (defArgs s_is_paper) (defBody s_is_paper) (defScope s_is_paper) .none kV_t_is_paper dc_t_is_paper pm_t_is_paper an_t_is_paper cd_t_is_paper ct_t_is_paper), sl_t_is_paper⟩)
    (c_t_is_paper : PySem.W.codeIn K cd_t_is_paper "_law_is_paper" = true)
    (k_t_is_paper : PySem.W.keepIn K (.ref f_t_is_paper) = true)
    (a_t_is_moment : PySem.W.nsIn K mainGlobals "_law_is_moment" = some (some (.ref f_t_is_moment)))
    (l_t_is_moment : K.lookup f_t_is_moment = some ⟨oc_t_is_moment, od_t_is_moment, .func (PySem.W.fnOf "_law_is_moment" "_law_is_moment" (defArgs s_is_moment) (defBody s_is_moment) (defScope s_is_moment) .none kV_t_is_moment dc_t_is_moment pm_t_is_moment an_t_is_moment cd_t_is_moment ct_t_is_moment), sl_t_is_moment⟩)
    (c_t_is_moment : PySem.W.codeIn K cd_t_is_moment "_law_is_moment" = true)
    (k_t_is_moment : PySem.W.keepIn K (.ref f_t_is_moment) = true)
    (a_t_is_shown : PySem.W.nsIn K mainGlobals "_law_is_shown" = some (some (.ref f_t_is_shown)))
    (l_t_is_shown : K.lookup f_t_is_shown = some ⟨oc_t_is_shown, od_t_is_shown, .func (PySem.W.fnOf "_law_is_shown" "_law_is_shown" (defArgs s_is_shown) (defBody s_is_shown) (defScope s_is_shown) .none kV_t_is_shown dc_t_is_shown pm_t_is_shown an_t_is_shown cd_t_is_shown ct_t_is_shown), sl_t_is_shown⟩)
    (c_t_is_shown : PySem.W.codeIn K cd_t_is_shown "_law_is_shown" = true)
    (k_t_is_shown : PySem.W.keepIn K (.ref f_t_is_shown) = true)
    (a_t_ranks : PySem.W.nsIn K mainGlobals "_law_ranks" = some (some (.ref f_t_ranks)))
    (l_t_ranks : K.lookup f_t_ranks = some ⟨oc_t_ranks, od_t_ranks, .func (PySem.W.fnOf "_law_ranks" "_law_ranks" (defArgs s_ranks) (defBody s_ranks) (defScope s_ranks) .none kV_t_ranks dc_t_ranks pm_t_ranks an_t_ranks cd_t_ranks ct_t_ranks), sl_t_ranks⟩)
    (c_t_ranks : PySem.W.codeIn K cd_t_ranks "_law_ranks" = true)
    (k_t_ranks : PySem.W.keepIn K (.ref f_t_ranks) = true)
    (a_t_near : PySem.W.nsIn K mainGlobals "_law_near" = some (some (.ref f_t_near)))
    (l_t_near : K.lookup f_t_near = some ⟨oc_t_near, od_t_near, .func (PySem.W.fnOf "_law_near" "_law_near" (defArgs s_near) (defBody s_near) (defScope s_near) .none kV_t_near dc_t_near pm_t_near an_t_near cd_t_near ct_t_near), sl_t_near⟩)
    (c_t_near : PySem.W.codeIn K cd_t_near "_law_near" = true)
    (k_t_near : PySem.W.keepIn K (.ref f_t_near) = true)
    (a_t_least : PySem.W.nsIn K mainGlobals "_law_least" = some (some (.ref f_t_least)))
    (l_t_least : K.lookup f_t_least = some ⟨oc_t_least, od_t_least, .func (PySem.W.fnOf "_law_least" "_law_least" (defArgs s_least) (defBody s_least) (defScope s_least) .none kV_t_least dc_t_least pm_t_least an_t_least cd_t_least ct_t_least), sl_t_least⟩)
    (c_t_least : PySem.W.codeIn K cd_t_least "_law_least" = true)
    (k_t_least : PySem.W.keepIn K (.ref f_t_least) = true)
    (a_t_own_paper : PySem.W.nsIn K mainGlobals "_law_own_paper" = some (some (.ref f_t_own_paper)))
    (l_t_own_paper : K.lookup f_t_own_paper = some ⟨oc_t_own_paper, od_t_own_paper, .func (PySem.W.fnOf "_law_own_paper" "_law_own_paper" (defArgs s_own_paper) (defBody s_own_paper) (defScope s_own_paper) .none kV_t_own_paper dc_t_own_paper pm_t_own_paper an_t_own_paper cd_t_own_paper ct_t_own_paper), sl_t_own_paper⟩)
    (c_t_own_paper : PySem.W.codeIn K cd_t_own_paper "_law_own_paper" = true)
    (k_t_own_paper : PySem.W.keepIn K (.ref f_t_own_paper) = true)
    (a_t_greater : PySem.W.nsIn K mainGlobals "_law_greater" = some (some (.ref f_t_greater)))
    (l_t_greater : K.lookup f_t_greater = some ⟨oc_t_greater, od_t_greater, .func (PySem.W.fnOf "_law_greater" "_law_greater" (defArgs s_greater) (defBody s_greater) (defScope s_greater) .none kV_t_greater dc_t_greater pm_t_greater an_t_greater cd_t_greater ct_t_greater), sl_t_greater⟩)
    (c_t_greater : PySem.W.codeIn K cd_t_greater "_law_greater" = true)
    (k_t_greater : PySem.W.keepIn K (.ref f_t_greater) = true)
    (a_t_moments : PySem.W.nsIn K mainGlobals "_law_moments" = some (some (.ref f_t_moments)))
    (l_t_moments : K.lookup f_t_moments = some ⟨oc_t_moments, od_t_moments, .func (PySem.W.fnOf "_law_moments" "_law_moments" (defArgs s_moments) (defBody s_moments) (defScope s_moments) .none kV_t_moments dc_t_moments pm_t_moments an_t_moments cd_t_moments ct_t_moments), sl_t_moments⟩)
    (c_t_moments : PySem.W.codeIn K cd_t_moments "_law_moments" = true)
    (k_t_moments : PySem.W.keepIn K (.ref f_t_moments) = true)
    (a_p_is_list : PySem.W.nsIn K mainGlobals "is_list" = some (some (.ref f_p_is_list)))
    (l_p_is_list : K.lookup f_p_is_list = some ⟨oc_p_is_list, od_p_is_list, .func (PySem.W.fnOf "is_list" "is_list" (defArgs p_is_list) (defBody p_is_list) (defScope p_is_list) .none kV_p_is_list dc_p_is_list pm_p_is_list an_p_is_list cd_p_is_list ct_p_is_list), sl_p_is_list⟩)
    (c_p_is_list : PySem.W.codeIn K cd_p_is_list "is_list" = true)
    (k_p_is_list : PySem.W.keepIn K (.ref f_p_is_list) = true)
    (a_p_is_name : PySem.W.nsIn K mainGlobals "is_name" = some (some (.ref f_p_is_name)))
    (l_p_is_name : K.lookup f_p_is_name = some ⟨oc_p_is_name, od_p_is_name, .func (PySem.W.fnOf "is_name" "is_name" (defArgs p_is_name) (defBody p_is_name) (defScope p_is_name) .none kV_p_is_name dc_p_is_name pm_p_is_name an_p_is_name cd_p_is_name ct_p_is_name), sl_p_is_name⟩)
    (c_p_is_name : PySem.W.codeIn K cd_p_is_name "is_name" = true)
    (k_p_is_name : PySem.W.keepIn K (.ref f_p_is_name) = true)
    (a_p_is_place : PySem.W.nsIn K mainGlobals "is_place" = some (some (.ref f_p_is_place)))
    (l_p_is_place : K.lookup f_p_is_place = some ⟨oc_p_is_place, od_p_is_place, .func (PySem.W.fnOf "is_place" "is_place" (defArgs p_is_place) (defBody p_is_place) (defScope p_is_place) .none kV_p_is_place dc_p_is_place pm_p_is_place an_p_is_place cd_p_is_place ct_p_is_place), sl_p_is_place⟩)
    (c_p_is_place : PySem.W.codeIn K cd_p_is_place "is_place" = true)
    (k_p_is_place : PySem.W.keepIn K (.ref f_p_is_place) = true)
    (a_p_is_table : PySem.W.nsIn K mainGlobals "is_table" = some (some (.ref f_p_is_table)))
    (l_p_is_table : K.lookup f_p_is_table = some ⟨oc_p_is_table, od_p_is_table, .func (PySem.W.fnOf "is_table" "is_table" (defArgs p_is_table) (defBody p_is_table) (defScope p_is_table) .none kV_p_is_table dc_p_is_table pm_p_is_table an_p_is_table cd_p_is_table ct_p_is_table), sl_p_is_table⟩)
    (c_p_is_table : PySem.W.codeIn K cd_p_is_table "is_table" = true)
    (k_p_is_table : PySem.W.keepIn K (.ref f_p_is_table) = true)
    (a_p_are_different : PySem.W.nsIn K mainGlobals "are_different" = some (some (.ref f_p_are_different)))
    (l_p_are_different : K.lookup f_p_are_different = some ⟨oc_p_are_different, od_p_are_different, .func (PySem.W.fnOf "are_different" "are_different" (defArgs p_are_different) (defBody p_are_different) (defScope p_are_different) .none kV_p_are_different dc_p_are_different pm_p_are_different an_p_are_different cd_p_are_different ct_p_are_different), sl_p_are_different⟩)
    (c_p_are_different : PySem.W.codeIn K cd_p_are_different "are_different" = true)
    (k_p_are_different : PySem.W.keepIn K (.ref f_p_are_different) = true)
    (a_p_are_nodes : PySem.W.nsIn K mainGlobals "are_nodes" = some (some (.ref f_p_are_nodes)))
    (l_p_are_nodes : K.lookup f_p_are_nodes = some ⟨oc_p_are_nodes, od_p_are_nodes, .func (PySem.W.fnOf "are_nodes" "are_nodes" (defArgs p_are_nodes) (defBody p_are_nodes) (defScope p_are_nodes) .none kV_p_are_nodes dc_p_are_nodes pm_p_are_nodes an_p_are_nodes cd_p_are_nodes ct_p_are_nodes), sl_p_are_nodes⟩)
    (c_p_are_nodes : PySem.W.codeIn K cd_p_are_nodes "are_nodes" = true)
    (k_p_are_nodes : PySem.W.keepIn K (.ref f_p_are_nodes) = true)
    (a_p_is_pair_of_dicts : PySem.W.nsIn K mainGlobals "is_pair_of_dicts" = some (some (.ref f_p_is_pair_of_dicts)))
    (l_p_is_pair_of_dicts : K.lookup f_p_is_pair_of_dicts = some ⟨oc_p_is_pair_of_dicts, od_p_is_pair_of_dicts, .func (PySem.W.fnOf "is_pair_of_dicts" "is_pair_of_dicts" (defArgs p_is_pair_of_dicts) (defBody p_is_pair_of_dicts) (defScope p_is_pair_of_dicts) .none kV_p_is_pair_of_dicts dc_p_is_pair_of_dicts pm_p_is_pair_of_dicts an_p_is_pair_of_dicts cd_p_is_pair_of_dicts ct_p_is_pair_of_dicts), sl_p_is_pair_of_dicts⟩)
    (c_p_is_pair_of_dicts : PySem.W.codeIn K cd_p_is_pair_of_dicts "is_pair_of_dicts" = true)
    (k_p_is_pair_of_dicts : PySem.W.keepIn K (.ref f_p_is_pair_of_dicts) = true)
    (a_p_are_tables : PySem.W.nsIn K mainGlobals "are_tables" = some (some (.ref f_p_are_tables)))
    (l_p_are_tables : K.lookup f_p_are_tables = some ⟨oc_p_are_tables, od_p_are_tables, .func (PySem.W.fnOf "are_tables" "are_tables" (defArgs p_are_tables) (defBody p_are_tables) (defScope p_are_tables) .none kV_p_are_tables dc_p_are_tables pm_p_are_tables an_p_are_tables cd_p_are_tables ct_p_are_tables), sl_p_are_tables⟩)
    (c_p_are_tables : PySem.W.codeIn K cd_p_are_tables "are_tables" = true)
    (k_p_are_tables : PySem.W.keepIn K (.ref f_p_are_tables) = true)
    (a_p_check_net : PySem.W.nsIn K mainGlobals "check_net" = some (some (.ref f_p_check_net)))
    (l_p_check_net : K.lookup f_p_check_net = some ⟨oc_p_check_net, od_p_check_net, .func (PySem.W.fnOf "check_net" "check_net" (defArgs p_check_net) (defBody p_check_net) (defScope p_check_net) .none kV_p_check_net dc_p_check_net pm_p_check_net an_p_check_net cd_p_check_net ct_p_check_net), sl_p_check_net⟩)
    (c_p_check_net : PySem.W.codeIn K cd_p_check_net "check_net" = true)
    (k_p_check_net : PySem.W.keepIn K (.ref f_p_check_net) = true)
    (a_p_check_goal : PySem.W.nsIn K mainGlobals "check_goal" = some (some (.ref f_p_check_goal)))
    (l_p_check_goal : K.lookup f_p_check_goal = some ⟨oc_p_check_goal, od_p_check_goal, .func (PySem.W.fnOf "check_goal" "check_goal" (defArgs p_check_goal) (defBody p_check_goal) (defScope p_check_goal) .none kV_p_check_goal dc_p_check_goal pm_p_check_goal an_p_check_goal cd_p_check_goal ct_p_check_goal), sl_p_check_goal⟩)
    (c_p_check_goal : PySem.W.codeIn K cd_p_check_goal "check_goal" = true)
    (k_p_check_goal : PySem.W.keepIn K (.ref f_p_check_goal) = true)
    (a_p_check_lot : PySem.W.nsIn K mainGlobals "check_lot" = some (some (.ref f_p_check_lot)))
    (l_p_check_lot : K.lookup f_p_check_lot = some ⟨oc_p_check_lot, od_p_check_lot, .func (PySem.W.fnOf "check_lot" "check_lot" (defArgs p_check_lot) (defBody p_check_lot) (defScope p_check_lot) .none kV_p_check_lot dc_p_check_lot pm_p_check_lot an_p_check_lot cd_p_check_lot ct_p_check_lot), sl_p_check_lot⟩)
    (c_p_check_lot : PySem.W.codeIn K cd_p_check_lot "check_lot" = true)
    (k_p_check_lot : PySem.W.keepIn K (.ref f_p_check_lot) = true)
    (a_p_check_round : PySem.W.nsIn K mainGlobals "check_round" = some (some (.ref f_p_check_round)))
    (l_p_check_round : K.lookup f_p_check_round = some ⟨oc_p_check_round, od_p_check_round, .func (PySem.W.fnOf "check_round" "check_round" (defArgs p_check_round) (defBody p_check_round) (defScope p_check_round) .none kV_p_check_round dc_p_check_round pm_p_check_round an_p_check_round cd_p_check_round ct_p_check_round), sl_p_check_round⟩)
    (c_p_check_round : PySem.W.codeIn K cd_p_check_round "check_round" = true)
    (k_p_check_round : PySem.W.keepIn K (.ref f_p_check_round) = true)
    (a_p_is_lot_of : PySem.W.nsIn K mainGlobals "is_lot_of" = some (some (.ref f_p_is_lot_of)))
    (l_p_is_lot_of : K.lookup f_p_is_lot_of = some ⟨oc_p_is_lot_of, od_p_is_lot_of, .func (PySem.W.fnOf "is_lot_of" "is_lot_of" (defArgs p_is_lot_of) (defBody p_is_lot_of) (defScope p_is_lot_of) .none kV_p_is_lot_of dc_p_is_lot_of pm_p_is_lot_of an_p_is_lot_of cd_p_is_lot_of ct_p_is_lot_of), sl_p_is_lot_of⟩)
    (c_p_is_lot_of : PySem.W.codeIn K cd_p_is_lot_of "is_lot_of" = true)
    (k_p_is_lot_of : PySem.W.keepIn K (.ref f_p_is_lot_of) = true)
    (a_g_goals : PySem.W.findIn K (.ref C) "goals" = some (some (.ref p_g_goals)))
    (ge_g_goals : PySem.W.specialIn K (.ref p_g_goals) "__get__" = some (some (.builtin "property.__get__")))
    (ta_g_goals : PySem.W.takesIn K (.ref p_g_goals) = some true)
    (re_g_goals : PySem.W.recIn K p_g_goals "property" = some (.ref f_g_goals :: r_g_goals))
    (l_g_goals : K.lookup f_g_goals = some ⟨oc_g_goals, od_g_goals, .func (PySem.W.fnOf "goals" "Net.goals" (defArgs c_Net_goals) (defBody c_Net_goals) (defScope c_Net_goals) .none kV_g_goals dc_g_goals pm_g_goals an_g_goals cd_g_goals ct_g_goals), sl_g_goals⟩)
    (c_g_goals : PySem.W.codeIn K cd_g_goals "Net.goals" = true)
    (k_g_goals : PySem.W.keepIn K (.ref f_g_goals) = true)
    (a_g_nodes : PySem.W.findIn K (.ref C) "nodes" = some (some (.ref p_g_nodes)))
    (ge_g_nodes : PySem.W.specialIn K (.ref p_g_nodes) "__get__" = some (some (.builtin "property.__get__")))
    (ta_g_nodes : PySem.W.takesIn K (.ref p_g_nodes) = some true)
    (re_g_nodes : PySem.W.recIn K p_g_nodes "property" = some (.ref f_g_nodes :: r_g_nodes))
    (l_g_nodes : K.lookup f_g_nodes = some ⟨oc_g_nodes, od_g_nodes, .func (PySem.W.fnOf "nodes" "Net.nodes" (defArgs c_Net_nodes) (defBody c_Net_nodes) (defScope c_Net_nodes) .none kV_g_nodes dc_g_nodes pm_g_nodes an_g_nodes cd_g_nodes ct_g_nodes), sl_g_nodes⟩)
    (c_g_nodes : PySem.W.codeIn K cd_g_nodes "Net.nodes" = true)
    (k_g_nodes : PySem.W.keepIn K (.ref f_g_nodes) = true)
    (a_g_changing : PySem.W.findIn K (.ref C) "changing" = some (some (.ref p_g_changing)))
    (ge_g_changing : PySem.W.specialIn K (.ref p_g_changing) "__get__" = some (some (.builtin "property.__get__")))
    (ta_g_changing : PySem.W.takesIn K (.ref p_g_changing) = some true)
    (re_g_changing : PySem.W.recIn K p_g_changing "property" = some (.ref f_g_changing :: r_g_changing))
    (l_g_changing : K.lookup f_g_changing = some ⟨oc_g_changing, od_g_changing, .func (PySem.W.fnOf "changing" "Net.changing" (defArgs c_Net_changing) (defBody c_Net_changing) (defScope c_Net_changing) .none kV_g_changing dc_g_changing pm_g_changing an_g_changing cd_g_changing ct_g_changing), sl_g_changing⟩)
    (c_g_changing : PySem.W.codeIn K cd_g_changing "Net.changing" = true)
    (k_g_changing : PySem.W.keepIn K (.ref f_g_changing) = true)
    (a_p_is_number : PySem.W.nsIn K mainGlobals "is_number" = some (some (.ref f_p_is_number)))
    (l_p_is_number : K.lookup f_p_is_number = some ⟨oc_p_is_number, od_p_is_number, .func (PySem.W.fnOf "is_number" "is_number" (defArgs p_is_number) (defBody p_is_number) (defScope p_is_number) .none kV_p_is_number dc_p_is_number pm_p_is_number an_p_is_number cd_p_is_number ct_p_is_number), sl_p_is_number⟩)
    (c_p_is_number : PySem.W.codeIn K cd_p_is_number "is_number" = true)
    (k_p_is_number : PySem.W.keepIn K (.ref f_p_is_number) = true)
    (a_p_is_count : PySem.W.nsIn K mainGlobals "is_count" = some (some (.ref f_p_is_count)))
    (l_p_is_count : K.lookup f_p_is_count = some ⟨oc_p_is_count, od_p_is_count, .func (PySem.W.fnOf "is_count" "is_count" (defArgs p_is_count) (defBody p_is_count) (defScope p_is_count) .none kV_p_is_count dc_p_is_count pm_p_is_count an_p_is_count cd_p_is_count ct_p_is_count), sl_p_is_count⟩)
    (c_p_is_count : PySem.W.codeIn K cd_p_is_count "is_count" = true)
    (k_p_is_count : PySem.W.keepIn K (.ref f_p_is_count) = true)
    (a_p_followed : PySem.W.nsIn K mainGlobals "followed" = some (some (.ref f_p_followed)))
    (l_p_followed : K.lookup f_p_followed = some ⟨oc_p_followed, od_p_followed, .func (PySem.W.fnOf "followed" "followed" (defArgs p_followed) (defBody p_followed) (defScope p_followed) .none kV_p_followed dc_p_followed pm_p_followed an_p_followed cd_p_followed ct_p_followed), sl_p_followed⟩)
    (c_p_followed : PySem.W.codeIn K cd_p_followed "followed" = true)
    (k_p_followed : PySem.W.keepIn K (.ref f_p_followed) = true)
    (a_p_ways : PySem.W.nsIn K mainGlobals "ways" = some (some (.ref f_p_ways)))
    (l_p_ways : K.lookup f_p_ways = some ⟨oc_p_ways, od_p_ways, .func (PySem.W.fnOf "ways" "ways" (defArgs p_ways) (defBody p_ways) (defScope p_ways) .none kV_p_ways dc_p_ways pm_p_ways an_p_ways cd_p_ways ct_p_ways), sl_p_ways⟩)
    (c_p_ways : PySem.W.codeIn K cd_p_ways "ways" = true)
    (k_p_ways : PySem.W.keepIn K (.ref f_p_ways) = true)
    (a_p_ways_at : PySem.W.nsIn K mainGlobals "ways_at" = some (some (.ref f_p_ways_at)))
    (l_p_ways_at : K.lookup f_p_ways_at = some ⟨oc_p_ways_at, od_p_ways_at, .func (PySem.W.fnOf "ways_at" "ways_at" (defArgs p_ways_at) (defBody p_ways_at) (defScope p_ways_at) .none kV_p_ways_at dc_p_ways_at pm_p_ways_at an_p_ways_at cd_p_ways_at ct_p_ways_at), sl_p_ways_at⟩)
    (c_p_ways_at : PySem.W.codeIn K cd_p_ways_at "ways_at" = true)
    (k_p_ways_at : PySem.W.keepIn K (.ref f_p_ways_at) = true)
    (a_p_nodes_behind : PySem.W.nsIn K mainGlobals "nodes_behind" = some (some (.ref f_p_nodes_behind)))
    (l_p_nodes_behind : K.lookup f_p_nodes_behind = some ⟨oc_p_nodes_behind, od_p_nodes_behind, .func (PySem.W.fnOf "nodes_behind" "nodes_behind" (defArgs p_nodes_behind) (defBody p_nodes_behind) (defScope p_nodes_behind) .none kV_p_nodes_behind dc_p_nodes_behind pm_p_nodes_behind an_p_nodes_behind cd_p_nodes_behind ct_p_nodes_behind), sl_p_nodes_behind⟩)
    (c_p_nodes_behind : PySem.W.codeIn K cd_p_nodes_behind "nodes_behind" = true)
    (k_p_nodes_behind : PySem.W.keepIn K (.ref f_p_nodes_behind) = true)
    (a_p_starts : PySem.W.nsIn K mainGlobals "starts" = some (some (.ref f_p_starts)))
    (l_p_starts : K.lookup f_p_starts = some ⟨oc_p_starts, od_p_starts, .func (PySem.W.fnOf "starts" "starts" (defArgs p_starts) (defBody p_starts) (defScope p_starts) .none kV_p_starts dc_p_starts pm_p_starts an_p_starts cd_p_starts ct_p_starts), sl_p_starts⟩)
    (c_p_starts : PySem.W.codeIn K cd_p_starts "starts" = true)
    (k_p_starts : PySem.W.keepIn K (.ref f_p_starts) = true)
    (a_p_breaks : PySem.W.nsIn K mainGlobals "breaks" = some (some (.ref f_p_breaks)))
    (l_p_breaks : K.lookup f_p_breaks = some ⟨oc_p_breaks, od_p_breaks, .func (PySem.W.fnOf "breaks" "breaks" (defArgs p_breaks) (defBody p_breaks) (defScope p_breaks) .none kV_p_breaks dc_p_breaks pm_p_breaks an_p_breaks cd_p_breaks ct_p_breaks), sl_p_breaks⟩)
    (c_p_breaks : PySem.W.codeIn K cd_p_breaks "breaks" = true)
    (k_p_breaks : PySem.W.keepIn K (.ref f_p_breaks) = true)
    (a_p_posts_passed : PySem.W.nsIn K mainGlobals "posts_passed" = some (some (.ref f_p_posts_passed)))
    (l_p_posts_passed : K.lookup f_p_posts_passed = some ⟨oc_p_posts_passed, od_p_posts_passed, .func (PySem.W.fnOf "posts_passed" "posts_passed" (defArgs p_posts_passed) (defBody p_posts_passed) (defScope p_posts_passed) .none kV_p_posts_passed dc_p_posts_passed pm_p_posts_passed an_p_posts_passed cd_p_posts_passed ct_p_posts_passed), sl_p_posts_passed⟩)
    (c_p_posts_passed : PySem.W.codeIn K cd_p_posts_passed "posts_passed" = true)
    (k_p_posts_passed : PySem.W.keepIn K (.ref f_p_posts_passed) = true)
    (a_p_passed_with : PySem.W.nsIn K mainGlobals "passed_with" = some (some (.ref f_p_passed_with)))
    (l_p_passed_with : K.lookup f_p_passed_with = some ⟨oc_p_passed_with, od_p_passed_with, .func (PySem.W.fnOf "passed_with" "passed_with" (defArgs p_passed_with) (defBody p_passed_with) (defScope p_passed_with) .none kV_p_passed_with dc_p_passed_with pm_p_passed_with an_p_passed_with cd_p_passed_with ct_p_passed_with), sl_p_passed_with⟩)
    (c_p_passed_with : PySem.W.codeIn K cd_p_passed_with "passed_with" = true)
    (k_p_passed_with : PySem.W.keepIn K (.ref f_p_passed_with) = true)
    (a_p_check_wish : PySem.W.nsIn K mainGlobals "check_wish" = some (some (.ref f_p_check_wish)))
    (l_p_check_wish : K.lookup f_p_check_wish = some ⟨oc_p_check_wish, od_p_check_wish, .func (PySem.W.fnOf "check_wish" "check_wish" (defArgs p_check_wish) (defBody p_check_wish) (defScope p_check_wish) .none kV_p_check_wish dc_p_check_wish pm_p_check_wish an_p_check_wish cd_p_check_wish ct_p_check_wish), sl_p_check_wish⟩)
    (c_p_check_wish : PySem.W.codeIn K cd_p_check_wish "check_wish" = true)
    (k_p_check_wish : PySem.W.keepIn K (.ref f_p_check_wish) = true)
    (a_p_is_fault : PySem.W.nsIn K mainGlobals "is_fault" = some (some (.ref f_p_is_fault)))
    (l_p_is_fault : K.lookup f_p_is_fault = some ⟨oc_p_is_fault, od_p_is_fault, .func (PySem.W.fnOf "is_fault" "is_fault" (defArgs p_is_fault) (defBody p_is_fault) (defScope p_is_fault) .none kV_p_is_fault dc_p_is_fault pm_p_is_fault an_p_is_fault cd_p_is_fault ct_p_is_fault), sl_p_is_fault⟩)
    (c_p_is_fault : PySem.W.codeIn K cd_p_is_fault "is_fault" = true)
    (k_p_is_fault : PySem.W.keepIn K (.ref f_p_is_fault) = true)
    (a_p_fits : PySem.W.nsIn K mainGlobals "fits" = some (some (.ref f_p_fits)))
    (l_p_fits : K.lookup f_p_fits = some ⟨oc_p_fits, od_p_fits, .func (PySem.W.fnOf "fits" "fits" (defArgs p_fits) (defBody p_fits) (defScope p_fits) .none kV_p_fits dc_p_fits pm_p_fits an_p_fits cd_p_fits ct_p_fits), sl_p_fits⟩)
    (c_p_fits : PySem.W.codeIn K cd_p_fits "fits" = true)
    (k_p_fits : PySem.W.keepIn K (.ref f_p_fits) = true)
    (a_p_is_paper : PySem.W.nsIn K mainGlobals "is_paper" = some (some (.ref f_p_is_paper)))
    (l_p_is_paper : K.lookup f_p_is_paper = some ⟨oc_p_is_paper, od_p_is_paper, .func (PySem.W.fnOf "is_paper" "is_paper" (defArgs p_is_paper) (defBody p_is_paper) (defScope p_is_paper) .none kV_p_is_paper dc_p_is_paper pm_p_is_paper an_p_is_paper cd_p_is_paper ct_p_is_paper), sl_p_is_paper⟩)
    (c_p_is_paper : PySem.W.codeIn K cd_p_is_paper "is_paper" = true)
    (k_p_is_paper : PySem.W.keepIn K (.ref f_p_is_paper) = true)
    (a_p_are_papers : PySem.W.nsIn K mainGlobals "are_papers" = some (some (.ref f_p_are_papers)))
    (l_p_are_papers : K.lookup f_p_are_papers = some ⟨oc_p_are_papers, od_p_are_papers, .func (PySem.W.fnOf "are_papers" "are_papers" (defArgs p_are_papers) (defBody p_are_papers) (defScope p_are_papers) .none kV_p_are_papers dc_p_are_papers pm_p_are_papers an_p_are_papers cd_p_are_papers ct_p_are_papers), sl_p_are_papers⟩)
    (c_p_are_papers : PySem.W.codeIn K cd_p_are_papers "are_papers" = true)
    (k_p_are_papers : PySem.W.keepIn K (.ref f_p_are_papers) = true)
    (a_p_is_shown : PySem.W.nsIn K mainGlobals "is_shown" = some (some (.ref f_p_is_shown)))
    (l_p_is_shown : K.lookup f_p_is_shown = some ⟨oc_p_is_shown, od_p_is_shown, .func (PySem.W.fnOf "is_shown" "is_shown" (defArgs p_is_shown) (defBody p_is_shown) (defScope p_is_shown) .none kV_p_is_shown dc_p_is_shown pm_p_is_shown an_p_is_shown cd_p_is_shown ct_p_is_shown), sl_p_is_shown⟩)
    (c_p_is_shown : PySem.W.codeIn K cd_p_is_shown "is_shown" = true)
    (k_p_is_shown : PySem.W.keepIn K (.ref f_p_is_shown) = true)
    (a_g_tables : PySem.W.findIn K (.ref C) "tables" = some (some (.ref p_g_tables)))
    (ge_g_tables : PySem.W.specialIn K (.ref p_g_tables) "__get__" = some (some (.builtin "property.__get__")))
    (ta_g_tables : PySem.W.takesIn K (.ref p_g_tables) = some true)
    (re_g_tables : PySem.W.recIn K p_g_tables "property" = some (.ref f_g_tables :: r_g_tables))
    (l_g_tables : K.lookup f_g_tables = some ⟨oc_g_tables, od_g_tables, .func (PySem.W.fnOf "tables" "Net.tables" (defArgs c_Net_tables) (defBody c_Net_tables) (defScope c_Net_tables) .none kV_g_tables dc_g_tables pm_g_tables an_g_tables cd_g_tables ct_g_tables), sl_g_tables⟩)
    (c_g_tables : PySem.W.codeIn K cd_g_tables "Net.tables" = true)
    (k_g_tables : PySem.W.keepIn K (.ref f_g_tables) = true)
    (a_g_sources : PySem.W.findIn K (.ref C) "sources" = some (some (.ref p_g_sources)))
    (ge_g_sources : PySem.W.specialIn K (.ref p_g_sources) "__get__" = some (some (.builtin "property.__get__")))
    (ta_g_sources : PySem.W.takesIn K (.ref p_g_sources) = some true)
    (re_g_sources : PySem.W.recIn K p_g_sources "property" = some (.ref f_g_sources :: r_g_sources))
    (l_g_sources : K.lookup f_g_sources = some ⟨oc_g_sources, od_g_sources, .func (PySem.W.fnOf "sources" "Net.sources" (defArgs c_Net_sources) (defBody c_Net_sources) (defScope c_Net_sources) .none kV_g_sources dc_g_sources pm_g_sources an_g_sources cd_g_sources ct_g_sources), sl_g_sources⟩)
    (c_g_sources : PySem.W.codeIn K cd_g_sources "Net.sources" = true)
    (k_g_sources : PySem.W.keepIn K (.ref f_g_sources) = true)
    (a_g_posts : PySem.W.findIn K (.ref C) "posts" = some (some (.ref p_g_posts)))
    (ge_g_posts : PySem.W.specialIn K (.ref p_g_posts) "__get__" = some (some (.builtin "property.__get__")))
    (ta_g_posts : PySem.W.takesIn K (.ref p_g_posts) = some true)
    (re_g_posts : PySem.W.recIn K p_g_posts "property" = some (.ref f_g_posts :: r_g_posts))
    (l_g_posts : K.lookup f_g_posts = some ⟨oc_g_posts, od_g_posts, .func (PySem.W.fnOf "posts" "Net.posts" (defArgs c_Net_posts) (defBody c_Net_posts) (defScope c_Net_posts) .none kV_g_posts dc_g_posts pm_g_posts an_g_posts cd_g_posts ct_g_posts), sl_g_posts⟩)
    (c_g_posts : PySem.W.codeIn K cd_g_posts "Net.posts" = true)
    (k_g_posts : PySem.W.keepIn K (.ref f_g_posts) = true)
    (a_law : PySem.W.nsIn K mainGlobals "law" = some (some (.ref f_law)))
    (l_law : K.lookup f_law = some ⟨oc_law, od_law, .func (PySem.W.fnOf "law" "law" (defArgs s_law) (defBody s_law) (defScope s_law) .none kV_law dc_law pm_law an_law cd_law ct_law), sl_law⟩)
    (c_law : PySem.W.codeIn K cd_law "law" = true)
    (k_law : PySem.W.keepIn K (.ref f_law) = true)
    (aI : PySem.W.findIn K (.ref C) "__init__" = some (some (.ref fI)))
    (iI : PySem.W.isFn K (.ref fI) = true)
    (lI : K.lookup fI = some ⟨ocI, odI, .func (PySem.W.fnOf "__init__" "Net.__init__" (defArgs c_Net_init) (defBody c_Net_init) (defScope c_Net_init) (.ref TI) kVI dcI pmI anI cdI ctI), slI⟩)
    (cI : PySem.W.codeIn K cdI "Net.__init__" = true)
    (kI : PySem.W.keepIn K (.ref fI) = true)
    (lT : K.lookup TI = some ⟨ocT, odT, .seq [Value.ref q1, Value.ref q2].toArray nT, slT⟩)
    (pg : PySem.W.plainGet K C Str.empty = true)
    (hd : PySem.W.hasDictIn K C = true)
    (po : PySem.W.plainOver K C = true)
    (sa : PySem.W.findIn K (.ref C) "__setattr__" = some (some (.builtin "object.__setattr__")))
    (mk : PySem.W.makesIn K C = true)
    (kc : PySem.W.keepIn K (.ref C) = true)
    (nT_ : PySem.W.findIn K (.ref C) "_tables" = some none)
    (nN_ : PySem.W.findIn K (.ref C) "_nodes" = some none)
    (nS_ : PySem.W.findIn K (.ref C) "_sources" = some none)
    (nP_ : PySem.W.findIn K (.ref C) "_posts" = some none)
    (ha : PySem.W.findIn K (.ref C) "__class__" = some (some (.builtin "object.__class__")))
    (hn : PySem.W.specialIn K (.builtin "object.__class__") "__get__" = some (some (.builtin "getset_descriptor.__get__")))
    (hk : PySem.W.takesIn K (.builtin "object.__class__") = some true)
    (hm : PySem.W.mroIn K C (.type "object") = some true)
    (v_MOST_POSTS : PySem.W.nsIn K mainGlobals "MOST_POSTS" = some (some (.int 2 t_MOST_POSTS)))
    (v_MOST_NODES : PySem.W.nsIn K mainGlobals "MOST_NODES" = some (some (.int 6 t_MOST_NODES)))
    (v_MOST_GOALS : PySem.W.nsIn K mainGlobals "MOST_GOALS" = some (some (.int 2 t_MOST_GOALS)))
    (v_MOST_LETTERS : PySem.W.nsIn K mainGlobals "MOST_LETTERS" = some (some (.int 6 t_MOST_LETTERS)))
    (v_WISHES : PySem.W.nsIn K mainGlobals "WISHES" = some (some (.ref Wa)))
    (lW : K.lookup Wa = some ⟨.type "tuple", odW, .seq [Value.str "home" tw1, .str "lost" tw2, .str "posts" tw3, .str "rings" tw4].toArray nW, slW⟩)
    (z_int : PySem.W.nsIn K mainGlobals "int" = some none)
    (z_len : PySem.W.nsIn K mainGlobals "len" = some none)
    (z_abs : PySem.W.nsIn K mainGlobals "abs" = some none)
    (z_list : PySem.W.nsIn K mainGlobals "list" = some none)
    (z_dict : PySem.W.nsIn K mainGlobals "dict" = some none)
    (z_sorted : PySem.W.nsIn K mainGlobals "sorted" = some none)
    (z_range : PySem.W.nsIn K mainGlobals "range" = some none)
    (z_isinstance : PySem.W.nsIn K mainGlobals "isinstance" = some none)
    (z_str : PySem.W.nsIn K mainGlobals "str" = some none)
    (z_tuple : PySem.W.nsIn K mainGlobals "tuple" = some none)
    (z_all : PySem.W.nsIn K mainGlobals "all" = some none)
    (z_any : PySem.W.nsIn K mainGlobals "any" = some none)
    (z_set : PySem.W.nsIn K mainGlobals "set" = some none)
    (z_enumerate : PySem.W.nsIn K mainGlobals "enumerate" = some none)
    (z_min : PySem.W.nsIn K mainGlobals "min" = some none)
    (z_repr : PySem.W.nsIn K mainGlobals "repr" = some none)
    (z_max : PySem.W.nsIn K mainGlobals "max" = some none)
    (z_bool : PySem.W.nsIn K mainGlobals "bool" = some none)
    : ∃ fd : FuncData, (∀ (s : Shared) (v : Value), BindsTo s fd ⟨[v], []⟩ [("script", v)]) ∧ ∀ base : Heap, K.In base → base.Ns mainGlobals mg → FnG P w K mg base CX0 10 fa fd ["script"] (spLaw K) := by
  have e := hfa.symm.trans (PySem.W.mg_of X G a_law)
  cases e
  have T : NetTxt K C := ⟨⟨pg, hd, po, sa⟩, nT_, nN_, nS_, nP_⟩
  have Is : NetIsi K C := ⟨ha, hn, hk, hm, if_pos (beq_self_eq_true _)⟩
  have mNet := PySem.W.mg_of X G aC
  have F_s_begin := fun_mk (st := s_begin) l_s_begin c_s_begin k_s_begin
  have b_s_begin := F_s_begin.binds (ps := ["script"]) fun _ _ _ _ _ _ us hl => match us, hl with | [_], _ => rfl
  have g_s_begin := PySem.W.mg_of X G a_s_begin
  have F_s_blend := fun_mk (st := s_blend) l_s_blend c_s_blend k_s_blend
  have b_s_blend := F_s_blend.binds (ps := ["draw"]) fun _ _ _ _ _ _ us hl => match us, hl with | [_], _ => rfl
  have g_s_blend := PySem.W.mg_of X G a_s_blend
  have F_s_take := fun_mk (st := s_take) l_s_take c_s_take k_s_take
  have b_s_take := F_s_take.binds (ps := ["draw", "size"]) fun _ _ _ _ _ _ us hl => match us, hl with | [_, _], _ => rfl
  have g_s_take := PySem.W.mg_of X G a_s_take
  have F_s_pick := fun_mk (st := s_pick) l_s_pick c_s_pick k_s_pick
  have b_s_pick := F_s_pick.binds (ps := ["draw", "some"]) fun _ _ _ _ _ _ us hl => match us, hl with | [_, _], _ => rfl
  have g_s_pick := PySem.W.mg_of X G a_s_pick
  have F_s_mixed := fun_mk (st := s_mixed) l_s_mixed c_s_mixed k_s_mixed
  have b_s_mixed := F_s_mixed.binds (ps := ["draw", "some"]) fun _ _ _ _ _ _ us hl => match us, hl with | [_, _], _ => rfl
  have g_s_mixed := PySem.W.mg_of X G a_s_mixed
  have F_s_names := fun_mk (st := s_names) l_s_names c_s_names k_s_names
  have b_s_names := F_s_names.binds (ps := ["draw", "size"]) fun _ _ _ _ _ _ us hl => match us, hl with | [_, _], _ => rfl
  have g_s_names := PySem.W.mg_of X G a_s_names
  have F_s_made := fun_mk (st := s_made) l_s_made c_s_made k_s_made
  have b_s_made := F_s_made.binds (ps := ["model"]) fun _ _ _ _ _ _ us hl => match us, hl with | [_], _ => rfl
  have g_s_made := PySem.W.mg_of X G a_s_made
  have F_t_table := fun_mk (st := s_table) l_t_table c_t_table k_t_table
  have b_t_table := F_t_table.binds (ps := ["draw", "nodes", "target", "way"]) fun _ _ _ _ _ _ us hl => match us, hl with | [_, _, _, _], _ => rfl
  have g_t_table := PySem.W.mg_of X G a_t_table
  have F_t_model := fun_mk (st := s_model) l_t_model c_t_model k_t_model
  have b_t_model := F_t_model.binds (ps := ["draw", "many"]) fun _ _ _ _ _ _ us hl => match us, hl with | [_, _], _ => rfl
  have g_t_model := PySem.W.mg_of X G a_t_model
  have F_t_moved := fun_mk (st := s_moved) l_t_moved c_t_moved k_t_moved
  have b_t_moved := F_t_moved.binds (ps := ["model"]) fun _ _ _ _ _ _ us hl => match us, hl with | [_], _ => rfl
  have g_t_moved := PySem.W.mg_of X G a_t_moved
  have F_t_some := fun_mk (st := s_some) l_t_some c_t_some k_t_some
  have b_t_some := F_t_some.binds (ps := ["draw", "names"]) fun _ _ _ _ _ _ us hl => match us, hl with | [_, _], _ => rfl
  have g_t_some := PySem.W.mg_of X G a_t_some
  have F_t_rest := fun_mk (st := s_rest) l_t_rest c_t_rest k_t_rest
  have b_t_rest := F_t_rest.binds (ps := ["model", "done"]) fun _ _ _ _ _ _ us hl => match us, hl with | [_, _], _ => rfl
  have g_t_rest := PySem.W.mg_of X G a_t_rest
  have F_t_parts := fun_mk (st := s_parts) l_t_parts c_t_parts k_t_parts
  have b_t_parts := F_t_parts.binds (ps := ["some"]) fun _ _ _ _ _ _ us hl => match us, hl with | [_], _ => rfl
  have g_t_parts := PySem.W.mg_of X G a_t_parts
  have F_t_row := fun_mk (st := s_row) l_t_row c_t_row k_t_row
  have b_t_row := F_t_row.binds (ps := ["model", "turned", "target", "node"]) fun _ _ _ _ _ _ us hl => match us, hl with | [_, _, _, _], _ => rfl
  have g_t_row := PySem.W.mg_of X G a_t_row
  have F_t_is_passed := fun_mk (st := s_is_passed) l_t_is_passed c_t_is_passed k_t_is_passed
  have b_t_is_passed := F_t_is_passed.binds (ps := ["model", "row"]) fun _ _ _ _ _ _ us hl => match us, hl with | [_, _], _ => rfl
  have g_t_is_passed := PySem.W.mg_of X G a_t_is_passed
  have F_t_is_bad := fun_mk (st := s_is_bad) l_t_is_bad c_t_is_bad k_t_is_bad
  have b_t_is_bad := F_t_is_bad.binds (ps := ["model", "target", "row", "word"]) fun _ _ _ _ _ _ us hl => match us, hl with | [_, _, _, _], _ => rfl
  have g_t_is_bad := PySem.W.mg_of X G a_t_is_bad
  have F_t_web := fun_mk (st := s_web) l_t_web c_t_web k_t_web
  have b_t_web := F_t_web.binds (ps := ["model", "done", "fresh", "target"]) fun _ _ _ _ _ _ us hl => match us, hl with | [_, _, _, _], _ => rfl
  have g_t_web := PySem.W.mg_of X G a_t_web
  have F_t_next := fun_mk (st := s_next) l_t_next c_t_next k_t_next
  have b_t_next := F_t_next.binds (ps := ["model", "count", "place"]) fun _ _ _ _ _ _ us hl => match us, hl with | [_, _, _], _ => rfl
  have g_t_next := PySem.W.mg_of X G a_t_next
  have F_t_is_count := fun_mk (st := s_is_count) l_t_is_count c_t_is_count k_t_is_count
  have b_t_is_count := F_t_is_count.binds (ps := ["thing"]) fun _ _ _ _ _ _ us hl => match us, hl with | [_], _ => rfl
  have g_t_is_count := PySem.W.mg_of X G a_t_is_count
  have F_t_is_paper := fun_mk (st := s_is_paper) l_t_is_paper c_t_is_paper k_t_is_paper
  have b_t_is_paper := F_t_is_paper.binds (ps := ["model", "web", "target", "word", "matter"]) fun _ _ _ _ _ _ us hl => match us, hl with | [_, _, _, _, _], _ => rfl
  have g_t_is_paper := PySem.W.mg_of X G a_t_is_paper
  have F_t_is_moment := fun_mk (st := s_is_moment) l_t_is_moment c_t_is_moment k_t_is_moment
  have b_t_is_moment := F_t_is_moment.binds (ps := ["model", "done", "fresh", "word", "matter"]) fun _ _ _ _ _ _ us hl => match us, hl with | [_, _, _, _, _], _ => rfl
  have g_t_is_moment := PySem.W.mg_of X G a_t_is_moment
  have F_t_is_shown := fun_mk (st := s_is_shown) l_t_is_shown c_t_is_shown k_t_is_shown
  have b_t_is_shown := F_t_is_shown.binds (ps := ["model", "done", "fresh", "word", "matter"]) fun _ _ _ _ _ _ us hl => match us, hl with | [_, _, _, _, _], _ => rfl
  have g_t_is_shown := PySem.W.mg_of X G a_t_is_shown
  have F_t_ranks := fun_mk (st := s_ranks) l_t_ranks c_t_ranks k_t_ranks
  have b_t_ranks := F_t_ranks.binds (ps := ["web"]) fun _ _ _ _ _ _ us hl => match us, hl with | [_], _ => rfl
  have g_t_ranks := PySem.W.mg_of X G a_t_ranks
  have F_t_near := fun_mk (st := s_near) l_t_near c_t_near k_t_near
  have b_t_near := F_t_near.binds (ps := ["web", "starts_v"]) fun _ _ _ _ _ _ us hl => match us, hl with | [_, _], _ => rfl
  have g_t_near := PySem.W.mg_of X G a_t_near
  have F_t_least := fun_mk (st := s_least) l_t_least c_t_least k_t_least
  have b_t_least := F_t_least.binds (ps := ["model", "web"]) fun _ _ _ _ _ _ us hl => match us, hl with | [_, _], _ => rfl
  have g_t_least := PySem.W.mg_of X G a_t_least
  have F_t_own_paper := fun_mk (st := s_own_paper) l_t_own_paper c_t_own_paper k_t_own_paper
  have b_t_own_paper := F_t_own_paper.binds (ps := ["model", "web", "word"]) fun _ _ _ _ _ _ us hl => match us, hl with | [_, _, _], _ => rfl
  have g_t_own_paper := PySem.W.mg_of X G a_t_own_paper
  have F_t_greater := fun_mk (st := s_greater) l_t_greater c_t_greater k_t_greater
  have b_t_greater := F_t_greater.binds (ps := ["draw", "model", "papers", "word"]) fun _ _ _ _ _ _ us hl => match us, hl with | [_, _, _, _], _ => rfl
  have g_t_greater := PySem.W.mg_of X G a_t_greater
  have F_t_moments := fun_mk (st := s_moments) l_t_moments c_t_moments k_t_moments
  have b_t_moments := F_t_moments.binds (ps := ["model", "fresh", "word"]) fun _ _ _ _ _ _ us hl => match us, hl with | [_, _, _], _ => rfl
  have g_t_moments := PySem.W.mg_of X G a_t_moments
  have F_p_is_list := fun_mk (st := p_is_list) l_p_is_list c_p_is_list k_p_is_list
  have b_p_is_list := F_p_is_list.binds (ps := ["value"]) fun _ _ _ _ _ _ us hl => match us, hl with | [_], _ => rfl
  have g_p_is_list := PySem.W.mg_of X G a_p_is_list
  have F_p_is_name := fun_mk (st := p_is_name) l_p_is_name c_p_is_name k_p_is_name
  have b_p_is_name := F_p_is_name.binds (ps := ["value"]) fun _ _ _ _ _ _ us hl => match us, hl with | [_], _ => rfl
  have g_p_is_name := PySem.W.mg_of X G a_p_is_name
  have F_p_is_place := fun_mk (st := p_is_place) l_p_is_place c_p_is_place k_p_is_place
  have b_p_is_place := F_p_is_place.binds (ps := ["value", "node", "nodes", "goal"]) fun _ _ _ _ _ _ us hl => match us, hl with | [_, _, _, _], _ => rfl
  have g_p_is_place := PySem.W.mg_of X G a_p_is_place
  have F_p_is_table := fun_mk (st := p_is_table) l_p_is_table c_p_is_table k_p_is_table
  have b_p_is_table := F_p_is_table.binds (ps := ["table", "nodes", "goal"]) fun _ _ _ _ _ _ us hl => match us, hl with | [_, _, _], _ => rfl
  have g_p_is_table := PySem.W.mg_of X G a_p_is_table
  have F_p_are_different := fun_mk (st := p_are_different) l_p_are_different c_p_are_different k_p_are_different
  have b_p_are_different := F_p_are_different.binds (ps := ["value", "nodes"]) fun _ _ _ _ _ _ us hl => match us, hl with | [_, _], _ => rfl
  have g_p_are_different := PySem.W.mg_of X G a_p_are_different
  have F_p_are_nodes := fun_mk (st := p_are_nodes) l_p_are_nodes c_p_are_nodes k_p_are_nodes
  have b_p_are_nodes := F_p_are_nodes.binds (ps := ["names", "goals"]) fun _ _ _ _ _ _ us hl => match us, hl with | [_, _], _ => rfl
  have g_p_are_nodes := PySem.W.mg_of X G a_p_are_nodes
  have F_p_is_pair_of_dicts := fun_mk (st := p_is_pair_of_dicts) l_p_is_pair_of_dicts c_p_is_pair_of_dicts k_p_is_pair_of_dicts
  have b_p_is_pair_of_dicts := F_p_is_pair_of_dicts.binds (ps := ["value"]) fun _ _ _ _ _ _ us hl => match us, hl with | [_], _ => rfl
  have g_p_is_pair_of_dicts := PySem.W.mg_of X G a_p_is_pair_of_dicts
  have F_p_are_tables := fun_mk (st := p_are_tables) l_p_are_tables c_p_are_tables k_p_are_tables
  have b_p_are_tables := F_p_are_tables.binds (ps := ["value"]) fun _ _ _ _ _ _ us hl => match us, hl with | [_], _ => rfl
  have g_p_are_tables := PySem.W.mg_of X G a_p_are_tables
  have F_p_check_net := fun_mk (st := p_check_net) l_p_check_net c_p_check_net k_p_check_net
  have b_p_check_net := F_p_check_net.binds (ps := ["net"]) fun _ _ _ _ _ _ us hl => match us, hl with | [_], _ => rfl
  have g_p_check_net := PySem.W.mg_of X G a_p_check_net
  have F_p_check_goal := fun_mk (st := p_check_goal) l_p_check_goal c_p_check_goal k_p_check_goal
  have b_p_check_goal := F_p_check_goal.binds (ps := ["net", "goal"]) fun _ _ _ _ _ _ us hl => match us, hl with | [_, _], _ => rfl
  have g_p_check_goal := PySem.W.mg_of X G a_p_check_goal
  have F_p_check_lot := fun_mk (st := p_check_lot) l_p_check_lot c_p_check_lot k_p_check_lot
  have b_p_check_lot := F_p_check_lot.binds (ps := ["net", "lot", "part"]) fun _ _ _ _ _ _ us hl => match us, hl with | [_, _, _], _ => rfl
  have g_p_check_lot := PySem.W.mg_of X G a_p_check_lot
  have F_p_check_round := fun_mk (st := p_check_round) l_p_check_round c_p_check_round k_p_check_round
  have b_p_check_round := F_p_check_round.binds (ps := ["net", "done", "lot", "part"]) fun _ _ _ _ _ _ us hl => match us, hl with | [_, _, _, _], _ => rfl
  have g_p_check_round := PySem.W.mg_of X G a_p_check_round
  have F_p_is_lot_of := fun_mk (st := p_is_lot_of) l_p_is_lot_of c_p_is_lot_of k_p_is_lot_of
  have b_p_is_lot_of := F_p_is_lot_of.binds (ps := ["value", "nodes"]) fun _ _ _ _ _ _ us hl => match us, hl with | [_, _], _ => rfl
  have g_p_is_lot_of := PySem.W.mg_of X G a_p_is_lot_of
  have F_g_goals := fun_mk (st := c_Net_goals) l_g_goals c_g_goals k_g_goals
  have b_g_goals := F_g_goals.binds (ps := ["self"]) fun _ _ _ _ _ _ us hl => match us, hl with | [_], _ => rfl
  have F_g_nodes := fun_mk (st := c_Net_nodes) l_g_nodes c_g_nodes k_g_nodes
  have b_g_nodes := F_g_nodes.binds (ps := ["self"]) fun _ _ _ _ _ _ us hl => match us, hl with | [_], _ => rfl
  have F_g_changing := fun_mk (st := c_Net_changing) l_g_changing c_g_changing k_g_changing
  have b_g_changing := F_g_changing.binds (ps := ["self"]) fun _ _ _ _ _ _ us hl => match us, hl with | [_], _ => rfl
  have F_p_is_number := fun_mk (st := p_is_number) l_p_is_number c_p_is_number k_p_is_number
  have b_p_is_number := F_p_is_number.binds (ps := ["value"]) fun _ _ _ _ _ _ us hl => match us, hl with | [_], _ => rfl
  have g_p_is_number := PySem.W.mg_of X G a_p_is_number
  have F_p_is_count := fun_mk (st := p_is_count) l_p_is_count c_p_is_count k_p_is_count
  have b_p_is_count := F_p_is_count.binds (ps := ["value"]) fun _ _ _ _ _ _ us hl => match us, hl with | [_], _ => rfl
  have g_p_is_count := PySem.W.mg_of X G a_p_is_count
  have F_p_followed := fun_mk (st := p_followed) l_p_followed c_p_followed k_p_followed
  have b_p_followed := F_p_followed.binds (ps := ["table", "node"]) fun _ _ _ _ _ _ us hl => match us, hl with | [_, _], _ => rfl
  have g_p_followed := PySem.W.mg_of X G a_p_followed
  have F_p_ways := fun_mk (st := p_ways) l_p_ways c_p_ways k_p_ways
  have b_p_ways := F_p_ways.binds (ps := ["net", "done", "lot", "goal"]) fun _ _ _ _ _ _ us hl => match us, hl with | [_, _, _, _], _ => rfl
  have g_p_ways := PySem.W.mg_of X G a_p_ways
  have F_p_ways_at := fun_mk (st := p_ways_at) l_p_ways_at c_p_ways_at k_p_ways_at
  have b_p_ways_at := F_p_ways_at.binds (ps := ["net", "done", "changed", "goal"]) fun _ _ _ _ _ _ us hl => match us, hl with | [_, _, _, _], _ => rfl
  have g_p_ways_at := PySem.W.mg_of X G a_p_ways_at
  have F_p_nodes_behind := fun_mk (st := p_nodes_behind) l_p_nodes_behind c_p_nodes_behind k_p_nodes_behind
  have b_p_nodes_behind := F_p_nodes_behind.binds (ps := ["mixture", "node"]) fun _ _ _ _ _ _ us hl => match us, hl with | [_, _], _ => rfl
  have g_p_nodes_behind := PySem.W.mg_of X G a_p_nodes_behind
  have F_p_starts := fun_mk (st := p_starts) l_p_starts c_p_starts k_p_starts
  have b_p_starts := F_p_starts.binds (ps := ["net", "wish"]) fun _ _ _ _ _ _ us hl => match us, hl with | [_, _], _ => rfl
  have g_p_starts := PySem.W.mg_of X G a_p_starts
  have F_p_breaks := fun_mk (st := p_breaks) l_p_breaks c_p_breaks k_p_breaks
  have b_p_breaks := F_p_breaks.binds (ps := ["net", "wish", "goal", "places"]) fun _ _ _ _ _ _ us hl => match us, hl with | [_, _, _, _], _ => rfl
  have g_p_breaks := PySem.W.mg_of X G a_p_breaks
  have F_p_posts_passed := fun_mk (st := p_posts_passed) l_p_posts_passed c_p_posts_passed k_p_posts_passed
  have b_p_posts_passed := F_p_posts_passed.binds (ps := ["posts", "places"]) fun _ _ _ _ _ _ us hl => match us, hl with | [_, _], _ => rfl
  have g_p_posts_passed := PySem.W.mg_of X G a_p_posts_passed
  have F_p_passed_with := fun_mk (st := p_passed_with) l_p_passed_with c_p_passed_with k_p_passed_with
  have b_p_passed_with := F_p_passed_with.binds (ps := ["posts", "passed", "place"]) fun _ _ _ _ _ _ us hl => match us, hl with | [_, _, _], _ => rfl
  have g_p_passed_with := PySem.W.mg_of X G a_p_passed_with
  have F_p_check_wish := fun_mk (st := p_check_wish) l_p_check_wish c_p_check_wish k_p_check_wish
  have b_p_check_wish := F_p_check_wish.binds (ps := ["wish"]) fun _ _ _ _ _ _ us hl => match us, hl with | [_], _ => rfl
  have g_p_check_wish := PySem.W.mg_of X G a_p_check_wish
  have F_p_is_fault := fun_mk (st := p_is_fault) l_p_is_fault c_p_is_fault k_p_is_fault
  have b_p_is_fault := F_p_is_fault.binds (ps := ["net", "done", "lot", "wish", "value"]) fun _ _ _ _ _ _ us hl => match us, hl with | [_, _, _, _, _], _ => rfl
  have g_p_is_fault := PySem.W.mg_of X G a_p_is_fault
  have F_p_fits := fun_mk (st := p_fits) l_p_fits c_p_fits k_p_fits
  have b_p_fits := F_p_fits.binds (ps := ["net", "mixture", "wish", "goal", "paper", "node"]) fun _ _ _ _ _ _ us hl => match us, hl with | [_, _, _, _, _, _], _ => rfl
  have g_p_fits := PySem.W.mg_of X G a_p_fits
  have F_p_is_paper := fun_mk (st := p_is_paper) l_p_is_paper c_p_is_paper k_p_is_paper
  have b_p_is_paper := F_p_is_paper.binds (ps := ["net", "done", "lot", "wish", "goal", "value"]) fun _ _ _ _ _ _ us hl => match us, hl with | [_, _, _, _, _, _], _ => rfl
  have g_p_is_paper := PySem.W.mg_of X G a_p_is_paper
  have F_p_are_papers := fun_mk (st := p_are_papers) l_p_are_papers c_p_are_papers k_p_are_papers
  have b_p_are_papers := F_p_are_papers.binds (ps := ["net", "done", "lot", "wish", "value"]) fun _ _ _ _ _ _ us hl => match us, hl with | [_, _, _, _, _], _ => rfl
  have g_p_are_papers := PySem.W.mg_of X G a_p_are_papers
  have F_p_is_shown := fun_mk (st := p_is_shown) l_p_is_shown c_p_is_shown k_p_is_shown
  have b_p_is_shown := F_p_is_shown.binds (ps := ["net", "done", "lot", "wish", "thing"]) fun _ _ _ _ _ _ us hl => match us, hl with | [_, _, _, _, _], _ => rfl
  have g_p_is_shown := PySem.W.mg_of X G a_p_is_shown
  have F_g_tables := fun_mk (st := c_Net_tables) l_g_tables c_g_tables k_g_tables
  have b_g_tables := F_g_tables.binds (ps := ["self"]) fun _ _ _ _ _ _ us hl => match us, hl with | [_], _ => rfl
  have F_g_sources := fun_mk (st := c_Net_sources) l_g_sources c_g_sources k_g_sources
  have b_g_sources := F_g_sources.binds (ps := ["self"]) fun _ _ _ _ _ _ us hl => match us, hl with | [_], _ => rfl
  have F_g_posts := fun_mk (st := c_Net_posts) l_g_posts c_g_posts k_g_posts
  have b_g_posts := F_g_posts.binds (ps := ["self"]) fun _ _ _ _ _ _ us hl => match us, hl with | [_], _ => rfl
  have F_law := fun_mk (st := s_law) l_law c_law k_law
  have w_MOST_POSTS := PySem.W.mg_of X G v_MOST_POSTS
  have w_MOST_NODES := PySem.W.mg_of X G v_MOST_NODES
  have w_MOST_GOALS := PySem.W.mg_of X G v_MOST_GOALS
  have w_MOST_LETTERS := PySem.W.mg_of X G v_MOST_LETTERS
  have w_WISHES := PySem.W.mg_of X G v_WISHES
  have hW : ∀ H, SqT K H Wa (wishesL.map V.str) := fun H => .inr ⟨_, _, nW, lW, rfl, rfl, by show 4 ≤ sizeLine; decide, .cons ⟨_, rfl⟩ (.cons ⟨_, rfl⟩ (.cons ⟨_, rfl⟩ (.cons ⟨_, rfl⟩ .nil)))⟩
  have m_int := PySem.W.mg_none_of X G z_int
  have m_len := PySem.W.mg_none_of X G z_len
  have m_abs := PySem.W.mg_none_of X G z_abs
  have m_list := PySem.W.mg_none_of X G z_list
  have m_dict := PySem.W.mg_none_of X G z_dict
  have m_sorted := PySem.W.mg_none_of X G z_sorted
  have m_range := PySem.W.mg_none_of X G z_range
  have m_isinstance := PySem.W.mg_none_of X G z_isinstance
  have m_str := PySem.W.mg_none_of X G z_str
  have m_tuple := PySem.W.mg_none_of X G z_tuple
  have m_all := PySem.W.mg_none_of X G z_all
  have m_any := PySem.W.mg_none_of X G z_any
  have m_set := PySem.W.mg_none_of X G z_set
  have m_enumerate := PySem.W.mg_none_of X G z_enumerate
  have m_min := PySem.W.mg_none_of X G z_min
  have m_repr := PySem.W.mg_none_of X G z_repr
  have m_max := PySem.W.mg_none_of X G z_max
  have m_bool := PySem.W.mg_none_of X G z_bool
  have FI : FunD K "__init__" "Net.__init__" (defArgs c_Net_init) (defBody c_Net_init) (defScope c_Net_init) [.ref q1, .ref q2] [] fI (PySem.W.fnOf "__init__" "Net.__init__" (defArgs c_Net_init) (defBody c_Net_init) (defScope c_Net_init) (.ref TI) kVI dcI pmI anI cdI ctI) := ⟨⟨ocI, odI, .ref TI, kVI, dcI, pmI, anI, cdI, ctI, slI, rfl, lI, cI, .inr ⟨by simp, TI, _, [.ref q1, .ref q2], nT, rfl, lT, rfl, .cons rfl (.cons rfl .nil)⟩, .inl rfl⟩, kI⟩
  have bI : Binds K (PySem.W.fnOf "__init__" "Net.__init__" (defArgs c_Net_init) (defBody c_Net_init) (defScope c_Net_init) (.ref TI) kVI dcI pmI anI cdI ctI) ["self", "tables", "sources", "posts"] [] := by
    obtain ⟨ds, r, b⟩ := FI.binds1 (ps := ["self", "tables", "sources", "posts"]) 4 2 (by simp) rfl (fun TT kV doc pm an cdv ct us its l1 l2 => match us, l1, its, l2 with | [a, b, c, d], _, [i1, i2], _ => ⟨_, rfl, rfl⟩)
    cases r
    exact b
  refine ⟨_, fun s v => .of_eq (show bindArgs (PySem.W.fnOf "law" "law" (defArgs s_law) (defBody s_law) (defScope s_law) .none kV_law dc_law pm_law an_law cd_law ct_law) ⟨[v], []⟩ = _ from rfl), fun base _ _ => ?_⟩
  have O_s_take := ok_take (P := P) (w := w) (mg := mg) (base := base) F_s_take F_s_blend b_s_blend g_s_blend m_int
  have O_s_pick := ok_pickL (P := P) (w := w) (mg := mg) (base := base) F_s_pick O_s_take k_s_take b_s_take g_s_take m_len
  have O_S_pick := ok_pickS (P := P) (w := w) (mg := mg) (base := base) F_s_pick O_s_take k_s_take b_s_take g_s_take m_len
  have O_s_mixed := ok_mixed (P := P) (w := w) (mg := mg) (base := base) F_s_mixed O_s_take k_s_take b_s_take g_s_take m_len m_list
  have O_s_begin := ok_begin (P := P) (w := w) (mg := mg) (base := base) F_s_begin m_abs
  have O_p_is_list := ok_is_list (P := P) (w := w) (mg := mg) (base := base) F_p_is_list m_isinstance m_list m_tuple
  have O_p_is_name := ok_is_name (P := P) (w := w) (mg := mg) (base := base) F_p_is_name m_isinstance m_str m_len m_all w_MOST_LETTERS
  have O_p_is_place := ok_is_place (P := P) (w := w) (mg := mg) (base := base) F_p_is_place
  have O_p_is_table := ok_is_table (P := P) (w := w) (mg := mg) (base := base) F_p_is_table O_p_is_place k_p_is_place b_p_is_place g_p_is_place m_len m_all
  have O_p_are_different := ok_diff (P := P) (w := w) (mg := mg) (base := base) F_p_are_different O_p_is_list k_p_is_list b_p_is_list g_p_is_list m_len m_all m_set
  have O_p_are_nodes := ok_nodes (P := P) (w := w) (mg := mg) (base := base) F_p_are_nodes O_p_is_name k_p_is_name b_p_is_name g_p_is_name m_len m_all w_MOST_NODES
  have O_p_is_pair_of_dicts := ok_pairD (P := P) (w := w) (mg := mg) (base := base) F_p_is_pair_of_dicts m_isinstance m_tuple m_dict m_len m_all
  have O_p_are_tables := ok_tables (P := P) (w := w) (mg := mg) (base := base) F_p_are_tables O_p_is_name k_p_is_name b_p_is_name g_p_is_name O_p_is_pair_of_dicts k_p_is_pair_of_dicts b_p_is_pair_of_dicts g_p_is_pair_of_dicts O_p_are_nodes k_p_are_nodes b_p_are_nodes g_p_are_nodes O_p_is_table k_p_is_table b_p_is_table g_p_is_table m_isinstance m_dict m_list m_len m_all w_MOST_GOALS
  have O_I := ok_init (P := P) (w := w) (mg := mg) (base := base) FI T O_p_are_tables k_p_are_tables b_p_are_tables g_p_are_tables O_p_are_different k_p_are_different b_p_are_different g_p_are_different m_list m_tuple m_sorted m_len w_MOST_POSTS
  have O_g_goals := ok_goals (P := P) (w := w) (mg := mg) (base := base) F_g_goals T m_tuple
  have O_g_nodes := ok_dots (P := P) (w := w) (mg := mg) (base := base) F_g_nodes T
  have O_g_changing := ok_changing (P := P) (w := w) (mg := mg) (base := base) F_g_changing T m_tuple m_list m_any
  have O_g_tables := ok_tabs (P := P) (w := w) (mg := mg) (base := base) F_g_tables T m_dict
  have O_g_sources := ok_sources (P := P) (w := w) (mg := mg) (base := base) F_g_sources T
  have O_g_posts := ok_posts (P := P) (w := w) (mg := mg) (base := base) F_g_posts T
  have R_goals : Prp P w K mg base C 1 "goals" (spGoals C) := ⟨_, _, _, ⟨a_g_goals, ge_g_goals, ta_g_goals, _, re_g_goals⟩, O_g_goals, b_g_goals⟩
  have R_nodes : Prp P w K mg base C 1 "nodes" (spDots C) := ⟨_, _, _, ⟨a_g_nodes, ge_g_nodes, ta_g_nodes, _, re_g_nodes⟩, O_g_nodes, b_g_nodes⟩
  have R_changing : Prp P w K mg base C 2 "changing" (spChanging C) := ⟨_, _, _, ⟨a_g_changing, ge_g_changing, ta_g_changing, _, re_g_changing⟩, O_g_changing, b_g_changing⟩
  have R_tables : Prp P w K mg base C 1 "tables" (spTabs C) := ⟨_, _, _, ⟨a_g_tables, ge_g_tables, ta_g_tables, _, re_g_tables⟩, O_g_tables, b_g_tables⟩
  have R_sources : Prp P w K mg base C 1 "sources" (spSources C) := ⟨_, _, _, ⟨a_g_sources, ge_g_sources, ta_g_sources, _, re_g_sources⟩, O_g_sources, b_g_sources⟩
  have R_posts : Prp P w K mg base C 1 "posts" (spPosts C) := ⟨_, _, _, ⟨a_g_posts, ge_g_posts, ta_g_posts, _, re_g_posts⟩, O_g_posts, b_g_posts⟩
  have O_p_check_goal := ok_check_goal (P := P) (w := w) (mg := mg) (base := base) F_p_check_goal T R_goals
  have O_p_check_net := ok_check_net (P := P) (w := w) (mg := mg) (base := base) F_p_check_net T Is m_isinstance mNet
  have O_p_is_lot_of := ok_lot_of (P := P) (w := w) (mg := mg) (base := base) F_p_is_lot_of m_isinstance m_tuple m_all m_sorted m_set
  have O_p_check_lot := ok_check_lot (P := P) (w := w) (mg := mg) (base := base) F_p_check_lot T R_changing ⟨_, _, O_p_is_lot_of, k_p_is_lot_of, b_p_is_lot_of, g_p_is_lot_of⟩
  have O_p_check_round := ok_check_round (P := P) (w := w) (mg := mg) (base := base) F_p_check_round ⟨_, _, O_p_check_net, k_p_check_net, b_p_check_net, g_p_check_net⟩ ⟨_, _, O_p_check_lot, k_p_check_lot, b_p_check_lot, g_p_check_lot⟩ m_any
  have O_p_ways := ok_mix (P := P) (w := w) (mg := mg) (base := base) F_p_ways T ⟨_, _, O_p_check_round, k_p_check_round, b_p_check_round, g_p_check_round⟩ ⟨_, _, O_p_check_goal, k_p_check_goal, b_p_check_goal, g_p_check_goal⟩ R_tables R_nodes
  have O_p_followed := ok_followed (P := P) (w := w) (mg := mg) (base := base) F_p_followed
  have O_s_names := ok_names (P := P) (w := w) (mg := mg) (base := base) F_s_names O_s_take k_s_take b_s_take g_s_take O_s_pick O_S_pick k_s_pick b_s_pick g_s_pick m_range
  have O_s_made := ok_made (P := P) (w := w) (mg := mg) (base := base) F_s_made ⟨mk, aI, iI, kc⟩ O_I bI mNet m_dict m_list
  have O_t_table := ok_table (P := P) (w := w) (mg := mg) (base := base) F_t_table O_s_mixed k_s_mixed b_s_mixed g_s_mixed O_s_pick k_s_pick b_s_pick g_s_pick m_enumerate m_max
  have O_t_model := ok_modelS (P := P) (w := w) (mg := mg) (base := base) F_t_model ⟨_, _, O_s_take, k_s_take, b_s_take, g_s_take⟩ ⟨_, _, O_s_pick, k_s_pick, b_s_pick, g_s_pick⟩ ⟨_, _, O_s_mixed, k_s_mixed, b_s_mixed, g_s_mixed⟩ ⟨_, _, O_s_names, k_s_names, b_s_names, g_s_names⟩ ⟨_, _, O_t_table, k_t_table, b_t_table, g_t_table⟩ m_sorted m_len
  have O_t_moved := ok_movedS (P := P) (w := w) (mg := mg) (base := base) F_t_moved m_sorted
  have O_t_some := ok_someS (P := P) (w := w) (mg := mg) (base := base) F_t_some ⟨_, _, O_s_take, k_s_take, b_s_take, g_s_take⟩ ⟨_, _, O_s_pick, k_s_pick, b_s_pick, g_s_pick⟩ m_tuple
  have O_t_rest := ok_restS (P := P) (w := w) (mg := mg) (base := base) F_t_rest ⟨_, _, O_t_moved, k_t_moved, b_t_moved, g_t_moved⟩
  have O_t_parts := ok_lpartsT (P := P) (w := w) (mg := mg) (base := base) F_t_parts m_len m_sorted
  have O_t_row := ok_rowS (P := P) (w := w) (mg := mg) (base := base) F_t_row m_range m_len
  have O_t_web := ok_webV (P := P) (w := w) (mg := mg) (base := base) F_t_web
  have O_t_ranks := ok_ranksU (P := P) (w := w) (mg := mg) (base := base) F_t_ranks m_max m_len
  have O_t_is_passed := ok_is_passed (P := P) (w := w) (mg := mg) (base := base) F_t_is_passed m_list
  have O_t_is_bad := ok_is_bad (P := P) (w := w) (mg := mg) (base := base) F_t_is_bad ⟨_, _, O_t_is_passed, k_t_is_passed, b_t_is_passed, g_t_is_passed⟩
  have O_p_starts := ok_starts (P := P) (w := w) (mg := mg) (base := base) F_p_starts T R_nodes R_sources
  have O_p_passed_with := ok_passed_with (P := P) (w := w) (mg := mg) (base := base) F_p_passed_with m_len
  have O_p_posts_passed := ok_posts_passed (P := P) (w := w) (mg := mg) (base := base) F_p_posts_passed ⟨_, _, O_p_passed_with, k_p_passed_with, b_p_passed_with, g_p_passed_with⟩
  have O_p_breaks := ok_breaks (P := P) (w := w) (mg := mg) (base := base) F_p_breaks T R_posts ⟨_, _, O_p_posts_passed, k_p_posts_passed, b_p_posts_passed, g_p_posts_passed⟩ m_len
  have O_p_ways_at := ok_ways_at (P := P) (w := w) (mg := mg) (base := base) F_p_ways_at T R_tables R_nodes
  have O_p_nodes_behind := ok_behind (P := P) (w := w) (mg := mg) (base := base) F_p_nodes_behind
  have O_p_is_number := ok_is_number (P := P) (w := w) (mg := mg) (base := base) F_p_is_number m_isinstance m_int m_bool
  have O_p_is_count := ok_is_count (P := P) (w := w) (mg := mg) (base := base) F_p_is_count ⟨_, _, O_p_is_number, k_p_is_number, b_p_is_number, g_p_is_number⟩
  have O_p_check_wish := ok_check_wish (P := P) (w := w) (mg := mg) (base := base) F_p_check_wish w_WISHES hW
  have O_p_is_fault := ok_fault_any (P := P) (w := w) (mg := mg) (base := base) F_p_is_fault T R_goals ⟨_, _, O_p_ways_at, k_p_ways_at, b_p_ways_at, g_p_ways_at⟩ ⟨_, _, O_p_starts, k_p_starts, b_p_starts, g_p_starts⟩ ⟨_, _, O_p_breaks, k_p_breaks, b_p_breaks, g_p_breaks⟩ ⟨_, _, O_p_followed, k_p_followed, b_p_followed, g_p_followed⟩ ⟨_, _, O_p_is_lot_of, k_p_is_lot_of, b_p_is_lot_of, g_p_is_lot_of⟩ m_isinstance m_tuple m_len
  have O_t_is_count := ok_is_countL (P := P) (w := w) (mg := mg) (base := base) F_t_is_count m_isinstance m_int m_bool
  have O_S_passed := ok_passed_any (P := P) (w := w) (mg := mg) (base := base) F_p_passed_with m_len
  have O_p_fits := ok_fits (P := P) (w := w) (mg := mg) (base := base) F_p_fits T ⟨_, _, O_p_nodes_behind, k_p_nodes_behind, b_p_nodes_behind, g_p_nodes_behind⟩ ⟨_, _, O_S_passed, k_p_passed_with, b_p_passed_with, g_p_passed_with⟩ R_posts m_all m_len
  have O_p_is_paper := ok_is_paper (P := P) (w := w) (mg := mg) (base := base) F_p_is_paper T ⟨_, _, O_p_ways, k_p_ways, b_p_ways, g_p_ways⟩ ⟨_, _, O_S_passed, k_p_passed_with, b_p_passed_with, g_p_passed_with⟩ ⟨_, _, O_p_starts, k_p_starts, b_p_starts, g_p_starts⟩ ⟨_, _, O_p_fits, k_p_fits, b_p_fits, g_p_fits⟩ ⟨_, _, O_p_is_count, k_p_is_count, b_p_is_count, g_p_is_count⟩ R_posts R_nodes R_sources m_all m_isinstance m_dict
  have O_p_are_papers := ok_are_papers (P := P) (w := w) (mg := mg) (base := base) F_p_are_papers T ⟨_, _, O_p_is_paper, k_p_is_paper, b_p_is_paper, g_p_is_paper⟩ R_goals m_all m_isinstance m_dict m_len
  have O_p_is_shown := ok_is_shown (P := P) (w := w) (mg := mg) (base := base) F_p_is_shown ⟨_, _, O_p_check_round, k_p_check_round, b_p_check_round, g_p_check_round⟩ ⟨_, _, O_p_check_wish, k_p_check_wish, b_p_check_wish, g_p_check_wish⟩ ⟨_, _, O_p_are_papers, k_p_are_papers, b_p_are_papers, g_p_are_papers⟩ ⟨_, _, O_p_is_fault, k_p_is_fault, b_p_is_fault, g_p_is_fault⟩ m_isinstance m_tuple m_len
  have O_t_next := ok_lnext (P := P) (w := w) (mg := mg) (base := base) F_t_next m_len
  have O_t_is_paper := ok_lpaper (P := P) (w := w) (mg := mg) (base := base) F_t_is_paper ⟨_, _, O_t_is_count, k_t_is_count, b_t_is_count, g_t_is_count⟩ ⟨_, _, O_t_next, k_t_next, b_t_next, g_t_next⟩ m_isinstance m_dict m_str m_len
  have O_t_is_moment := ok_lmoment (P := P) (w := w) (mg := mg) (base := base) F_t_is_moment ⟨_, _, O_t_parts, k_t_parts, b_t_parts, g_t_parts⟩ ⟨_, _, O_t_row, k_t_row, b_t_row, g_t_row⟩ ⟨_, _, O_t_is_bad, k_t_is_bad, b_t_is_bad, g_t_is_bad⟩ m_isinstance m_tuple m_len m_str
  have O_t_is_shown := ok_lshown (P := P) (w := w) (mg := mg) (base := base) F_t_is_shown ⟨_, _, O_t_web, k_t_web, b_t_web, g_t_web⟩ ⟨_, _, O_t_is_paper, k_t_is_paper, b_t_is_paper, g_t_is_paper⟩ m_isinstance m_tuple m_len m_repr m_dict
  have O_t_near := ok_nearU (P := P) (w := w) (mg := mg) (base := base) F_t_near m_list m_sorted m_set
  have O_t_least := ok_leastU (P := P) (w := w) (mg := mg) (base := base) F_t_least ⟨_, _, O_t_next, k_t_next, b_t_next, g_t_next⟩ m_dict m_range m_len m_list m_min
  have O_t_own_paper := ok_ownP (P := P) (w := w) (mg := mg) (base := base) F_t_own_paper ⟨_, _, O_t_least, k_t_least, b_t_least, g_t_least⟩ ⟨_, _, O_t_near, k_t_near, b_t_near, g_t_near⟩ ⟨_, _, O_t_ranks, k_t_ranks, b_t_ranks, g_t_ranks⟩ m_dict m_len m_sorted m_enumerate
  have O_t_greater := ok_greater (P := P) (w := w) (mg := mg) (base := base) F_t_greater ⟨_, _, O_s_take, k_s_take, b_s_take, g_s_take⟩ m_dict m_list m_max
  have O_t_moments := ok_moms (P := P) (w := w) (mg := mg) (base := base) F_t_moments ⟨_, _, O_t_parts, k_t_parts, b_t_parts, g_t_parts⟩
  exact ok_law F_law  ⟨_, _, O_s_begin, k_s_begin, b_s_begin, g_s_begin⟩ ⟨_, _, O_t_model, k_t_model, b_t_model, g_t_model⟩ ⟨_, _, O_s_made, k_s_made, b_s_made, g_s_made⟩ ⟨_, _, O_t_some, k_t_some, b_t_some, g_t_some⟩ ⟨_, _, O_t_moved, k_t_moved, b_t_moved, g_t_moved⟩ ⟨_, _, O_t_rest, k_t_rest, b_t_rest, g_t_rest⟩ ⟨_, _, O_t_own_paper, k_t_own_paper, b_t_own_paper, g_t_own_paper⟩ ⟨_, _, O_t_web, k_t_web, b_t_web, g_t_web⟩ ⟨_, _, O_t_is_shown, k_t_is_shown, b_t_is_shown, g_t_is_shown⟩ ⟨_, _, O_t_greater, k_t_greater, b_t_greater, g_t_greater⟩ ⟨_, _, O_p_is_shown, k_p_is_shown, b_p_is_shown, g_p_is_shown⟩ ⟨_, _, O_s_mixed, k_s_mixed, b_s_mixed, g_s_mixed⟩ ⟨_, _, O_t_moments, k_t_moments, b_t_moments, g_t_moments⟩ ⟨_, _, O_t_is_moment, k_t_is_moment, b_t_is_moment, g_t_is_moment⟩ m_range m_min m_max m_len
end Rw
end T_Z0

section T_Z1
set_option Elab.async false
set_option maxRecDepth 100000
open PySem PySem.W PyProof.Rows
set_option maxRecDepth 100000 in
set_option maxHeartbeats 0 in
theorem PySem.Challenge.cw_roundways_k22_shown_by_any_hand_holds : PySem.Challenge.rw_roundways_k22_shown_by_any_hand.Holds := by
  w_on; o_law; k_head; (case hw => w_witness2)
  k_fill
  refine Rw.walk_ofG (l := PySem.Challenge.rw_roundways_k22_shown_by_any_hand) (n := 63) (k := 10) (x := "script") (sp := fun w => Rw.spLaw _) rfl (by decide) rfl ⟨rfl, by decide, by decide⟩ (fun w h Y => PySem.W.kIn_of Y) ?F (fun w H a ns few hS => ⟨a, ns, rfl, hS, few, fun _ => rfl⟩)
  case F =>
    intro w mg fa h KX G hmg
    refine' Rw.all_mk KX G hmg ?aC ?a_s_begin ?l_s_begin ?c_s_begin ?k_s_begin ?a_s_blend ?l_s_blend ?c_s_blend ?k_s_blend ?a_s_take ?l_s_take ?c_s_take ?k_s_take ?a_s_pick ?l_s_pick ?c_s_pick ?k_s_pick ?a_s_mixed ?l_s_mixed ?c_s_mixed ?k_s_mixed ?a_s_names ?l_s_names ?c_s_names ?k_s_names ?a_s_made ?l_s_made ?c_s_made ?k_s_made ?a_t_table ?l_t_table ?c_t_table ?k_t_table ?a_t_model ?l_t_model ?c_t_model ?k_t_model ?a_t_moved ?l_t_moved ?c_t_moved ?k_t_moved ?a_t_some ?l_t_some ?c_t_some ?k_t_some ?a_t_rest ?l_t_rest ?c_t_rest ?k_t_rest ?a_t_parts ?l_t_parts ?c_t_parts ?k_t_parts ?a_t_row ?l_t_row ?c_t_row ?k_t_row ?a_t_is_passed ?l_t_is_passed ?c_t_is_passed ?k_t_is_passed ?a_t_is_bad ?l_t_is_bad ?c_t_is_bad ?k_t_is_bad ?a_t_web ?l_t_web ?c_t_web ?k_t_web ?a_t_next ?l_t_next ?c_t_next ?k_t_next ?a_t_is_count ?l_t_is_count ?c_t_is_count ?k_t_is_count ?a_t_is_paper ?l_t_is_paper ?c_t_is_paper ?k_t_is_paper ?a_t_is_moment ?l_t_is_moment ?c_t_is_moment ?k_t_is_moment ?a_t_is_shown ?l_t_is_shown ?c_t_is_shown ?k_t_is_shown ?a_t_ranks ?l_t_ranks ?c_t_ranks ?k_t_ranks ?a_t_near ?l_t_near ?c_t_near ?k_t_near ?a_t_least ?l_t_least ?c_t_least ?k_t_least ?a_t_own_paper ?l_t_own_paper ?c_t_own_paper ?k_t_own_paper ?a_t_greater ?l_t_greater ?c_t_greater ?k_t_greater ?a_t_moments ?l_t_moments ?c_t_moments ?k_t_moments ?a_p_is_list ?l_p_is_list ?c_p_is_list ?k_p_is_list ?a_p_is_name ?l_p_is_name ?c_p_is_name ?k_p_is_name ?a_p_is_place ?l_p_is_place ?c_p_is_place ?k_p_is_place ?a_p_is_table ?l_p_is_table ?c_p_is_table ?k_p_is_table ?a_p_are_different ?l_p_are_different ?c_p_are_different ?k_p_are_different ?a_p_are_nodes ?l_p_are_nodes ?c_p_are_nodes ?k_p_are_nodes ?a_p_is_pair_of_dicts ?l_p_is_pair_of_dicts ?c_p_is_pair_of_dicts ?k_p_is_pair_of_dicts ?a_p_are_tables ?l_p_are_tables ?c_p_are_tables ?k_p_are_tables ?a_p_check_net ?l_p_check_net ?c_p_check_net ?k_p_check_net ?a_p_check_goal ?l_p_check_goal ?c_p_check_goal ?k_p_check_goal ?a_p_check_lot ?l_p_check_lot ?c_p_check_lot ?k_p_check_lot ?a_p_check_round ?l_p_check_round ?c_p_check_round ?k_p_check_round ?a_p_is_lot_of ?l_p_is_lot_of ?c_p_is_lot_of ?k_p_is_lot_of ?a_g_goals ?ge_g_goals ?ta_g_goals ?re_g_goals ?l_g_goals ?c_g_goals ?k_g_goals ?a_g_nodes ?ge_g_nodes ?ta_g_nodes ?re_g_nodes ?l_g_nodes ?c_g_nodes ?k_g_nodes ?a_g_changing ?ge_g_changing ?ta_g_changing ?re_g_changing ?l_g_changing ?c_g_changing ?k_g_changing ?a_p_is_number ?l_p_is_number ?c_p_is_number ?k_p_is_number ?a_p_is_count ?l_p_is_count ?c_p_is_count ?k_p_is_count ?a_p_followed ?l_p_followed ?c_p_followed ?k_p_followed ?a_p_ways ?l_p_ways ?c_p_ways ?k_p_ways ?a_p_ways_at ?l_p_ways_at ?c_p_ways_at ?k_p_ways_at ?a_p_nodes_behind ?l_p_nodes_behind ?c_p_nodes_behind ?k_p_nodes_behind ?a_p_starts ?l_p_starts ?c_p_starts ?k_p_starts ?a_p_breaks ?l_p_breaks ?c_p_breaks ?k_p_breaks ?a_p_posts_passed ?l_p_posts_passed ?c_p_posts_passed ?k_p_posts_passed ?a_p_passed_with ?l_p_passed_with ?c_p_passed_with ?k_p_passed_with ?a_p_check_wish ?l_p_check_wish ?c_p_check_wish ?k_p_check_wish ?a_p_is_fault ?l_p_is_fault ?c_p_is_fault ?k_p_is_fault ?a_p_fits ?l_p_fits ?c_p_fits ?k_p_fits ?a_p_is_paper ?l_p_is_paper ?c_p_is_paper ?k_p_is_paper ?a_p_are_papers ?l_p_are_papers ?c_p_are_papers ?k_p_are_papers ?a_p_is_shown ?l_p_is_shown ?c_p_is_shown ?k_p_is_shown ?a_g_tables ?ge_g_tables ?ta_g_tables ?re_g_tables ?l_g_tables ?c_g_tables ?k_g_tables ?a_g_sources ?ge_g_sources ?ta_g_sources ?re_g_sources ?l_g_sources ?c_g_sources ?k_g_sources ?a_g_posts ?ge_g_posts ?ta_g_posts ?re_g_posts ?l_g_posts ?c_g_posts ?k_g_posts ?a_law ?l_law ?c_law ?k_law ?aI ?iI ?lI ?cI ?kI ?lT ?pg ?hd ?po ?sa ?mk ?kc ?nT_ ?nN_ ?nS_ ?nP_ ?ha ?hn ?hk ?hm ?v_MOST_POSTS ?v_MOST_NODES ?v_MOST_GOALS ?v_MOST_LETTERS ?v_WISHES ?lW ?z_int ?z_len ?z_abs ?z_list ?z_dict ?z_sorted ?z_range ?z_isinstance ?z_str ?z_tuple ?z_all ?z_any ?z_set ?z_enumerate ?z_min ?z_repr ?z_max ?z_bool
    (case aC => k_is); (case a_s_begin => k_is); (case l_s_begin => k_is); (case c_s_begin => k_is); (case k_s_begin => k_is); (case a_s_blend => k_is)
    (case l_s_blend => k_is); (case c_s_blend => k_is); (case k_s_blend => k_is); (case a_s_take => k_is); (case l_s_take => k_is); (case c_s_take => k_is)
    (case k_s_take => k_is); (case a_s_pick => k_is); (case l_s_pick => k_is); (case c_s_pick => k_is); (case k_s_pick => k_is); (case a_s_mixed => k_is)
    (case l_s_mixed => k_is); (case c_s_mixed => k_is); (case k_s_mixed => k_is); (case a_s_names => k_is); (case l_s_names => k_is); (case c_s_names => k_is)
    (case k_s_names => k_is); (case a_s_made => k_is); (case l_s_made => k_is); (case c_s_made => k_is); (case k_s_made => k_is); (case a_t_table => k_is)
    (case l_t_table => k_is); (case c_t_table => k_is); (case k_t_table => k_is); (case a_t_model => k_is); (case l_t_model => k_is); (case c_t_model => k_is)
    (case k_t_model => k_is); (case a_t_moved => k_is); (case l_t_moved => k_is); (case c_t_moved => k_is); (case k_t_moved => k_is); (case a_t_some => k_is)
    (case l_t_some => k_is); (case c_t_some => k_is); (case k_t_some => k_is); (case a_t_rest => k_is); (case l_t_rest => k_is); (case c_t_rest => k_is)
    (case k_t_rest => k_is); (case a_t_parts => k_is); (case l_t_parts => k_is); (case c_t_parts => k_is); (case k_t_parts => k_is); (case a_t_row => k_is)
    (case l_t_row => k_is); (case c_t_row => k_is); (case k_t_row => k_is); (case a_t_is_passed => k_is); (case l_t_is_passed => k_is); (case c_t_is_passed => k_is)
    (case k_t_is_passed => k_is); (case a_t_is_bad => k_is); (case l_t_is_bad => k_is); (case c_t_is_bad => k_is); (case k_t_is_bad => k_is); (case a_t_web => k_is)
    (case l_t_web => k_is); (case c_t_web => k_is); (case k_t_web => k_is); (case a_t_next => k_is); (case l_t_next => k_is); (case c_t_next => k_is)
    (case k_t_next => k_is); (case a_t_is_count => k_is); (case l_t_is_count => k_is); (case c_t_is_count => k_is); (case k_t_is_count => k_is); (case a_t_is_paper => k_is)
    (case l_t_is_paper => k_is); (case c_t_is_paper => k_is); (case k_t_is_paper => k_is); (case a_t_is_moment => k_is); (case l_t_is_moment => k_is); (case c_t_is_moment => k_is)
    (case k_t_is_moment => k_is); (case a_t_is_shown => k_is); (case l_t_is_shown => k_is); (case c_t_is_shown => k_is); (case k_t_is_shown => k_is); (case a_t_ranks => k_is)
    (case l_t_ranks => k_is); (case c_t_ranks => k_is); (case k_t_ranks => k_is); (case a_t_near => k_is); (case l_t_near => k_is); (case c_t_near => k_is)
    (case k_t_near => k_is); (case a_t_least => k_is); (case l_t_least => k_is); (case c_t_least => k_is); (case k_t_least => k_is); (case a_t_own_paper => k_is)
    (case l_t_own_paper => k_is); (case c_t_own_paper => k_is); (case k_t_own_paper => k_is); (case a_t_greater => k_is); (case l_t_greater => k_is); (case c_t_greater => k_is)
    (case k_t_greater => k_is); (case a_t_moments => k_is); (case l_t_moments => k_is); (case c_t_moments => k_is); (case k_t_moments => k_is); (case a_p_is_list => k_is)
    (case l_p_is_list => k_is); (case c_p_is_list => k_is); (case k_p_is_list => k_is); (case a_p_is_name => k_is); (case l_p_is_name => k_is); (case c_p_is_name => k_is)
    (case k_p_is_name => k_is); (case a_p_is_place => k_is); (case l_p_is_place => k_is); (case c_p_is_place => k_is); (case k_p_is_place => k_is); (case a_p_is_table => k_is)
    (case l_p_is_table => k_is); (case c_p_is_table => k_is); (case k_p_is_table => k_is); (case a_p_are_different => k_is); (case l_p_are_different => k_is); (case c_p_are_different => k_is)
    (case k_p_are_different => k_is); (case a_p_are_nodes => k_is); (case l_p_are_nodes => k_is); (case c_p_are_nodes => k_is); (case k_p_are_nodes => k_is); (case a_p_is_pair_of_dicts => k_is)
    (case l_p_is_pair_of_dicts => k_is); (case c_p_is_pair_of_dicts => k_is); (case k_p_is_pair_of_dicts => k_is); (case a_p_are_tables => k_is); (case l_p_are_tables => k_is); (case c_p_are_tables => k_is)
    (case k_p_are_tables => k_is); (case a_p_check_net => k_is); (case l_p_check_net => k_is); (case c_p_check_net => k_is); (case k_p_check_net => k_is); (case a_p_check_goal => k_is)
    (case l_p_check_goal => k_is); (case c_p_check_goal => k_is); (case k_p_check_goal => k_is); (case a_p_check_lot => k_is); (case l_p_check_lot => k_is); (case c_p_check_lot => k_is)
    (case k_p_check_lot => k_is); (case a_p_check_round => k_is); (case l_p_check_round => k_is); (case c_p_check_round => k_is); (case k_p_check_round => k_is); (case a_p_is_lot_of => k_is)
    (case l_p_is_lot_of => k_is); (case c_p_is_lot_of => k_is); (case k_p_is_lot_of => k_is); (case a_g_goals => k_is); (case ge_g_goals => k_is); (case ta_g_goals => k_is)
    (case re_g_goals => k_is); (case l_g_goals => k_is); (case c_g_goals => k_is); (case k_g_goals => k_is); (case a_g_nodes => k_is); (case ge_g_nodes => k_is)
    (case ta_g_nodes => k_is); (case re_g_nodes => k_is); (case l_g_nodes => k_is); (case c_g_nodes => k_is); (case k_g_nodes => k_is); (case a_g_changing => k_is)
    (case ge_g_changing => k_is); (case ta_g_changing => k_is); (case re_g_changing => k_is); (case l_g_changing => k_is); (case c_g_changing => k_is); (case k_g_changing => k_is)
    (case a_p_is_number => k_is); (case l_p_is_number => k_is); (case c_p_is_number => k_is); (case k_p_is_number => k_is); (case a_p_is_count => k_is); (case l_p_is_count => k_is)
    (case c_p_is_count => k_is); (case k_p_is_count => k_is); (case a_p_followed => k_is); (case l_p_followed => k_is); (case c_p_followed => k_is); (case k_p_followed => k_is)
    (case a_p_ways => k_is); (case l_p_ways => k_is); (case c_p_ways => k_is); (case k_p_ways => k_is); (case a_p_ways_at => k_is); (case l_p_ways_at => k_is)
    (case c_p_ways_at => k_is); (case k_p_ways_at => k_is); (case a_p_nodes_behind => k_is); (case l_p_nodes_behind => k_is); (case c_p_nodes_behind => k_is); (case k_p_nodes_behind => k_is)
    (case a_p_starts => k_is); (case l_p_starts => k_is); (case c_p_starts => k_is); (case k_p_starts => k_is); (case a_p_breaks => k_is); (case l_p_breaks => k_is)
    (case c_p_breaks => k_is); (case k_p_breaks => k_is); (case a_p_posts_passed => k_is); (case l_p_posts_passed => k_is); (case c_p_posts_passed => k_is); (case k_p_posts_passed => k_is)
    (case a_p_passed_with => k_is); (case l_p_passed_with => k_is); (case c_p_passed_with => k_is); (case k_p_passed_with => k_is); (case a_p_check_wish => k_is); (case l_p_check_wish => k_is)
    (case c_p_check_wish => k_is); (case k_p_check_wish => k_is); (case a_p_is_fault => k_is); (case l_p_is_fault => k_is); (case c_p_is_fault => k_is); (case k_p_is_fault => k_is)
    (case a_p_fits => k_is); (case l_p_fits => k_is); (case c_p_fits => k_is); (case k_p_fits => k_is); (case a_p_is_paper => k_is); (case l_p_is_paper => k_is)
    (case c_p_is_paper => k_is); (case k_p_is_paper => k_is); (case a_p_are_papers => k_is); (case l_p_are_papers => k_is); (case c_p_are_papers => k_is); (case k_p_are_papers => k_is)
    (case a_p_is_shown => k_is); (case l_p_is_shown => k_is); (case c_p_is_shown => k_is); (case k_p_is_shown => k_is); (case a_g_tables => k_is); (case ge_g_tables => k_is)
    (case ta_g_tables => k_is); (case re_g_tables => k_is); (case l_g_tables => k_is); (case c_g_tables => k_is); (case k_g_tables => k_is); (case a_g_sources => k_is)
    (case ge_g_sources => k_is); (case ta_g_sources => k_is); (case re_g_sources => k_is); (case l_g_sources => k_is); (case c_g_sources => k_is); (case k_g_sources => k_is)
    (case a_g_posts => k_is); (case ge_g_posts => k_is); (case ta_g_posts => k_is); (case re_g_posts => k_is); (case l_g_posts => k_is); (case c_g_posts => k_is)
    (case k_g_posts => k_is); (case a_law => k_is); (case l_law => k_is); (case c_law => k_is); (case k_law => k_is); (case aI => k_is)
    (case iI => k_is); (case lI => k_is); (case cI => k_is); (case kI => k_is); (case lT => k_is); (case pg => k_is)
    (case hd => k_is); (case po => k_is); (case sa => k_is); (case mk => k_is); (case kc => k_is); (case nT_ => k_is)
    (case nN_ => k_is); (case nS_ => k_is); (case nP_ => k_is); (case ha => k_is); (case hn => k_is); (case hk => k_is)
    (case hm => k_is); (case v_MOST_POSTS => k_is); (case v_MOST_NODES => k_is); (case v_MOST_GOALS => k_is); (case v_MOST_LETTERS => k_is); (case v_WISHES => k_is)
    (case lW => k_is); (case z_int => k_is); (case z_len => k_is); (case z_abs => k_is); (case z_list => k_is); (case z_dict => k_is)
    (case z_sorted => k_is); (case z_range => k_is); (case z_isinstance => k_is); (case z_str => k_is); (case z_tuple => k_is); (case z_all => k_is)
    (case z_any => k_is); (case z_set => k_is); (case z_enumerate => k_is); (case z_min => k_is); (case z_repr => k_is); (case z_max => k_is)
    (case z_bool => k_is)
end T_Z1
