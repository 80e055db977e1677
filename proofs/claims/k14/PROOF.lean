import PyProof.Rows.All
import Wide.All
import OpenK.AllK
import Wide.FinOn
import HandS.ForMost
import HandS.Codes
import HandS.Evl
import HandS.Walk
import HandS.More
import HandS.Property
import HandS.DictComp
import HandS.Strs
import HandS.Zip
import HandS.IsInst
import HandS.Conv
import PySem.Challenge.RW_roundways_k14_whole_turned_parted_and_re
import HandS.Set
import HandS.SetFor
import KE.KDictCopyH
import HandS.Defaults
import HandS.NoneIn
import HandS.DictTup
import HandS.SortRule
import HandS.Star
import HandS.SortKw
import PyProof.MinMaxWalk
import PyProof.WalkInts
import HandS.TupAny
import HandS.Style
import KE.KDictZip
section T_D0
set_option Elab.async false
set_option linter.all false
set_option maxRecDepth 100000
set_option maxHeartbeats 4000000
namespace Rw
open PySem L2 PyProof.Rows
/-! ### ints as data -/
theorem dp_ints {K : PySem.W.Frag} {H : Hp} : ∀ ns : List Int, DpAll K H (ns.map V.int) (ns.map PyData.int)
  | [] => .nil
  | n :: r => .cons (.int n) (dp_ints r)
theorem canlay_ints : ∀ ns : List Int, PyData.canLayAll0 (ns.map PyData.int) = true
  | [] => rfl
  | n :: r => by
    show (PyData.canLay0 (.int n) && PyData.canLayAll0 (r.map PyData.int)) = true
    rw [canlay_ints r]
    rfl
theorem depth_ints : ∀ ns : List Int, PyData.depthAll (ns.map PyData.int) = 0
  | [] => rfl
  | n :: r => by
    show max (PyData.depth (.int n)) (PyData.depthAll (r.map PyData.int)) = 0
    rw [depth_ints r]
    rfl
theorem shaped_ints (ns : List Int) : SeqAt.shaped (.list (ns.map PyData.int)) = true := by
  unfold SeqAt.shaped
  rw [show PyData.canLay0 (.list (ns.map PyData.int)) = PyData.canLayAll0 (ns.map PyData.int) from rfl, canlay_ints,
    show PyData.depth (.list (ns.map PyData.int)) = PyData.depthAll (ns.map PyData.int) + 1 from rfl, depth_ints]
  rfl
theorem eqv_nil (ns : List Int) : PyData.eqv (.list (ns.map PyData.int)) (.list []) = ns.isEmpty := by
  cases ns <;> rfl
/-! ### the draws: at d the dict, at g what is great, at c the cells -/
def dkv (g c : Addr) (r t : Int) : List (Key × V) := [(.inr "great", .ref g), (.inr "rest", .int r), (.inr "cells", .ref c), (.inr "turn", .int t)]
theorem dkv_great (g c : Addr) (r t : Int) : valV (dkv g c r t) (.inr "great") = some (.ref g) := by kernel_rfl
theorem dkv_rest (g c : Addr) (r t : Int) : valV (dkv g c r t) (.inr "rest") = some (.int r) := by kernel_rfl
theorem dkv_cells (g c : Addr) (r t : Int) : valV (dkv g c r t) (.inr "cells") = some (.ref c) := by kernel_rfl
theorem dkv_turn (g c : Addr) (r t : Int) : valV (dkv g c r t) (.inr "turn") = some (.int t) := by kernel_rfl
theorem dkv_put_rest (g c : Addr) (r t x : Int) : putK (dkv g c r t) (.inr "rest") (.int x) = dkv g c x t := by kernel_rfl
theorem dkv_put_turn (g c : Addr) (r t x : Int) : putK (dkv g c r t) (.inr "turn") (.int x) = dkv g c r x := by kernel_rfl
structure DrawAt (H : Hp) (d g c : Addr) : Prop where
  ex : ∃ r t : Int, H d = some (.dK (dkv g c r t))
  gl : ∃ gs : List Int, H g = some (.lst (gs.map V.int))
  cl : ∃ cs : List Int, H c = some (.lst (cs.map V.int))
  ne : c ≠ g
/-- what stood stands, but at d and g -/
def SameD (d g : Addr) (H H' : Hp) : Prop := ∀ a o, H a = some o → a ≠ d → a ≠ g → H' a = some o
/-! ### the heap without the draws -/
def off (d g : Addr) (H : Hp) : Hp := fun a => if a = d ∨ a = g then none else H a
theorem off_some {d g : Addr} {H : Hp} {a : Addr} {o : HO} (h : off d g H a = some o) : a ≠ d ∧ a ≠ g ∧ H a = some o := by
  unfold off at h
  by_cases e : a = d ∨ a = g
  · rw [if_pos e] at h; cases h
  · rw [if_neg e] at h; exact ⟨fun z => e (.inl z), fun z => e (.inr z), h⟩
theorem off_of {d g : Addr} {H : Hp} {a : Addr} {o : HO} (h : H a = some o) (h1 : a ≠ d) (h2 : a ≠ g) : off d g H a = some o := by
  unfold off
  rw [if_neg (fun z => z.elim h1 h2)]
  exact h
theorem off_free {d g : Addr} {H : Hp} {a : Addr} (h : H a = none) : off d g H a = none := by
  unfold off
  by_cases e : a = d ∨ a = g
  · rw [if_pos e]
  · rw [if_neg e]; exact h
theorem ex_off (d g : Addr) (H : Hp) : Evl.Ex (off d g H) H := fun a o h => (off_some h).2.2
theorem off_ex {d g : Addr} {H H' : Hp} (e : Evl.Ex H H') : Evl.Ex (off d g H) (off d g H') := fun a o h => off_of (e a o (off_some h).2.2) (off_some h).1 (off_some h).2.1
theorem off_same {d g : Addr} {H H' : Hp} (e : SameD d g H H') : Evl.Ex (off d g H) (off d g H') := fun a o h => off_of (e a o (off_some h).2.2 (off_some h).1 (off_some h).2.1) (off_some h).1 (off_some h).2.1
theorem DrawAt.ext {H H' : Hp} {d g c : Addr} (D : DrawAt H d g c) (e : Evl.Ex H H') : DrawAt H' d g c := by
  obtain ⟨⟨r, t, hd⟩, ⟨gs, hg⟩, ⟨cs, hc⟩, ne⟩ := D
  exact ⟨⟨r, t, e _ _ hd⟩, ⟨gs, e _ _ hg⟩, ⟨cs, e _ _ hc⟩, ne⟩
theorem DrawAt.new {H : Hp} {d g c p : Addr} {o : HO} (D : DrawAt H d g c) (h : H p = none) : DrawAt (upd H p o) d g c := D.ext (Evl.Ex.new h)
theorem DrawAt.ned {H : Hp} {d g c p : Addr} (D : DrawAt H d g c) (h : H p = none) : p ≠ d ∧ p ≠ g ∧ p ≠ c := by
  obtain ⟨⟨r, t, hd⟩, ⟨gs, hg⟩, ⟨cs, hc⟩, ne⟩ := D
  exact ⟨(ne_of_none hd h).symm, (ne_of_none hg h).symm, (ne_of_none hc h).symm⟩
/-- a new object of one's own, behind changes of others -/
theorem off_mut {d g : Addr} {H H' : Hp} {p : Addr} {o : HO} (e : Evl.Ex H (off d g H')) (h : H p = none) : Evl.Ex H (off d g (upd H' p o)) := fun a u ha => by
  have z := off_some (e a u ha)
  exact off_of (by rw [upd_ne (ne_of_none ha h)]; exact z.2.2) z.1 z.2.1
theorem DrawAt.mut {H : Hp} {d g c p : Addr} {o : HO} (D : DrawAt H d g c) (h1 : p ≠ d) (h2 : p ≠ g) (h3 : p ≠ c) : DrawAt (upd H p o) d g c := by
  obtain ⟨⟨r, t, hd⟩, ⟨gs, hg⟩, ⟨cs, hc⟩, ne⟩ := D
  exact ⟨⟨r, t, by rw [upd_ne h1.symm]; exact hd⟩, ⟨gs, by rw [upd_ne h2.symm]; exact hg⟩, ⟨cs, by rw [upd_ne h3.symm]; exact hc⟩, ne⟩
theorem ps_never {X : Cx} {st : Stmt} : PS X st (fun _ _ _ => False) := ⟨fun _ _ _ _ _ _ h => h.elim⟩
theorem pe_never {X : Cx} {e : Expr} : PE X e (fun _ _ _ => False) := ⟨fun _ _ _ _ _ _ h => h.elim⟩
theorem yes_if {σ : L2.St} {H : Hp} {F G : Hp → Prop} (h : F H) : tYes σ H (fun b H3 => if b = true then F H3 else G H3) := by
  show if true = true then F H else G H
  rw [if_pos rfl]
  exact h
/-! ### data -/
mutual
theorem dp_ex {K : PySem.W.Frag} {H H' : Hp} (e : Evl.Ex H H') : ∀ (d : PyData) (v : V), Dp K H v d → Dp K H' v d
  | .none, _, h => by cases h; exact .non
  | .bool b, _, h => by cases h; exact .bl b
  | .int i, _, h => by cases h; exact .int i
  | .str x, _, h => by cases h; exact .str x
  | .list ds, _, h => by cases h with | lst hq hd => exact .lst (Evl.ex_l e hq) (dpa_ex e ds _ hd)
  | .tuple ds, _, h => by cases h with | tup hq hd => exact .tup (Evl.ex_t e hq) (dpa_ex e ds _ hd)
  | .dict _, _, h => by cases h
theorem dpa_ex {K : PySem.W.Frag} {H H' : Hp} (e : Evl.Ex H H') : ∀ (ds : List PyData) (vs : List V), DpAll K H vs ds → DpAll K H' vs ds
  | [], _, h => by cases h; exact .nil
  | d :: ds, _, h => by cases h with | cons h1 h2 => exact .cons (dp_ex e d _ h1) (dpa_ex e ds _ h2)
end
/-- a value that is data, not deep -/
def DataV (K : PySem.W.Frag) (H : Hp) (v : V) : Prop := ∃ d : PyData, Dp K H v d ∧ d.canLay0 = true ∧ d.depth ≤ 60
theorem DataV.ex {K : PySem.W.Frag} {H H' : Hp} {v : V} (h : DataV K H v) (e : Evl.Ex H H') : DataV K H' v := by
  obtain ⟨d, h1, h2⟩ := h
  exact ⟨d, dp_ex e d v h1, h2⟩
theorem data_all {K : PySem.W.Frag} {H : Hp} : ∀ vs : List V, (∀ v ∈ vs, DataV K H v) → ∃ ds : List PyData, DpAll K H vs ds ∧ PyData.canLayAll0 ds = true ∧ PyData.depthAll ds ≤ 60 ∧ ds.length = vs.length
  | [], _ => ⟨[], .nil, rfl, Nat.zero_le _, rfl⟩
  | v :: vs, h => by
    obtain ⟨d, h1, h2, h3⟩ := h v List.mem_cons_self
    obtain ⟨ds, g1, g2, g3, g4⟩ := data_all vs fun u hu => h u (List.mem_cons_of_mem _ hu)
    refine ⟨d :: ds, .cons h1 g1, ?_, ?_, by simp [g4]⟩
    · show (d.canLay0 && PyData.canLayAll0 ds) = true
      rw [h2, g2]
      rfl
    · show max d.depth (PyData.depthAll ds) ≤ 60
      omega
theorem data_list {K : PySem.W.Frag} {H : Hp} {a : Addr} {vs : List V} (hS : SqL K H a vs) (h : ∀ v ∈ vs, DataV K H v) : ∃ d : PyData, Dp K H (.ref a) d ∧ SeqAt.shaped d = true ∧ PyData.eqv d (.list []) = vs.isEmpty := by
  obtain ⟨ds, g1, g2, g3, g4⟩ := data_all vs h
  refine ⟨.list ds, .lst hS g1, ?_, ?_⟩
  · unfold SeqAt.shaped
    rw [show PyData.canLay0 (.list ds) = PyData.canLayAll0 ds from rfl, g2, show PyData.depth (.list ds) = PyData.depthAll ds + 1 from rfl]
    exact decide_eq_true (show PyData.depthAll ds + 1 ≤ 64 by omega)
  · cases vs with
    | nil =>
      cases ds with
      | nil => rfl
      | cons _ _ => simp at g4
    | cons _ _ =>
      cases ds with
      | nil => simp at g4
      | cons _ _ => rfl
theorem strV_data {K : PySem.W.Frag} {H : Hp} {z : Str} (h : PyData.strOk z = true) : DataV K H (.str z) := ⟨.str z, .str z, h, Nat.zero_le _⟩
/-! ### what the draws promise -/
def spBlend : Sp := fun vs H Q _ => ∃ (d g c : Addr), vs = [.ref d] ∧ DrawAt H d g c ∧ ∀ (n : Int) (H' : Hp), DrawAt H' d g c → SameD d g H H' → Q (.int n) H'
def spTake : Sp := fun vs H Q _ => ∃ (d g c : Addr) (n : Int), vs = [.ref d, .int n] ∧ 0 < n ∧ n < 2 ^ 30 ∧ DrawAt H d g c ∧ ∀ (k : Int) (H' : Hp), 0 ≤ k → k < n → DrawAt H' d g c → Evl.Ex (off d g H) (off d g H') → Q (.int k) H'
/-- one of a list's items -/
def spPickL (K : PySem.W.Frag) : Sp := fun vs H Q _ => ∃ (d g c a : Addr) (xs : List V), vs = [.ref d, .ref a] ∧ DrawAt H d g c ∧ SqL K (off d g H) a xs ∧ 0 < xs.length ∧ xs.length < 2 ^ 30 ∧
  ∀ (i : Nat) (v : V) (H' : Hp), xs[i]? = some v → DrawAt H' d g c → Evl.Ex (off d g H) (off d g H') → Q v H'
/-- one of a text's signs -/
def spPickS : Sp := fun vs H Q _ => ∃ (d g c : Addr) (z : Str), vs = [.ref d, .str z] ∧ DrawAt H d g c ∧ 0 < z.length ∧ z.length ≤ 1000 ∧
  ∀ (i ch : Nat) (H' : Hp), z.cps.toList[i]? = some ch → DrawAt H' d g c → Evl.Ex (off d g H) (off d g H') → Q (.str ⟨#[ch]⟩) H'
/-- a list's or tuple's items in some order, a new list -/
def spMixed (K : PySem.W.Frag) : Sp := fun vs H Q _ => ∃ (d g c a : Addr) (xs : List V), vs = [.ref d, .ref a] ∧ DrawAt H d g c ∧ (SqL K (off d g H) a xs ∨ SqT K (off d g H) a xs) ∧ xs.length ≤ 1000 ∧ (∀ v ∈ xs, DataV K (off d g H) v) ∧
  ∀ (p : Addr) (ys : List V) (H' : Hp), ys.Perm xs → DrawAt H' d g c → Evl.Ex (off d g H) (off d g H') → H p = none → off d g H' p = some (.lst ys) → Q (.ref p) H'
def spBegin (K : PySem.W.Frag) : Sp := fun vs H Q _ => ∃ (a : Addr) (ns : List Int), vs = [.ref a] ∧ SqL K H a (ns.map V.int) ∧ ns.length ≤ 63 ∧
  ∀ (d g c : Addr) (H' : Hp), DrawAt H' d g c → Evl.Ex H (off d g H') → Q (.ref d) H'
end Rw
end T_D0

section T_T0
set_option Elab.async false
set_option linter.all false
set_option maxRecDepth 100000
namespace Rw
open PySem L2 PyProof.Rows
def topS (i : Nat) : Stmt := PySem.Challenge.pw_roundways_k14_whole_turned_parted_and_re.main.body.getD i (.Pass ⟨0, 0, 0, 0⟩)
abbrev p_wall : Stmt := topS 0
abbrev p_copied : Stmt := topS 2
abbrev c_BadNet_init : Stmt := inClass (topS 4) 0
abbrev c_NoGoal_init : Stmt := inClass (topS 5) 0
abbrev c_NoNode_init : Stmt := inClass (topS 6) 0
abbrev c_BadLot_init : Stmt := inClass (topS 7) 0
abbrev c_Net_init : Stmt := inClass (topS 13) 0
abbrev c_Net_eq : Stmt := inClass (topS 13) 1
abbrev c_Net_tables : Stmt := inClass (topS 13) 2
abbrev c_Net_goals : Stmt := inClass (topS 13) 3
abbrev c_Net_nodes : Stmt := inClass (topS 13) 4
abbrev c_Net_sources : Stmt := inClass (topS 13) 5
abbrev c_Net_posts : Stmt := inClass (topS 13) 6
abbrev c_Net_changing : Stmt := inClass (topS 13) 7
abbrev c_Net_way : Stmt := inClass (topS 13) 8
abbrev c_Net_turned : Stmt := inClass (topS 13) 9
abbrev c_Net_with_way : Stmt := inClass (topS 13) 10
abbrev p_followed : Stmt := topS 14
abbrev p_check_net : Stmt := topS 15
abbrev p_check_goal : Stmt := topS 16
abbrev p_check_node : Stmt := topS 17
abbrev p_is_list : Stmt := topS 18
abbrev p_is_name : Stmt := topS 19
abbrev p_is_place : Stmt := topS 20
abbrev p_are_different : Stmt := topS 21
abbrev p_are_nodes : Stmt := topS 22
abbrev p_are_tables : Stmt := topS 23
abbrev p_is_pair_of_dicts : Stmt := topS 24
abbrev p_is_table : Stmt := topS 25
abbrev p_ways : Stmt := topS 27
abbrev p_ring : Stmt := topS 28
abbrev p_ranks : Stmt := topS 29
abbrev p_led : Stmt := topS 30
abbrev p_reached : Stmt := topS 31
abbrev p_ways_at : Stmt := topS 32
abbrev p_nodes_behind : Stmt := topS 33
abbrev p_nodes_reached : Stmt := topS 34
abbrev p_least_ring : Stmt := topS 35
abbrev p_least_ranks : Stmt := topS 36
abbrev p_check_lot : Stmt := topS 37
abbrev p_check_round : Stmt := topS 38
abbrev p_is_lot_of : Stmt := topS 39
abbrev s_begin : Stmt := topS 41
abbrev s_blend : Stmt := topS 42
abbrev s_pick : Stmt := topS 43
abbrev s_mixed : Stmt := topS 44
abbrev s_take : Stmt := topS 45
abbrev s_words : Stmt := topS 46
abbrev s_tree : Stmt := topS 47
abbrev s_path : Stmt := topS 48
abbrev s_wild : Stmt := topS 49
abbrev s_near : Stmt := topS 50
abbrev s_pair : Stmt := topS 51
abbrev s_model : Stmt := topS 52
abbrev s_net : Stmt := topS 53
abbrev s_moving_dots : Stmt := topS 54
abbrev s_round : Stmt := topS 55
abbrev s_named : Stmt := topS 56
abbrev s_turned_right : Stmt := topS 57
abbrev s_parts_right : Stmt := topS 58
abbrev s_named_right : Stmt := topS 59
abbrev s_law : Stmt := topS 60
end Rw
end T_T0

section T_M0
set_option Elab.async false
set_option linter.all false
set_option maxRecDepth 100000
set_option maxHeartbeats 1000000
namespace Rw
open PySem L2 PyProof.Rows
/-! ### names as lists of code points -/
def Nm (z : Str) : Prop := ∃ l : List Nat, z = SX.S l ∧ 1 ≤ l.length ∧ l.length ≤ 6 ∧ ∀ x ∈ l, 97 ≤ x ∧ x ≤ 122
theorem nm_len {z : Str} (h : Nm z) : z.length ≤ 6 := by
  obtain ⟨l, rfl, _, h2, _⟩ := h
  rw [SX.S_len]
  exact h2
theorem nm_ok {z : Str} (h : Nm z) : PyData.strOk z = true := by
  obtain ⟨l, rfl, _, _, h3⟩ := h
  show (l.toArray.all (· < 0x110000)) = true
  rw [List.all_toArray, List.all_eq_true]
  intro x hx
  have := h3 x hx
  exact decide_eq_true (by omega)
theorem nm_data {K : PySem.W.Frag} {H : Hp} {z : Str} (h : Nm z) : DataV K H (.str z) := strV_data (nm_ok h)
theorem inV_str (z : Str) : ∀ zs : List Str, inV (.str z) (zs.map V.str) = decide (z ∈ zs)
  | [] => rfl
  | y :: r => by
    show ((y == z) || inV (.str z) (r.map V.str)) = decide (z ∈ y :: r)
    rw [inV_str z r]
    by_cases e : y = z
    · subst e
      rw [beq_self_eq_true, decide_eq_true (List.mem_cons_self)]
      rfl
    · have e1 : (y == z) = false := beq_eq_false_iff_ne.mpr e
      rw [e1]
      by_cases m : z ∈ r
      · rw [decide_eq_true m, decide_eq_true (List.mem_cons_of_mem _ m)]
        rfl
      · rw [decide_eq_false m, decide_eq_false (fun h => (List.mem_cons.mp h).elim (fun q => e q.symm) m)]
        rfl
theorem flat_strs : ∀ zs : List Str, (zs.map V.str).all flatV = true
  | [] => rfl
  | _ :: r => by
    show (true && (r.map V.str).all flatV) = true
    rw [flat_strs r]
    rfl
theorem join_signs : ∀ cs : List Nat, Txt.join Str.empty (cs.map fun x => SX.S [x]) = SX.S cs := fun cs => by
  rw [show Txt.join Str.empty (cs.map fun x => SX.S [x]) = Str.join Str.empty (cs.map fun x => SX.S [x]) from StrLaws.glued_eq_join _ _]
  induction cs with
  | nil => rfl
  | cons x r ih =>
    show Str.join ⟨#[]⟩ (SX.S [x] :: r.map fun x => SX.S [x]) = SX.S (x :: r)
    rw [PyProof.Rows.join_nil_cons]
    show SX.S [x] ++ Str.join Str.empty (r.map fun x => SX.S [x]) = SX.S (x :: r)
    rw [ih, SX.S_cat]
    rfl
theorem cut5 (l : List Nat) : cutS (SX.S l) none (some 5) = SX.S (l.take 5) := by
  unfold cutS
  rw [show HT.sIx (SX.S l).length 0 none = 0 from rfl, show HT.sIx (SX.S l).length (SX.S l).length (some 5) = min 5 (SX.S l).length from HT.sIx_nat _ _ 5, SX.S_len]
  show SX.S ((l.drop 0).take (min 5 l.length - 0)) = SX.S (l.take 5)
  rw [List.drop_zero, Nat.sub_zero]
  congr 1
  by_cases h : 5 ≤ l.length
  · rw [Nat.min_eq_left h]
  · rw [Nat.min_eq_right (by omega), List.take_length, List.take_of_length_le (by omega)]
/-- as many different things as ys holds -/
theorem nodup_le {α : Type} [DecidableEq α] : ∀ (xs ys : List α), xs.Nodup → (∀ x ∈ xs, x ∈ ys) → xs.length ≤ ys.length
  | [], _, _, _ => Nat.zero_le _
  | x :: r, ys, h, hs => by
    have h1 : x ∈ ys := hs x List.mem_cons_self
    have h2 := nodup_le r (ys.erase x) (List.nodup_cons.mp h).2 fun y hy => by
      have ne : y ≠ x := fun e => (List.nodup_cons.mp h).1 (e ▸ hy)
      exact (List.mem_erase_of_ne ne).mpr (hs y (List.mem_cons_of_mem _ hy))
    rw [List.length_erase_of_mem h1] at h2
    have h3 : 0 < ys.length := List.length_pos_of_mem h1
    rw [List.length_cons]
    omega
/-- the names near a name: it, and each letter behind its first five -/
def near (l : List Nat) : List Str := SX.S l :: (List.range 26).map fun k => SX.S (l.take 5 ++ [97 + k])
theorem near_nm {l : List Nat} (h1 : 1 ≤ l.length) (h2 : l.length ≤ 6) (h3 : ∀ x ∈ l, 97 ≤ x ∧ x ≤ 122) : ∀ z ∈ near l, Nm z := fun z hz => by
  rcases List.mem_cons.mp hz with rfl | hz
  · exact ⟨l, rfl, h1, h2, h3⟩
  · obtain ⟨k, hk, rfl⟩ := List.mem_map.mp hz
    have hk' := List.mem_range.mp hk
    refine ⟨l.take 5 ++ [97 + k], rfl, by simp, by simp; omega, fun x hx => ?_⟩
    rcases List.mem_append.mp hx with hx | hx
    · exact h3 x (List.mem_of_mem_take hx)
    · rw [List.mem_singleton.mp hx]
      omega
theorem near_nodup (l : List Nat) : ((List.range 26).map fun k => SX.S (l.take 5 ++ [97 + k])).Nodup := by
  refine List.Pairwise.map _ (R := fun a b : Nat => a ≠ b) (fun a b ne e => ?_) List.nodup_range
  have e1 := SX.S_inj e
  have e2 : [97 + a] = [97 + b] := List.append_cancel_left e1
  have e3 : 97 + a = 97 + b := by simpa using e2
  omega
theorem near_some (l : List Nat) (zs : List Str) (h : zs.length < 26) : ∃ z r, (near l).filter (fun z => decide (z ∉ zs)) = z :: r := by
  cases e : (near l).filter (fun z => decide (z ∉ zs)) with
  | cons z r => exact ⟨z, r, rfl⟩
  | nil =>
    exfalso
    have hall : ∀ z ∈ near l, z ∈ zs := fun z hz => by
      by_cases m : z ∈ zs
      · exact m
      · have : z ∈ (near l).filter (fun z => decide (z ∉ zs)) := List.mem_filter.mpr ⟨hz, decide_eq_true m⟩
        rw [e] at this
        cases this
    have h2 := nodup_le _ zs (near_nodup l) fun z hz => hall z (List.mem_cons_of_mem _ hz)
    simp at h2
    omega
theorem nm_by {z : Str} (h : decide (1 ≤ z.cps.toList.length ∧ z.cps.toList.length ≤ 6 ∧ ∀ x ∈ z.cps.toList, 97 ≤ x ∧ x ≤ 122) = true) : Nm z := by
  obtain ⟨h1, h2, h3⟩ := of_decide_eq_true h
  exact ⟨z.cps.toList, (SX.S_tl z).symm, h1, h2, h3⟩
def z26 : Str := "abcdefghijklmnopqrstuvwxyz"
theorem z26_eq : z26.cps.toList = (List.range 26).map fun k => 97 + k := by decide +kernel
def words10 : List Str := ["a", "b", "goal", "home", "lost", "rings", "posts", "done", "way", "zzzzzz"]
theorem words10_nm : ∀ z ∈ words10, Nm z := fun z hz => by
  have h : ∀ z ∈ words10, decide (1 ≤ z.cps.toList.length ∧ z.cps.toList.length ≤ 6 ∧ ∀ x ∈ z.cps.toList, 97 ≤ x ∧ x ≤ 122) = true := by decide +kernel
  exact nm_by (h z hz)
/-- while names are made: those made at f, the ten words at sm -/
structure StW (H H' : Hp) (d g c f sm : Addr) (zs : List Str) : Prop where
  hf : H' f = some (.lst (zs.map V.str))
  hs : off d g H' sm = some (.lst (words10.map V.str))
  dr : DrawAt H' d g c
  ex : Evl.Ex (off d g H) (off d g H')
  n1 : f ≠ d
  n2 : f ≠ g
  n3 : f ≠ sm
theorem StW.call {H H1 H2 : Hp} {d g c f sm : Addr} {zs : List Str} (h : StW H H1 d g c f sm zs) (D : DrawAt H2 d g c) (e : Evl.Ex (off d g H1) (off d g H2)) : StW H H2 d g c f sm zs :=
  ⟨ex_off d g H2 _ _ (e _ _ (off_of h.hf h.n1 h.n2)), e _ _ h.hs, D, h.ex.trans e, h.n1, h.n2, h.n3⟩
theorem StW.new {H H1 : Hp} {d g c f sm p : Addr} {o : HO} {zs : List Str} (h : StW H H1 d g c f sm zs) (hp : H1 p = none) : StW H (upd H1 p o) d g c f sm zs :=
  h.call (h.dr.new hp) (off_ex (Evl.Ex.new hp))
theorem StW.mut {H H1 : Hp} {d g c f sm p : Addr} {o : HO} {zs : List Str} (h : StW H H1 d g c f sm zs) (h0 : H p = none) (nf : p ≠ f) (ns : p ≠ sm) (nd : p ≠ d) (ng : p ≠ g) (nc : p ≠ c) : StW H (upd H1 p o) d g c f sm zs := by
  have hs := off_some h.hs
  exact ⟨by rw [upd_ne nf.symm]; exact h.hf, off_of (by rw [upd_ne ns.symm]; exact hs.2.2) hs.1 hs.2.1, h.dr.mut nd ng nc, off_mut h.ex (off_free h0), h.n1, h.n2, h.n3⟩
theorem StW.free {H H1 : Hp} {d g c f sm p : Addr} {zs : List Str} (h : StW H H1 d g c f sm zs) (hp : H1 p = none) : H p = none ∧ p ≠ f ∧ p ≠ sm ∧ p ≠ d ∧ p ≠ g ∧ p ≠ c := by
  obtain ⟨a1, a2, a3⟩ := h.dr.ned hp
  refine ⟨?_, (ne_of_none h.hf hp).symm, (ne_of_none (off_some h.hs).2.2 hp).symm, a1, a2, a3⟩
  cases e : H p with
  | none => rfl
  | some o =>
    have z := ex_off d g H1 _ _ (h.ex _ _ (off_of e a1 a2))
    rw [hp] at z
    cases z
/-- some names, all different -/
def spWords (K : PySem.W.Frag) : Sp := fun vs H Q _ => ∃ (d g c : Addr) (n : Nat), vs = [.ref d, .int (n : Int)] ∧ DrawAt H d g c ∧ n ≤ 20 ∧
  ∀ (p : Addr) (zs : List Str) (H' : Hp), zs.length = n → zs.Nodup → (∀ z ∈ zs, Nm z) → DrawAt H' d g c → Evl.Ex (off d g H) (off d g H') → H p = none → off d g H' p = some (.lst (zs.map V.str)) → Q (.ref p) H'
end Rw
end T_M0

section T_M1
set_option Elab.async false
set_option linter.all false
set_option maxRecDepth 100000
set_option maxHeartbeats 1000000
namespace Rw
open PySem L2 PyProof.Rows
/-! ### tables: from names to places -/
def tkv (tb : List (Str × V)) : List (Key × V) := tb.map fun q => (Sum.inr q.1, q.2)
/-- a place of z for the goal e -/
def PlaceOk (zs : List Str) (e z : Str) (v : V) : Prop := v = .non ∨ v = .str e ∨ ∃ y ∈ zs, y ≠ z ∧ v = .str y
structure TabOk (zs : List Str) (e : Str) (tb : List (Str × V)) : Prop where
  ks : (tb.map (·.1)).Perm zs
  ps : ∀ q ∈ tb, PlaceOk zs e q.1 q.2
theorem tkv_none {tb : List (Str × V)} {z : Str} (h : z ∉ tb.map (·.1)) : valV (tkv tb) (Sum.inr z) = none := by
  induction tb with
  | nil => rfl
  | cons q r ih =>
    have h1 : q.1 ≠ z := fun e => h (by rw [← e]; exact List.mem_cons_self)
    show valV ((Sum.inr q.1, q.2) :: tkv r) (Sum.inr z) = none
    rw [valV_neg (fun e => h1 (Sum.inr.inj e))]
    exact ih fun hr => h (List.mem_cons_of_mem _ hr)
theorem tkv_some {tb : List (Str × V)} {z : Str} (h : z ∈ tb.map (·.1)) : ∃ v, valV (tkv tb) (Sum.inr z) = some v ∧ (z, v) ∈ tb := by
  induction tb with
  | nil => cases h
  | cons q r ih =>
    by_cases e : q.1 = z
    · refine ⟨q.2, ?_, ?_⟩
      · exact valV_pos (p := (Sum.inr q.1, q.2)) (by rw [e])
      · rw [← e]; exact List.mem_cons_self
    · rcases List.mem_cons.mp h with h | h
      · exact absurd h.symm e
      · obtain ⟨v, h1, h2⟩ := ih h
        refine ⟨v, ?_, List.mem_cons_of_mem _ h2⟩
        show valV ((Sum.inr q.1, q.2) :: tkv r) (Sum.inr z) = some v
        rw [valV_neg (fun x => e (Sum.inr.inj x))]
        exact h1
theorem tkv_new {tb : List (Str × V)} {z : Str} {v : V} (h : z ∉ tb.map (·.1)) : putK (tkv tb) (Sum.inr z) v = tkv (tb ++ [(z, v)]) := by
  rw [putK_new _ (tkv_none h)]
  unfold tkv
  rw [List.map_append]
  rfl
theorem tkv_len (tb : List (Str × V)) : (tkv tb).length = tb.length := by unfold tkv; rw [List.length_map]
theorem str_at {ws : List Str} {i : Nat} {y : V} (h : (ws.map V.str)[i]? = some y) : ∃ z, ws[i]? = some z ∧ y = V.str z := by
  rw [List.getElem?_map] at h
  cases e : ws[i]? with
  | none => rw [e] at h; cases h
  | some z => rw [e] at h; exact ⟨z, rfl, (Option.some.inj h).symm⟩
theorem strs_of : ∀ l : List V, (∀ y ∈ l, ∃ z : Str, y = V.str z) → ∃ ws : List Str, l = ws.map V.str
  | [], _ => ⟨[], rfl⟩
  | y :: r, h => by
    obtain ⟨z, rfl⟩ := h y List.mem_cons_self
    obtain ⟨ws, rfl⟩ := strs_of r fun u hu => h u (List.mem_cons_of_mem _ hu)
    exact ⟨z :: ws, rfl⟩
theorem perm_strs {ys : List V} {zs : List Str} (h : ys.Perm (zs.map V.str)) : ∃ ws : List Str, ys = ws.map V.str ∧ ws.Perm zs := by
  obtain ⟨ws, rfl⟩ := strs_of ys fun y hy => by
    obtain ⟨z, _, e⟩ := List.mem_map.mp (h.subset hy)
    exact ⟨z, e.symm⟩
  refine ⟨ws, rfl, ?_⟩
  have := h.map fun v : V => match v with | .str z => z | _ => Str.empty
  rw [List.map_map, List.map_map] at this
  have i1 : ((fun v : V => match v with | .str z => z | _ => Str.empty) ∘ V.str) = id := rfl
  rw [i1, List.map_id, List.map_id] at this
  exact this
theorem merge_app : ∀ (tb acc : List (Str × V)), ((acc ++ tb).map (·.1)).Nodup → mergeK (tkv acc) (tkv tb) = tkv (acc ++ tb)
  | [], acc, _ => by rw [List.append_nil]; rfl
  | q :: r, acc, h => by
    have h1 : q.1 ∉ acc.map (·.1) := fun hm => by
      rw [List.map_append] at h
      exact (List.nodup_append.mp h).2.2 q.1 hm q.1 List.mem_cons_self rfl
    show mergeK (putK (tkv acc) (Sum.inr q.1) q.2) (tkv r) = tkv (acc ++ q :: r)
    rw [tkv_new h1, merge_app r (acc ++ [(q.1, q.2)]) (by simpa using h)]
    simp
theorem merge_tkv {tb : List (Str × V)} (h : (tb.map (·.1)).Nodup) : mergeK [] (tkv tb) = tkv tb := merge_app tb [] h
theorem cut_last (xs : List V) : cutV xs none (some (-1)) = xs.dropLast := by
  unfold cutV
  rw [show HT.sIx xs.length 0 none = 0 from rfl]
  have e : HT.sIx xs.length xs.length (some (-1)) = xs.length - 1 := by
    unfold HT.sIx
    simp
    omega
  rw [e, List.drop_zero, Nat.sub_zero, List.dropLast_eq_take]
theorem tkv_old {tb : List (Str × V)} {z : Str} {v : V} (h : z ∈ tb.map (·.1)) : putK (tkv tb) (Sum.inr z) v = tkv (tb.map fun q => if q.1 = z then (q.1, v) else q) := by
  unfold putK
  obtain ⟨u, hu, _⟩ := tkv_some h
  rw [valV_any, hu]
  rw [if_pos (show (some u).isSome = true from rfl)]
  unfold tkv
  rw [List.map_map, List.map_map]
  refine List.map_congr_left fun q _ => ?_
  show (if (Sum.inr q.1 : Key) = Sum.inr z then ((Sum.inr q.1 : Key), v) else (Sum.inr q.1, q.2)) = (Sum.inr (if q.1 = z then (q.1, v) else q).1, (if q.1 = z then (q.1, v) else q).2)
  by_cases e : q.1 = z
  · rw [if_pos e, if_pos (congrArg Sum.inr e)]
  · rw [if_neg e, if_neg fun w => e (Sum.inr.inj w)]
theorem TabOk.put {zs : List Str} {e z : Str} {tb : List (Str × V)} {v : V} (h : TabOk zs e tb) (hv : PlaceOk zs e z v) : TabOk zs e (tb.map fun q => if q.1 = z then (q.1, v) else q) := by
  refine ⟨?_, ?_⟩
  · have e1 : (tb.map fun q => if q.1 = z then (q.1, v) else q).map (·.1) = tb.map (·.1) := by
      rw [List.map_map]
      refine List.map_congr_left fun q _ => ?_
      show (if q.1 = z then (q.1, v) else q).1 = q.1
      by_cases e : q.1 = z
      · rw [if_pos e]
      · rw [if_neg e]
    rw [e1]
    exact h.ks
  · intro q hq
    obtain ⟨r, hr, rfl⟩ := List.mem_map.mp hq
    by_cases e : r.1 = z
    · rw [if_pos e]
      show PlaceOk zs _ r.1 v
      rw [e]
      exact hv
    · rw [if_neg e]
      exact h.ps r hr
/-- a row of names, each of which leads to the next one, the last one to e -/
def pathTab (ws : List Str) (e : Str) : List (Str × V) := ws.zip ((ws ++ [e]).tail.map V.str)
theorem pathTab_get {ws : List Str} {e x : Str} {i : Nat} (h : ws[i]? = some x) : ∃ y, (ws ++ [e])[i + 1]? = some y ∧ (pathTab ws e)[i]? = some (x, .str y) := by
  have hi : i < ws.length := (List.getElem?_eq_some_iff.mp h).1
  have h1 : i + 1 < (ws ++ [e]).length := by simp; omega
  refine ⟨(ws ++ [e])[i + 1], List.getElem?_eq_getElem h1, ?_⟩
  unfold pathTab
  rw [List.getElem?_zip_eq_some]
  refine ⟨h, ?_⟩
  rw [List.getElem?_map, List.getElem?_tail, List.getElem?_eq_getElem h1]
  rfl
theorem pathTab_keys (ws : List Str) (e : Str) : (pathTab ws e).map (·.1) = ws := by
  unfold pathTab
  exact List.map_fst_zip (by simp)
theorem pathTab_ok {ws zs : List Str} {e : Str} (hw : ws.Perm zs) (hnd : zs.Nodup) : TabOk zs e (pathTab ws e) := by
  refine ⟨by rw [pathTab_keys]; exact hw, ?_⟩
  rintro ⟨x, v⟩ hq
  obtain ⟨i, hi, hi'⟩ := List.getElem_of_mem hq
  have hx : ws[i]? = some x := by
    have := congrArg (fun l => l[i]?) (pathTab_keys ws e)
    simp only [List.getElem?_map, List.getElem?_eq_getElem hi, hi', Option.map_some] at this
    exact this.symm
  obtain ⟨y, h1, h2⟩ := pathTab_get (e := e) hx
  rw [List.getElem?_eq_getElem hi, hi'] at h2
  have hv : v = .str y := congrArg Prod.snd (Option.some.inj h2)
  show PlaceOk zs e x v
  subst hv
  have wnd : ws.Nodup := hw.nodup_iff.mpr hnd
  by_cases hl : i + 1 < ws.length
  · rw [List.getElem?_append_left hl] at h1
    refine .inr (.inr ⟨y, hw.subset (List.mem_of_getElem? h1), fun q => ?_, rfl⟩)
    subst q
    have := (List.getElem?_inj (i := i + 1) (j := i) hl wnd).mp (h1.trans hx.symm)
    omega
  · have hi2 : i < ws.length := (List.getElem?_eq_some_iff.mp hx).1
    rw [List.getElem?_append_right (by omega), show i + 1 - ws.length = 0 by omega] at h1
    exact .inr (.inl (congrArg V.str (Option.some.inj h1).symm))
/-- a new table of the names at a list, for a goal -/
def spTab (K : PySem.W.Frag) : Sp := fun vs H Q _ => ∃ (d g c a : Addr) (zs : List Str) (e : Str), vs = [.ref d, .ref a, .str e] ∧ DrawAt H d g c ∧ SqL K (off d g H) a (zs.map V.str) ∧ zs.Nodup ∧ (∀ z ∈ zs, Nm z) ∧ Nm e ∧ e ∉ zs ∧ zs.length ≤ 10 ∧
  ∀ (p : Addr) (tb : List (Str × V)) (H' : Hp), TabOk zs e tb → DrawAt H' d g c → Evl.Ex (off d g H) (off d g H') → H p = none → off d g H' p = some (.dK (tkv tb)) → Q (.ref p) H'
/-- a table that is like another one -/
def spNear (K : PySem.W.Frag) : Sp := fun vs H Q _ => ∃ (d g c t : Addr) (zs : List Str) (e : Str) (tb : List (Str × V)), vs = [.ref d, .ref t, .str e] ∧ DrawAt H d g c ∧ off d g H t = some (.dK (tkv tb)) ∧ TabOk zs e tb ∧ zs.Nodup ∧ 0 < zs.length ∧ zs.length ≤ 10 ∧
  ∀ (p : Addr) (tb' : List (Str × V)) (H' : Hp), TabOk zs e tb' → DrawAt H' d g c → Evl.Ex (off d g H) (off d g H') → H p = none → off d g H' p = some (.dK (tkv tb')) → Q (.ref p) H'
end Rw
end T_M1

section T_M2
set_option Elab.async false
set_option linter.all false
set_option maxRecDepth 100000
set_option maxHeartbeats 1000000
namespace Rw
open PySem L2 PyProof.Rows
theorem ex_free {d g p : Addr} {H H' : Hp} (x : Evl.Ex (off d g H) (off d g H')) (h1 : p ≠ d) (h2 : p ≠ g) (h : H' p = none) : H p = none := by
  cases e : H p with
  | none => rfl
  | some o =>
    have z := ex_off d g H' _ _ (x _ _ (off_of e h1 h2))
    rw [h] at z
    cases z
/-- at p a pair of tables for the goal e -/
structure PairAt (H : Hp) (zs : List Str) (e : Str) (p po pn : Addr) (t1 t2 : List (Str × V)) : Prop where
  hp : H p = some (.tup [.ref po, .ref pn])
  ho : H po = some (.dK (tkv t1))
  hn : H pn = some (.dK (tkv t2))
  o1 : TabOk zs e t1
  o2 : TabOk zs e t2
theorem PairAt.ex {H H' : Hp} {zs : List Str} {e : Str} {p po pn : Addr} {t1 t2 : List (Str × V)} (h : PairAt H zs e p po pn t1 t2) (x : Evl.Ex H H') : PairAt H' zs e p po pn t1 t2 := ⟨x _ _ h.hp, x _ _ h.ho, x _ _ h.hn, h.o1, h.o2⟩
def spPair (K : PySem.W.Frag) : Sp := fun vs H Q _ => ∃ (d g c a : Addr) (zs : List Str) (e : Str), vs = [.ref d, .ref a, .str e] ∧ DrawAt H d g c ∧ SqL K (off d g H) a (zs.map V.str) ∧ zs.Nodup ∧ (∀ z ∈ zs, Nm z) ∧ Nm e ∧ e ∉ zs ∧ 0 < zs.length ∧ zs.length ≤ 10 ∧
  ∀ (p po pn : Addr) (t1 t2 : List (Str × V)) (H' : Hp), DrawAt H' d g c → Evl.Ex (off d g H) (off d g H') → PairAt (off d g H') zs e p po pn t1 t2 → H p = none → H po = none → H pn = none → Q (.ref p) H'
/-- the rows of a model: from each goal to a pair of tables -/
def RowsOk (H : Hp) (dots : List Str) (rows : List (Str × V)) : Prop := ∀ q ∈ rows, ∃ (p po pn : Addr) (t1 t2 : List (Str × V)), q.2 = .ref p ∧ PairAt H dots q.1 p po pn t1 t2
theorem RowsOk.ex {H H' : Hp} {dots : List Str} {rows : List (Str × V)} (h : RowsOk H dots rows) (x : Evl.Ex H H') : RowsOk H' dots rows := fun q hq => by
  obtain ⟨p, po, pn, t1, t2, e, z⟩ := h q hq
  exact ⟨p, po, pn, t1, t2, e, z.ex x⟩
theorem TabOk.perm {zs ys : List Str} {e : Str} {tb : List (Str × V)} (h : TabOk zs e tb) (hp : zs.Perm ys) : TabOk ys e tb := by
  refine ⟨h.ks.trans hp, fun q hq => ?_⟩
  rcases h.ps q hq with z | z | ⟨y, hy, hne, z⟩
  · exact .inl z
  · exact .inr (.inl z)
  · exact .inr (.inr ⟨y, hp.subset hy, hne, z⟩)
theorem tkv_inj : ∀ {t1 t2 : List (Str × V)}, tkv t1 = tkv t2 → t1 = t2
  | [], [], _ => rfl
  | [], _ :: _, h => by cases h
  | _ :: _, [], h => by cases h
  | a :: r, b :: q, h => by
    have h1 : ((Sum.inr a.1 : Key), a.2) :: tkv r = (Sum.inr b.1, b.2) :: tkv q := h
    obtain ⟨h2, h3⟩ := List.cons.inj h1
    obtain ⟨e1, e2⟩ := Prod.mk.inj h2
    rw [tkv_inj h3, Prod.ext (Sum.inr.inj e1) e2]
theorem tab_ne {H : Hp} {dots zs : List Str} {e : Str} {rows t1 : List (Str × V)} {t po : Addr} (ht : H t = some (.dK (tkv rows))) (hr : RowsOk H dots rows) (h0 : rows ≠ []) (ho : H po = some (.dK (tkv t1))) (o1 : TabOk zs e t1) : po ≠ t := fun z => by
  subst z
  rw [ht] at ho
  have e1 := tkv_inj (HO.dK.inj (Option.some.inj ho))
  cases rows with
  | nil => exact h0 rfl
  | cons q r =>
    obtain ⟨p, _, _, _, _, e2, _⟩ := hr q List.mem_cons_self
    have h3 := o1.ps q (by rw [← e1]; exact List.mem_cons_self)
    rw [e2] at h3
    rcases h3 with h3 | h3 | ⟨_, _, _, h3⟩ <;> cases h3
theorem tkv_keysV (tb : List (Str × V)) : ((tkv tb).map fun kv => kV kv.1) = (tb.map (·.1)).map V.str := by
  unfold tkv
  rw [List.map_map, List.map_map]
  rfl
/-- what a model is, without the heap -/
structure ModelOk (ends dots ss ps : List Str) : Prop where
  e0 : 0 < ends.length
  e2 : ends.length ≤ 2
  en : ends.Nodup
  es : sortedS ends = true
  em : ∀ z ∈ ends, Nm z
  d0 : 0 < dots.length
  d6 : dots.length ≤ 6
  dn : dots.Nodup
  ds : sortedS dots = true
  dm : ∀ z ∈ dots, Nm z
  ed : ∀ z ∈ ends, z ∉ dots
  sn : ss.Nodup
  sss : sortedS ss = true
  sd : ∀ z ∈ ss, z ∈ dots
  pn : ps.Nodup
  p2 : ps.length ≤ 2
  pd : ∀ z ∈ ps, z ∈ dots
def mkv (tb db sb pb : Addr) : List (Key × V) := [(.inr "tables", .ref tb), (.inr "dots", .ref db), (.inr "sources", .ref sb), (.inr "posts", .ref pb)]
theorem mkv_tables (tb db sb pb : Addr) : valV (mkv tb db sb pb) (.inr "tables") = some (.ref tb) := by kernel_rfl
theorem mkv_dots (tb db sb pb : Addr) : valV (mkv tb db sb pb) (.inr "dots") = some (.ref db) := by kernel_rfl
theorem mkv_sources (tb db sb pb : Addr) : valV (mkv tb db sb pb) (.inr "sources") = some (.ref sb) := by kernel_rfl
theorem mkv_posts (tb db sb pb : Addr) : valV (mkv tb db sb pb) (.inr "posts") = some (.ref pb) := by kernel_rfl
/-- a model stands at m -/
structure ModelAt (H : Hp) (m tb db sb pb : Addr) (ends dots ss ps : List Str) (rows : List (Str × V)) : Prop where
  hm : H m = some (.dK (mkv tb db sb pb))
  ht : H tb = some (.dK (tkv rows))
  hd : H db = some (.lst (dots.map V.str))
  hs : H sb = some (.lst (ss.map V.str))
  hp : H pb = some (.lst (ps.map V.str))
  rk : rows.map (·.1) = ends
  ro : RowsOk H dots rows
  ok : ModelOk ends dots ss ps
theorem ModelAt.ex {H H' : Hp} {m tb db sb pb : Addr} {ends dots ss ps : List Str} {rows : List (Str × V)} (h : ModelAt H m tb db sb pb ends dots ss ps rows) (x : Evl.Ex H H') : ModelAt H' m tb db sb pb ends dots ss ps rows :=
  ⟨x _ _ h.hm, x _ _ h.ht, x _ _ h.hd, x _ _ h.hs, x _ _ h.hp, h.rk, h.ro.ex x, h.ok⟩
/-- a new model -/
def spModel : Sp := fun vs H Q _ => ∃ (d g c : Addr) (e k : Int), vs = [.ref d, .int e, .int k] ∧ DrawAt H d g c ∧ 0 < e ∧ e ≤ 2 ∧ 0 < k ∧ k ≤ 6 ∧
  ∀ (m tb db sb pb : Addr) (ends dots ss ps : List Str) (rows : List (Str × V)) (H' : Hp), DrawAt H' d g c → Evl.Ex (off d g H) (off d g H') → ModelAt (off d g H') m tb db sb pb ends dots ss ps rows → Q (.ref m) H'
end Rw
end T_M2

section T_S0
set_option Elab.async false
set_option linter.all false
set_option maxRecDepth 100000
set_option maxHeartbeats 2000000
namespace Rw
open PySem PySem.Spec L2 PyProof.Rows
/-! ### sets of texts -/
def txt (e : Int × Value) : Str := match e.2 with | .str z _ => z | _ => Str.empty
def GoodT (w : World) (e : Int × Value) : Prop := ∃ z tk, e.2 = Value.str z tk ∧ e.1 = hashStr w z
/-- at a the set of the texts ks -/
def SetX (w : World) (h : Heap) (a : Addr) (ks : List Str) : Prop :=
  ∃ o es ep t, h.get? a = some o ∧ o.ExactSet ∧ o.data = .set es ep t ∧ (∀ e ∈ es.toList, GoodT w e) ∧ (es.toList.map txt).Perm ks ∧ ks.Nodup ∧ es.size < scanBound ∧ t.fits es.size = true ∧
    Ris t.place.toList ∧ (w.params.followText "set-order" = true ∨ t.led = true)
section
variable {P : Program} {w : World} {A : Around} {E : Value → Shared → Prop} {s : Shared} {a : Addr} {ks : List Str}
theorem SetX.keep {h h' : Heap} (R : SetX w h a ks) (k : ∀ o, h.get? a = some o → h'.get? a = some o) : SetX w h' a ks := by
  obtain ⟨o, es, ep, t, ho, rest⟩ := R
  exact ⟨o, es, ep, t, k o ho, rest⟩
theorem SetX.size {h : Heap} (R : SetX w h a ks) : ∃ o es ep t, h.get? a = some o ∧ o.ExactSet ∧ o.data = .set es ep t ∧ t.fits es.size = true ∧ es.size = ks.length := by
  obtain ⟨o, es, ep, t, ho, hex, hd, _, pm, _, _, hf, _⟩ := R
  refine ⟨o, es, ep, t, ho, hex, hd, hf, ?_⟩
  rw [← pm.length_eq, List.length_map, Array.length_toList]
theorem goodT_elems {l : List (Int × Value)} (g : ∀ e ∈ l, GoodT w e) : ElemsOf (PySem.strKind P w) l := fun e he => by
  obtain ⟨z, tk, h1, h2⟩ := g e he
  refine ⟨⟨z, by rw [h1]; exact strKind_is _ _ _ _, h2⟩, ?_⟩
  rw [h1]
  rfl
theorem goodT_is {e : Int × Value} (g : GoodT w e) (z : Str) : (PySem.strKind P w).is z e.2 = true ↔ txt e = z := by
  obtain ⟨y, tk, h1, _⟩ := g
  unfold txt
  rw [h1]
  show ((y == z) = true) ↔ y = z
  exact beq_iff_eq
/-- what a new element leaves -/
theorem setX_tail {g : Bool → Sem Unit} (quiet : ∀ (b : Bool) (s₁ : Shared) (Q' : Unit → Shared → Prop), Q' () s₁ → wpAny (model P w) A (g b) Q' E s₁) {o : Obj} {es : Array (Int × Value)} {ep : Nat} {t : SetTable}
    (ho : s.heap.get? a = some o) (hex : o.ExactSet) (hd : o.data = .set es ep t) {es1 : Array (Int × Value)} {t2 : SetTable} (g1 : ∀ e ∈ es1.toList, GoodT w e) (pm1 : (es1.toList.map txt).Perm ks) (nd1 : ks.Nodup)
    (few : es1.size < scanBound) (fit2 : t2.fits es1.size = true) (rise : Ris t2.place.toList) (order : w.params.followText "set-order" = true ∨ t2.led = true) {wasDummy : Bool} {R : Option Bool → Shared → Prop}
    (hR : ∀ h', Heap.SameBut a s.heap h' → SetX w h' a ks → R (some true) { s with heap := h' }) :
    wpAny (model P w) A (do
        storeSet a es1 t2
        if (!wasDummy && t2.tooFull) = true then do
            g (relayAll t2 es1 (SetTable.grown es1.size)).2.2
            storeSet a (relayAll t2 es1 (SetTable.grown es1.size)).1 (relayAll t2 es1 (SetTable.grown es1.size)).2.1
            pure (some true)
          else pure (some true)) R E s := by
  refine wpAny_bind (wpAny_storeSet_of ho hd ?_ (fits_of_scanBound few))
  have at1 := store_at (es' := es1) (t' := t2) ho hd
  have same1 := Heap.SameBut.update s.heap a (Obj.putSet es1 t2)
  split
  · have perm3 := relayAll_perm t2 es1 (SetTable.grown es1.size)
    have fit3 := relayAll_fits t2 es1 (SetTable.grown es1.size)
    have rise3 := relayAll_ris t2 es1 (SetTable.grown es1.size)
    have led3 := relayAll_led t2 es1 (SetTable.grown es1.size)
    generalize relayAll t2 es1 (SetTable.grown es1.size) = out at perm3 fit3 rise3 led3 ⊢
    obtain ⟨es2, t3, gave⟩ := out
    dsimp only at perm3 fit3 rise3 led3 ⊢
    have same_size : es2.size = es1.size := by rw [← Array.length_toList, perm3.length_eq, Array.length_toList]
    have few2 : es2.size < scanBound := by omega
    refine wpAny_bind (quiet _ _ _ ?_)
    refine wpAny_bind (wpAny_storeSet_of at1 rfl ?_ (fits_of_scanBound few2))
    refine wpAny_pure (hR _ (same1.trans (Heap.SameBut.update _ a _)) ?_)
    exact ⟨_, es2, _, t3, store_at (es' := es2) (t' := t3) at1 rfl, hex, rfl, fun e he => g1 e (perm3.mem_iff.mp he), (perm3.map txt).trans pm1, nd1, few2, fit3, rise3, order.imp id fun z => by rw [led3]; exact z⟩
  · exact wpAny_pure (hR _ same1 ⟨_, es1, _, t2, at1, hex, rfl, g1, pm1, nd1, few, fit2, rise, order⟩)
/-- a text is put in -/
theorem setX_add {z : Str} {tk : Tok} {Q : Bool → Shared → Prop} (R : SetX w s.heap a ks) (room : ks.length + 1 < scanBound)
    (hQ : ∀ h', Heap.SameBut a s.heap h' → SetX w h' a (if z ∈ ks then ks else z :: ks) → ∀ b, Q b { s with heap := h' }) :
    wpAny (model P w) A (setAddHashed a (.str z tk) (hashStr w z)) Q E s := by
  obtain ⟨o, es, ep, t, ho, hex, hd, g, pm, nd, hb, hf, hr, hl⟩ := R
  have is_z : (PySem.strKind P w).is z (.str z tk) = true := strKind_is _ _ _ _
  have scans : (Value.str z tk).scannable = true := rfl
  have elems : ElemsOf (PySem.strKind P w) es.toList := goodT_elems g
  have same_hash : hashStr w z = (PySem.strKind P w).hash z := rfl
  rw [same_hash]
  unfold setAddHashed setAddHashedIn
  refine wpAny_holding (wpAny_bind (wpAny_setState_of ho hd hf ?_))
  dsimp only
  rw [byScan_of scans hb elems]
  simp only [↓reduceIte]
  unfold setAddByScan
  refine wpAny_bind ?_
  refine wpAny_bind (wpAny_rule ?_)
  refine wpAny_bind (wpAny_setScan_of is_z ho hd hf elems ?_)
  cases there : List.findIdx? (fun e => (PySem.strKind P w).is z e.2) es.toList with
  | some j =>
    dsimp only
    obtain ⟨hj, at_j, _⟩ := List.findIdx?_eq_some_iff_getElem.mp there
    have mem : z ∈ ks := pm.mem_iff.mp (List.mem_map.mpr ⟨es.toList[j], List.getElem_mem hj, (goodT_is (P := P) (g _ (List.getElem_mem hj)) z).mp at_j⟩)
    refine wpAny_pure (wpAny_pure ?_)
    have q := hQ s.heap (Heap.SameBut.refl a s.heap)
    rw [if_pos mem] at q
    exact q ⟨o, es, ep, t, ho, hex, hd, g, pm, nd, hb, hf, hr, hl⟩ _
  | none =>
    dsimp only
    have notin : z ∉ ks := fun mem => by
      obtain ⟨e, he, q⟩ := List.mem_map.mp (pm.mem_iff.mpr mem)
      have no := List.findIdx?_eq_none_iff.mp there e he
      rw [(goodT_is (P := P) (g e he) z).mpr q] at no
      cases no
    have quiet : ∀ (b : Bool) {s₁ : Shared} {Q' : Unit → Shared → Prop}, Q' () s₁ → wpAny (model P w) A (match b with | true => rule "set.scan.the-table-gave-way" | false => pure ()) Q' E s₁ :=
      fun b s₁ Q' q => by cases b <;> first | exact wpAny_pure q | exact wpAny_rule q
    have perm1 := layNew_perm t es ((PySem.strKind P w).hash z) (.str z tk)
    have fit1 := layNew_fits t es ((PySem.strKind P w).hash z) (.str z tk)
    have rise1 := layNew_ris t es ((PySem.strKind P w).hash z) (.str z tk) hr
    have led1 := layNew_led t es ((PySem.strKind P w).hash z) (.str z tk)
    generalize layNew t es ((PySem.strKind P w).hash z) (.str z tk) = out at perm1 fit1 rise1 led1 ⊢
    obtain ⟨es1, t1, wasDummy, gave⟩ := out
    dsimp only at perm1 fit1 rise1 led1 ⊢
    rw [Array.toList_push] at perm1
    have permc : es1.toList.Perm (((PySem.strKind P w).hash z, Value.str z tk) :: es.toList) := perm1.trans (List.perm_append_singleton _ _)
    have permk : (es1.toList.map txt).Perm (z :: ks) := (permc.map txt).trans (List.Perm.cons _ pm)
    have good1 : ∀ e ∈ es1.toList, GoodT w e := fun e he => by
      rcases List.mem_cons.mp (permc.mem_iff.mp he) with q | q
      · rw [q]; exact ⟨z, tk, rfl, rfl⟩
      · exact g e q
    have nd1 : (z :: ks).Nodup := List.nodup_cons.mpr ⟨notin, nd⟩
    have size1 : es1.size = ks.length + 1 := by
      have := permk.length_eq
      rw [List.length_map, Array.length_toList] at this
      exact this
    have few1 : es1.size < scanBound := by omega
    have order1 : w.params.followText "set-order" = true ∨ t1.led = true := hl.imp id fun q => by rw [led1]; exact q
    have fin : ∀ h', Heap.SameBut a s.heap h' → SetX w h' a (z :: ks) → Q true { s with heap := h' } := fun h' sb r => by
      have q := hQ h' sb
      rw [if_neg notin] at q
      exact q r _
    refine wpAny_bind (quiet _ ?_)
    split
    · refine wpAny_bind ?_
      rw [hashByValue_scannable 8 scans]
      refine wpAny_pure ?_
      refine setX_tail ?_ ho hex hd good1 permk nd1 few1 ?_ ?_ ?_ ?_
      · intro b s₁ Q' q; cases b <;> first | exact wpAny_pure q | exact wpAny_rule q
      · first | (split <;> first | exact fit1 | exact SetTable.fits_plain_off fit1) | exact fit1
      · first | (split <;> exact rise1) | exact rise1
      · first | (split <;> exact order1) | exact order1
      · intro h' sb r; dsimp only; exact wpAny_pure (fin h' sb r)
    · refine wpAny_bind (wpAny_pure ?_)
      simp only [↓reduceIte]
      refine setX_tail ?_ ho hex hd good1 permk nd1 few1 fit1 rise1 order1 ?_
      · intro b s₁ Q' q; cases b <;> first | exact wpAny_pure q | exact wpAny_rule q
      · intro h' sb r; dsimp only; exact wpAny_pure (fin h' sb r)
end
end Rw
end T_S0

section T_S1
set_option Elab.async false
set_option linter.all false
set_option maxRecDepth 100000
set_option maxHeartbeats 4000000
namespace Rw
open PySem PySem.Spec L2 PyProof.Rows
/-! ### set(texts) -/
def put1 (ks : List Str) (z : Str) : List Str := if z ∈ ks then ks else z :: ks
def seen (l : List Str) : List Str := l.foldl put1 []
theorem seen_snoc (l : List Str) (z : Str) : seen (l ++ [z]) = put1 (seen l) z := by
  unfold seen
  rw [List.foldl_append]
  rfl
theorem seen_rev : ∀ l : List Str, (seen l).Nodup ∧ (∀ z, z ∈ seen l ↔ z ∈ l) ∧ (seen l).length ≤ l.length := by
  have go : ∀ (r : List Str), (seen r.reverse).Nodup ∧ (∀ z, z ∈ seen r.reverse ↔ z ∈ r.reverse) ∧ (seen r.reverse).length ≤ r.reverse.length := fun r => by
    induction r with
    | nil => exact ⟨List.nodup_nil, fun z => Iff.rfl, Nat.le_refl _⟩
    | cons x r ih =>
      obtain ⟨h1, h2, h3⟩ := ih
      rw [List.reverse_cons, seen_snoc]
      unfold put1
      by_cases m : x ∈ seen r.reverse
      · rw [if_pos m]
        refine ⟨h1, fun z => ?_, by simp; rw [List.length_reverse] at h3; omega⟩
        rw [h2, List.mem_append, List.mem_singleton]
        exact ⟨.inl, fun q => q.elim id fun e => by rw [e]; exact (h2 x).mp m⟩
      · rw [if_neg m]
        refine ⟨List.nodup_cons.mpr ⟨m, h1⟩, fun z => ?_, by simp; rw [List.length_reverse] at h3; omega⟩
        rw [List.mem_cons, h2, List.mem_append, List.mem_singleton]
        exact Or.comm
  intro l
  have := go l.reverse
  rw [List.reverse_reverse] at this
  exact this
theorem seen_perm {l : List Str} (h : l.Nodup) : (seen l).Perm l := by
  obtain ⟨h1, h2, _⟩ := seen_rev l
  exact (List.perm_ext_iff_of_nodup h1 h).mpr h2
theorem seen_len {l : List Str} (h : l.Nodup) : (seen l).length = l.length := (seen_perm h).length_eq
section
variable {prog : Program} {w : World} {A : Around} {R : Result → Shared → Prop} {I : Addr} {fp wr : List Addr} {G : Array GenState → Array GenState → Prop} {n : Nat} {P : Nat → Value → Prop} {St : Nat → Shared → Prop}
theorem setX_loop (W : WalksS prog w A.in1 I fp wr G n P St) (S : Addr) (apart : S ∉ fp) (xs : List Str) (many : xs.length = n) (few : n < 1000) (texts : ∀ i v, P i v → ∃ t, v = .str (xs.getD i Str.empty) t) :
    ∀ (left i : Nat) (s : Shared), n - i = left → i ≤ n → St i s → SetX w s.heap S (seen (xs.take i)) → (∀ s', Moved (S :: wr) G s s' → SetX w s'.heap S (seen xs) → R (.ok (.ret .none)) s') →
      codeAny (model prog w) A (.builtin "set.update.loop" ⟨[.ref S, .ref I], []⟩) R s := by
  have apart2 : S ∉ wr := fun h => apart (W.sub _ h)
  have wider : ∀ b ∈ wr, b ∈ S :: wr := fun b hb => List.mem_cons_of_mem _ hb
  intro left
  induction left with
  | zero =>
    intro i s hl hi here set_s go
    have at_end : i = n := by omega
    subst at_end
    refine codeAny_builtin PyProof.Rows.F.entry_set_update_loop ?_
    rw [Around.under_plainId PyProof.Rows.F.plain_set_update_loop _]
    show wpAny _ A.in1 (pyNext (.ref I) >>= _) _ _ s
    refine wpAny_bind (W.done s _ _ here fun s' moved => ?_)
    show wpAny _ A.in1 (ret Value.none) _ _ s'
    refine wpAny_pure (go s' (moved.mono wider) ?_)
    rw [List.take_of_length_le (by omega)] at set_s
    exact set_s.keep fun o e => moved.heap S o apart2 e
  | succ left ih =>
    intro i s hl hi here set_s go
    have more : i < n := by omega
    refine codeAny_builtin PyProof.Rows.F.entry_set_update_loop ?_
    rw [Around.under_plainId PyProof.Rows.F.plain_set_update_loop _]
    show wpAny _ A.in1 (pyNext (.ref I) >>= _) _ _ s
    refine wpAny_bind (W.item i s _ _ more here fun v s' is_v here' moved => ?_)
    obtain ⟨t, rfl⟩ := texts i v is_v
    have set_s' : SetX w s'.heap S (seen (xs.take i)) := set_s.keep fun o e => moved.heap S o apart2 e
    have is_i : xs.getD i Str.empty = xs[i]'(by omega) := by rw [List.getD_eq_getElem?_getD, List.getElem?_eq_getElem (by omega)]; rfl
    show wpAny _ A.in1 (holding [Value.str (xs.getD i Str.empty) t] (setAdd S (.str (xs.getD i Str.empty) t)) >>= _) _ _ s'
    refine wpAny_bind (wpAny_holding ?_)
    unfold setAdd
    refine wpAny_holding ?_
    refine wpAny_bind ((PySem.strKind prog w).pyHash (k := xs.getD i Str.empty) (strKind_is _ _ _ _) ?_)
    refine setX_add (P := prog) (s := { s' with toks := s'.toks + 1 }) set_s' ?_ fun h' same set_h b => ?_
    · have := (seen_rev (xs.take i)).2.2
      rw [List.length_take] at this
      unfold scanBound
      omega
    have set_next : SetX w h' S (seen (xs.take (i + 1))) := by
      have e : xs.take (i + 1) = xs.take i ++ [xs.getD i Str.empty] := by rw [List.take_add_one, List.getElem?_eq_getElem (show i < xs.length by omega), is_i]; rfl
      rw [e, seen_snoc]
      exact set_h
    refine wpAny_pure ⟨plainId_quiet PyProof.Rows.F.plain_set_update_loop _, ih (i + 1) _ (by omega) more (W.frame _ s' _ _ here' (Nat.le_succ _) fun b hb o e => ?_) set_next fun s'' moved2 set_all => ?_⟩
    · rw [same.2 b (fun h : b = S => apart (by rw [← h]; exact hb))]
      exact e
    · refine go s'' (Moved.trans W.gtrans ((moved.mono wider).then_heap (Nat.le_succ _) fun b o hb e => ?_) moved2) set_all
      rw [same.2 b (fun h : b = S => hb (by rw [h]; exact List.mem_cons_self))]
      exact e
end
section
variable {prog : Program} {w : World} {A : Around} {E : Value → Shared → Prop} {s : Shared}
theorem call_setX_list {l : Addr} {items : Array Value} {xs : List Str} {Q : Value → Shared → Prop} (hh : A.handled = none) (hl : s.heap.IsList l items) (hi : PyProof.Rows.StrsAre items.toList xs) (few : xs.length < 1000)
    (h : ∀ (h' : Heap) (tk : Nat), SetX w h' s.heap.objs.size (seen xs) → (∀ b o, s.heap.get? b = some o → h'.get? b = some o) → Q (.ref s.heap.objs.size) { s with heap := h', toks := tk }) :
    wpAny (model prog w) A (call (.type "set") [.ref l]) Q E s := by
  obtain ⟨c, tl, mro⟩ := PySem.F.called_set.mro
  have made := PySem.F.called_set.made
  have subs := PySem.F.called_set.sub
  refine wpAny_call (codeAny_of_tree ?_)
  show wpAny _ _ (callAny (.type "set") _) _ _ _
  refine wpAny_pure ⟨Code.quiet_builtin _ (by decide +kernel), codeAny_builtin PySem.F.entry_type_call ?_⟩
  rw [Around.under_plain (weight_type_call_type "set" [.ref l] []) rfl]
  have not_type := PySem.F.called_set.notType
  have creates := PySem.F.called_set.canCreate
  have one := PySem.F.typeCall_set_1 (.ref l)
  repeat (any_goals (first | assumption | wp_step))
  refine codeAny_mono (code_set_led1 (.ref l) (E := E) (Q₁ := fun obj s₁ => obj = .ref s.heap.objs.size ∧ s₁ = { s with heap := s.heap.push { cls := .type "set", dict := none, data := .set #[] 0 (.fresh 0 0 (!w.params.followText "set-order")) } }) ⟨rfl, rfl⟩) fun r s₁ hr => ?_
  cases r with
  | error e => exact hr
  | ok fl =>
    cases fl with
    | ret obj =>
      obtain ⟨rfl, rfl⟩ := hr
      generalize new_is : ({ cls := .type "set", dict := none, data := .set #[] 0 (.fresh 0 0 (!w.params.followText "set-order")) } : Obj) = new
      have at_new : (s.heap.push new).get? s.heap.objs.size = some new := Heap.get?_push_size _ (by rw [← new_is]; rfl)
      have is_set : Shared.TypeIs { s with heap := s.heap.push new } (.ref s.heap.objs.size) "set" := ⟨_, at_new, by rw [← new_is]⟩
      have look_init := PySem.F.called_set.init.lookup
      have bind_init := PySem.F.called_set.init.bind (.ref s.heap.objs.size)
      repeat (any_goals (first | assumption | wp_step))
      refine codeAny_mono (codeAny_call_builtin (R := wants (fun r s₂ => r = .none ∧ ∃ h' tk, s₂ = { s with heap := h', toks := tk } ∧ SetX w h' s.heap.objs.size (seen xs) ∧ (∀ b o, s.heap.get? b = some o → h'.get? b = some o)) E)
        PySem.F.called_set.init.plain PySem.F.entry_set_init (check_set_init_1 is_set ?_)) fun r₂ s₂ hr₂ => ?_
      · obtain ⟨ol, hol, hcl, nl, hdl⟩ := hl
        obtain ⟨ocls, odict, odata, oslots⟩ := ol
        simp only at hcl hdl
        subst hcl; subst hdl
        have at_l : (s.heap.push new).get? l = some { cls := .type "list", dict := odict, data := .seq items nl, slots := oslots } := Heap.get?_push_of_some _ hol
        have no_sub := PySem.F.sub_list_set
        have no_sub2 := PySem.F.sub_list_frozenset
        have no_dict : (Value.type "list" == Value.type "dict") = false := by decide
        have is_l : (s.heap.push new).IsList l items := ⟨_, at_l, rfl, nl, rfl⟩
        have l_lt : l < s.heap.objs.size := Heap.lt_size hol
        have calm3 : A.in1.in1.in1.handled = none := by simp [hh]
        have ne_it : l ≠ (s.heap.push new).objs.size := by
          rw [Heap.size_push]
          exact Nat.ne_of_lt (Nat.lt_succ_of_lt l_lt)
        have apart : s.heap.objs.size ∉ [(s.heap.push new).objs.size, l] := by
          rw [Heap.size_push]
          intro z
          rcases List.mem_cons.mp z with z | z
          · exact absurd z (Nat.ne_of_lt (Nat.lt_succ_self _))
          · exact absurd (List.mem_singleton.mp z) (Nat.ne_of_gt l_lt)
        subst new_is
        unfold Builtin.«set.__init__» noKeywords Builtin.Frozenset.updateFrom
        generalize iter_is : pyIter = PI
        wp_walk
        subst iter_is
        refine wpAny_pyIter_list is_l ?_
        refine wpAny_bind (wpAny_runValue ?_)
        have many : xs.length = items.size := by rw [← StrsAre.len_eq hi, Array.length_toList]
        have texts : ∀ (i : Nat) (v : Value), items[i]? = some v → ∃ t, v = .str (xs.getD i Str.empty) t := fun i v hv => SS.strs_at hi i v (by rw [Array.getElem?_toList]; exact hv)
        refine setX_loop ((Walks.list calm3 _ l ne_it items).toS) s.heap.objs.size apart xs many (by omega) texts (items.size - 0) 0 _ (by omega) (Nat.zero_le _) ⟨⟨_, Heap.get?_push_size _ rfl, rfl, rfl⟩, (is_l.push _)⟩ ?start ?finish
        case start =>
          refine ⟨_, #[], 0, .fresh 0 0 (!w.params.followText "set-order"), Heap.get?_push_of_some _ at_new, ⟨rfl, rfl, rfl⟩, rfl, (fun e he => by cases he), List.Perm.refl _, List.nodup_nil, by decide, by rfl, List.Pairwise.nil, ?_⟩
          cases q : w.params.followText "set-order"
          · exact .inr rfl
          · exact .inl rfl
        case finish =>
          intro s' moved set_all
          obtain ⟨h', g', d', tk', os'⟩ := s'
          have eg : g' = s.gens := moved.gens
          have ed : d' = s.drawn := moved.drawn
          have eo : os' = s.os := moved.os
          subst eg; subst ed; subst eo
          show wpAny _ _ _ _ _ _
          refine wpAny_pure ?_
          show wpAny _ _ (ret Value.none) _ _ _
          refine wpAny_pure ⟨rfl, h', tk', rfl, set_all, fun b o e => ?_⟩
          have b_lt := Heap.lt_size e
          refine moved.heap b o (fun z => ?_) (Heap.get?_push_of_some _ (Heap.get?_push_of_some _ e))
          rcases List.mem_cons.mp z with z | z
          · exact absurd z (Nat.ne_of_lt b_lt)
          · have z := List.mem_singleton.mp z
            rw [Heap.size_push] at z
            exact absurd z (Nat.ne_of_lt (Nat.lt_succ_of_lt b_lt))
      · cases r₂ with
        | error e => exact hr₂
        | ok fl₂ =>
          cases fl₂ with
          | ret r =>
            obtain ⟨rfl, h', tk, rfl, set_all, kept⟩ := hr₂
            repeat (any_goals (first | assumption | wp_step))
            exact h _ _ set_all kept
          | _ => exact hr₂.elim
    | _ => exact hr.elim
theorem call_setX_tuple {l : Addr} {items : Array Value} {xs : List Str} {Q : Value → Shared → Prop} (hh : A.handled = none) (hl : s.heap.IsTuple l items) (hi : PyProof.Rows.StrsAre items.toList xs) (few : xs.length < 1000)
    (h : ∀ (h' : Heap) (tk : Nat), SetX w h' s.heap.objs.size (seen xs) → (∀ b o, s.heap.get? b = some o → h'.get? b = some o) → Q (.ref s.heap.objs.size) { s with heap := h', toks := tk }) :
    wpAny (model prog w) A (call (.type "set") [.ref l]) Q E s := by
  obtain ⟨c, tl, mro⟩ := PySem.F.called_set.mro
  have made := PySem.F.called_set.made
  have subs := PySem.F.called_set.sub
  refine wpAny_call (codeAny_of_tree ?_)
  show wpAny _ _ (callAny (.type "set") _) _ _ _
  refine wpAny_pure ⟨Code.quiet_builtin _ (by decide +kernel), codeAny_builtin PySem.F.entry_type_call ?_⟩
  rw [Around.under_plain (weight_type_call_type "set" [.ref l] []) rfl]
  have not_type := PySem.F.called_set.notType
  have creates := PySem.F.called_set.canCreate
  have one := PySem.F.typeCall_set_1 (.ref l)
  repeat (any_goals (first | assumption | wp_step))
  refine codeAny_mono (code_set_led1 (.ref l) (E := E) (Q₁ := fun obj s₁ => obj = .ref s.heap.objs.size ∧ s₁ = { s with heap := s.heap.push { cls := .type "set", dict := none, data := .set #[] 0 (.fresh 0 0 (!w.params.followText "set-order")) } }) ⟨rfl, rfl⟩) fun r s₁ hr => ?_
  cases r with
  | error e => exact hr
  | ok fl =>
    cases fl with
    | ret obj =>
      obtain ⟨rfl, rfl⟩ := hr
      generalize new_is : ({ cls := .type "set", dict := none, data := .set #[] 0 (.fresh 0 0 (!w.params.followText "set-order")) } : Obj) = new
      have at_new : (s.heap.push new).get? s.heap.objs.size = some new := Heap.get?_push_size _ (by rw [← new_is]; rfl)
      have is_set : Shared.TypeIs { s with heap := s.heap.push new } (.ref s.heap.objs.size) "set" := ⟨_, at_new, by rw [← new_is]⟩
      have look_init := PySem.F.called_set.init.lookup
      have bind_init := PySem.F.called_set.init.bind (.ref s.heap.objs.size)
      repeat (any_goals (first | assumption | wp_step))
      refine codeAny_mono (codeAny_call_builtin (R := wants (fun r s₂ => r = .none ∧ ∃ h' tk, s₂ = { s with heap := h', toks := tk } ∧ SetX w h' s.heap.objs.size (seen xs) ∧ (∀ b o, s.heap.get? b = some o → h'.get? b = some o)) E)
        PySem.F.called_set.init.plain PySem.F.entry_set_init (check_set_init_1 is_set ?_)) fun r₂ s₂ hr₂ => ?_
      · obtain ⟨ol, hol, hcl, nl, hdl⟩ := hl
        obtain ⟨ocls, odict, odata, oslots⟩ := ol
        simp only at hcl hdl
        subst hcl; subst hdl
        have at_l : (s.heap.push new).get? l = some { cls := .type "tuple", dict := odict, data := .seq items nl, slots := oslots } := Heap.get?_push_of_some _ hol
        have no_sub := PySem.F.sub_tuple_set
        have no_sub2 := PySem.F.sub_tuple_frozenset
        have no_dict : (Value.type "tuple" == Value.type "dict") = false := by decide
        have is_l : (s.heap.push new).IsTuple l items := ⟨_, at_l, rfl, nl, rfl⟩
        have l_lt : l < s.heap.objs.size := Heap.lt_size hol
        have calm3 : A.in1.in1.in1.handled = none := by simp [hh]
        have ne_it : l ≠ (s.heap.push new).objs.size := by
          rw [Heap.size_push]
          exact Nat.ne_of_lt (Nat.lt_succ_of_lt l_lt)
        have apart : s.heap.objs.size ∉ [(s.heap.push new).objs.size, l] := by
          rw [Heap.size_push]
          intro z
          rcases List.mem_cons.mp z with z | z
          · exact absurd z (Nat.ne_of_lt (Nat.lt_succ_self _))
          · exact absurd (List.mem_singleton.mp z) (Nat.ne_of_gt l_lt)
        subst new_is
        unfold Builtin.«set.__init__» noKeywords Builtin.Frozenset.updateFrom
        generalize iter_is : pyIter = PI
        wp_walk
        subst iter_is
        refine wpAny_pyIter_tuple is_l ?_
        refine wpAny_bind (wpAny_runValue ?_)
        have many : xs.length = items.size := by rw [← StrsAre.len_eq hi, Array.length_toList]
        have texts : ∀ (i : Nat) (v : Value), items[i]? = some v → ∃ t, v = .str (xs.getD i Str.empty) t := fun i v hv => SS.strs_at hi i v (by rw [Array.getElem?_toList]; exact hv)
        refine setX_loop ((Walks.tuple calm3 _ l ne_it items).toS) s.heap.objs.size apart xs many (by omega) texts (items.size - 0) 0 _ (by omega) (Nat.zero_le _) ⟨⟨_, Heap.get?_push_size _ rfl, rfl, rfl⟩, (is_l.push _)⟩ ?start ?finish
        case start =>
          refine ⟨_, #[], 0, .fresh 0 0 (!w.params.followText "set-order"), Heap.get?_push_of_some _ at_new, ⟨rfl, rfl, rfl⟩, rfl, (fun e he => by cases he), List.Perm.refl _, List.nodup_nil, by decide, by rfl, List.Pairwise.nil, ?_⟩
          cases q : w.params.followText "set-order"
          · exact .inr rfl
          · exact .inl rfl
        case finish =>
          intro s' moved set_all
          obtain ⟨h', g', d', tk', os'⟩ := s'
          have eg : g' = s.gens := moved.gens
          have ed : d' = s.drawn := moved.drawn
          have eo : os' = s.os := moved.os
          subst eg; subst ed; subst eo
          show wpAny _ _ _ _ _ _
          refine wpAny_pure ?_
          show wpAny _ _ (ret Value.none) _ _ _
          refine wpAny_pure ⟨rfl, h', tk', rfl, set_all, fun b o e => ?_⟩
          have b_lt := Heap.lt_size e
          refine moved.heap b o (fun z => ?_) (Heap.get?_push_of_some _ (Heap.get?_push_of_some _ e))
          rcases List.mem_cons.mp z with z | z
          · exact absurd z (Nat.ne_of_lt b_lt)
          · have z := List.mem_singleton.mp z
            rw [Heap.size_push] at z
            exact absurd z (Nat.ne_of_lt (Nat.lt_succ_of_lt b_lt))
      · cases r₂ with
        | error e => exact hr₂
        | ok fl₂ =>
          cases fl₂ with
          | ret r =>
            obtain ⟨rfl, h', tk, rfl, set_all, kept⟩ := hr₂
            repeat (any_goals (first | assumption | wp_step))
            exact h _ _ set_all kept
          | _ => exact hr₂.elim
    | _ => exact hr.elim
end
end Rw
end T_S1

section T_S2
set_option Elab.async false
set_option linter.all false
set_option maxRecDepth 100000
set_option maxHeartbeats 4000000
namespace Rw
open PySem PySem.Spec L2 PyProof.Rows
/-! ### the rules over the layer: a set of texts is a thing of its own -/
def SetXO (w : World) (a : Addr) (ks : List Str) : HO := .ext fun h => SetX w h a ks
theorem setXO_ok {P : Program} {w : World} {H : Hp} {h : Heap} {a : Addr} {ks : List Str} (R : SetX w h a ks) : ObjOk P w H h a (SetXO w a ks) := by
  obtain ⟨o, es, ep, t, ho, rest⟩ := R
  exact ⟨⟨o, es, ep, t, ho, rest⟩, ⟨o, ho⟩, fun h1 h2 x k => x.keep k⟩
section
variable {X : Cx}
/-- set(xs), xs a list or a tuple of texts -/
def rSetX (K : PySem.W.Frag) (w : World) : List V → Hp → VK → Prop := fun vs H Q => ∃ (a : Addr) (xs : List Str), vs = [.ref a] ∧ (SqL K H a (xs.map V.str) ∨ SqT K H a (xs.map V.str)) ∧ xs.length < 1000 ∧
  ∀ p, H p = none → Q (.ref p) (upd H p (SetXO w p (seen xs)))
theorem cr_setX (calm : X.calm = true) : CallR X (.type "set") (rSetX X.K X.w) := by
  intro pins s σ H vs us Q I r reading
  obtain ⟨a, xs, rfl, hq, few, q⟩ := reading
  rw [Vals.ref1 r]
  have fin : ∀ (h' : Heap) (tk : Nat), SetX X.w h' s.heap.objs.size (seen xs) → (∀ b o, s.heap.get? b = some o → h'.get? b = some o) → EP X pins σ Q (.ref s.heap.objs.size) { s with heap := h', toks := tk } := fun h' tk R keep =>
    ⟨.ref _, _, I.laid (t' := tk) keep (Nat.le_refl _) (setXO_ok R), rfl, q _ (I.hok.fresh (Nat.le_refl _))⟩
  rcases hq with hq | hq
  · obtain ⟨its, rv, pl, _⟩ := I.list hq
    exact call_setX_list (I.ok.hd calm) pl.isList (by simpa using strsAre_of rv) few fin
  · obtain ⟨its, rv, pl, _⟩ := I.tuple hq
    exact call_setX_tuple (I.ok.hd calm) pl (by simpa using strsAre_of rv) few fin
/-- len(a set of texts) -/
def rLenX (w : World) : List V → Hp → VK → Prop := fun vs H Q => ∃ (a : Addr) (ks : List Str), vs = [.ref a] ∧ H a = some (SetXO w a ks) ∧ Q (.int (ks.length : Int)) H
theorem cr_lenX : CallR X (.builtin "len") (rLenX X.w) := by
  intro pins s σ H vs us Q I r reading
  obtain ⟨a, ks, rfl, ha, q⟩ := reading
  rw [Vals.ref1 r]
  have R : SetX X.w s.heap a ks := (I.hok a _ ha).1
  obtain ⟨o, es, ep, t, ho, hex, hd, hf, hn⟩ := R.size
  have few : es.size < scanBound := by
    obtain ⟨o', es', ep', t', ho', _, hd', _, _, _, hb, _⟩ := R
    rw [ho] at ho'
    cases ho'
    rw [hd] at hd'
    cases hd'
    exact hb
  exact call_len_set ho hex hd hf (by unfold scanBound at few; omega) ⟨.int (ks.length : Int), H, I.tok _, ⟨_, by rw [hn]⟩, q⟩
/-- sorted(a set of texts) -/
def rSortedX (w : World) : List V → Hp → VK → Prop := fun vs H Q => ∃ (a : Addr) (ks : List Str), vs = [.ref a] ∧ H a = some (SetXO w a ks) ∧ ks.length < 64 ∧
  ∀ (ys : List Str) (p : Addr), ys.Perm ks → sortedS ys = true → H p = none → Q (.ref p) (upd H p (.lst (ys.map V.str)))
theorem strs_are : ∀ vs : List Value, (∀ v ∈ vs, ∃ z tk, v = Value.str z tk) → StrsAre vs (vs.map fun v => match v with | .str z _ => z | _ => Str.empty)
  | [], _ => .nil
  | v :: r, h => by
    obtain ⟨z, tk, rfl⟩ := h v List.mem_cons_self
    exact .cons z tk (strs_are r fun u hu => h u (List.mem_cons_of_mem _ hu))
theorem cr_sortedX (calm : X.calm = true) : CallR X (.builtin "sorted") (rSortedX X.w) := by
  intro pins s σ H vs us Q I r reading
  obtain ⟨a, ks, rfl, ha, h64, q⟩ := reading
  rw [Vals.ref1 r]
  have R : SetX X.w s.heap a ks := (I.hok a _ ha).1
  obtain ⟨o, es, ep, t, ho, hex, hd, good, perm, nd, few, fit, rise, order⟩ := R
  refine Calls.call_function_entry kind_sorted plain_sorted entry_sorted (args_sorted1 _) ?_
  unfold Builtin.«sorted»
  refine wpAny_bind (m := checkCount "sorted" 1 1 _) (wpAny_pure ?_)
  refine wpAny_bind (collect_set (A := X.A.in1) (I.ok.hd calm) ⟨o, ho, hex.1, hd⟩ fit few rise order fun s1 out keep grow gens os permo => ?_)
  have texts : StrsAre out (out.map fun v => match v with | .str z _ => z | _ => Str.empty) := strs_are out fun v hv => by
    obtain ⟨e, he, q⟩ := List.mem_map.mp (permo.mem_iff.mp hv)
    obtain ⟨z, tk, h1, _⟩ := good e he
    exact ⟨z, tk, q.symm.trans h1⟩
  have permk : (out.map fun v => match v with | .str z _ => z | _ => Str.empty).Perm ks := by
    have z := permo.map fun v : Value => match v with | .str z _ => z | _ => Str.empty
    rw [List.map_map] at z
    exact z.trans perm
  have len : out.length = ks.length := by rw [← permk.length_eq, List.length_map]
  refine wpAny_bind (wpAny_newList ?_ (by rw [len, sizeLine_eq]; omega))
  have at_l : (s1.heap.push (seqObj "list" out.toArray 0)).get? s1.heap.objs.size = some (seqObj "list" out.toArray 0) := Heap.get?_push_size _ rfl
  refine wpAny_bind (wpAny_holding (wpAny_call_entry slot_list_sort ⟨_, at_l, rfl⟩ entry_list_sort
    (list_sort_treeK strKind_oneLt (s := { s1 with heap := s1.heap.push (seqObj "list" out.toArray 0) }) at_l texts.keysOf (fun v₁ v₂ rest e => keyKind_strs (by rw [← e]; exact texts)) (by rw [len]; exact h64) fun st' hp hs => ⟨_, rfl, ?_⟩)
    (args_list_sort _)))
  obtain ⟨ys, g1, g2, g3⟩ := sorted_out_str texts hp hs
  obtain ⟨c, at_out⟩ := sortedHeap_at (vs := out) (out := (arrOf st').map (·.2)) at_l
  have lenys : (ys.map V.str).length ≤ sizeLine := by rw [List.length_map, g2.length_eq, List.length_map, len, sizeLine_eq]; omega
  have keep2 : ∀ b u, s.heap.get? b = some u → (sortedHeap (s1.heap.push (seqObj "list" out.toArray 0)) s1.heap.objs.size out ((arrOf st').map (·.2))).get? b = some u := fun b u e => by
    have e1 := keep b u e
    have lt := Heap.lt_size e1
    rw [sortedHeap_old (Nat.ne_of_lt lt) (by rw [size_push']; exact Nat.lt_succ_of_lt lt)]
    exact Heap.get?_push_of_some _ e1
  have fresh : H s1.heap.objs.size = none := I.hok.fresh grow
  obtain ⟨h1, g', d1, t1, os1⟩ := s1
  have eg : g' = s.gens := gens
  have eo : os1 = s.os := os
  subst eg; subst eo
  have J : Inv X pins σ (upd H h1.objs.size (.lst (ys.map V.str))) { s with heap := sortedHeap (h1.push (seqObj "list" out.toArray 0)) h1.objs.size out ((arrOf st').map (·.2)), gens := s.gens, drawn := d1, toks := t1 } :=
    I.call (ch := []) (Un.laid keep2 grow fresh) (I.hok.laid keep2 grow ⟨lenys, ((arrOf st').map (·.2)).toList, c, vals_of_strs g1, by rw [Array.toArray_toList]; exact at_out⟩) I.bare (fun _ z => nomatch z)
  exact wpAny_pure ⟨_, rfl, .ref _, _, J, rfl, q ys _ (g2.trans permk) g3 fresh⟩
end
end Rw
end T_S2

section T_V0
set_option Elab.async false
set_option linter.all false
set_option maxRecDepth 100000
set_option maxHeartbeats 2000000
namespace Rw
open PySem PySem.Spec L2 PyProof.Rows
/-! ### list(d.values()) -/
def tValsL (te : TE) : TE := fun σ H Q => te σ H fun x H1 => ∃ (d : Addr) (kvs : List (Key × V)), x = .ref d ∧ Rd H1 d (.dK kvs) ∧ ∀ p, H1 p = none → Q (.ref p) (upd H1 p (.lst (kvs.map (·.2))))
theorem pairs_vals {P : Program} {w : World} {es : List DictEntry} {vs : List (Key × Value)} (h : Pairs (mixKind P w) es vs) : es.map (·.val) = vs.map (·.2) := by
  induction h with
  | nil => rfl
  | cons _ h2 _ ih =>
    rw [List.map_cons, List.map_cons, ih, h2]
theorem vals_snd : ∀ {kvs : List (Key × V)} {vs : List (Key × Value)}, KV kvs vs → Vals (kvs.map (·.2)) (vs.map (·.2))
  | _, _, .nil => .nil
  | _, _, .cons r t => .cons r.2 (vals_snd t)
section
variable {X : Cx} {e : Expr} {te : TE} {p apos cpos pos : Pos}
theorem pe_listVals (calm : X.calm = true) (he : PE X e te) (glob : Gl X "list") (free : X.mg "list" = none) (base : attributeBase e "values" X.env (eval e X.env) = eval e X.env := by rfl) (line : (apos.endLine == cpos.line) = true := by rfl)
    (arg : starEach [.Call (.Attribute e "values" apos) [] [] cpos] X.env = (false, eval (.Call (.Attribute e "values" apos) [] [] cpos) X.env) :: starEach [] X.env := by rfl) :
    PE X (.Call (.Name "list" p) [.Call (.Attribute e "values" apos) [] [] cpos] [] pos) (tValsL te) := by
  constructor
  intro pins s σ H Q I reading
  refine wpAny_Call_Name_kw (ld_blt I glob free (show bootBuiltins "list" = some (.type "list") by decide +kernel) ?_)
  refine PyProof.Rows.callWith_type1 ?_ arg rfl
  rw [arg]
  show wpAny _ _ (spliced ((false, eval (.Call (.Attribute e "values" apos) [] [] cpos) X.env) :: backTo pos (starEach [] X.env))) _ _ s
  refine Calls.spliced_cons ?_
  refine wpAny_Call_method (T := "dict") (id := "dict.values") base rfl line F.plainAttrs_dict F.slot_dict_values F.type_dict_values (thn (he.run pins s σ H _ I reading) ?_)
  rintro u s1 ⟨x, H1, I1, rx, d, kvs, rfl, hd, q⟩
  have u_is : u = Value.ref d := rx
  subst u_is
  obtain ⟨few, low, vs, kv, hdo⟩ := hd.ok I1.hok
  have I2 : Inv X pins σ H1 { s1 with heap := s1.heap.push { cls := .type "dict_values", data := .fields #[.ref d] } } := I1.kept (t' := s1.toks) fun b ob z => Heap.get?_push_of_some _ z
  refine ⟨hdo.typeIs, hdo.mapOf.noDict, ?_⟩
  show wpAny _ _ (callWith cpos (.builtin "dict.values") [.ref d] [] []) _ X.xe s1
  refine method_meetsIn F.slot_dict_values F.entry_dict_values rfl (PySem.evalArgs_none ⟨rfl, hdo.typeIs, F.args_dict_values_1 _, _, meets_dict_values (mixKind X.prog X.w) d low, ⟨vs, hdo⟩, ?_⟩)
  refine Calls.spliced_nil ?_
  obtain ⟨o, es, ep, ho, exact_, hdat, keys, prs, nd⟩ := hdo
  have esz : es.size = vs.length := by
    have := prs.length
    simpa using this
  have lk : kvs.length = vs.length := Paired.length kv
  refine PySem.W.kdl_call (KdlSrc.rawValues (es := es) (ep := ep) (d := d)) (I1.ok.hd calm) ⟨⟨_, Heap.get?_push_size _ rfl, rfl, rfl⟩, ⟨o, Heap.get?_push_of_some _ ho, exact_, hdat⟩⟩ (by omega) fun h' tk acc c keep at_p got => ?_
  have fresh : H1 s1.heap.objs.size = none := I1.hok.fresh (Nat.le_refl _)
  have fresh2 : H1 (s1.heap.push { cls := .type "dict_values", data := .fields #[.ref d] }).objs.size = none := I1.hok.fresh (by rw [Heap.size_push]; exact Nat.le_succ _)
  have acc_is : acc.toList = vs.map (·.2) := by
    rw [← pairs_vals prs]
    obtain ⟨g1, g2⟩ := got
    refine List.ext_getElem (by rw [List.length_map, Array.length_toList, Array.length_toList, g1]) fun j h1 h2 => ?_
    have z : acc[j]? = some acc.toList[j] := by rw [← Array.getElem?_toList, List.getElem?_eq_getElem h1]
    obtain ⟨hj, e⟩ := g2 j _ z
    rw [e, List.getElem_map, Array.getElem_toList]
  refine ⟨.ref _, _, I2.laid (t' := tk) keep (Nat.le_refl _) ?_, rfl, q _ fresh2⟩
  exact ⟨by rw [List.length_map]; exact few, acc.toList, c, by rw [acc_is]; exact vals_snd kv, by simpa using at_p⟩
end
end Rw
end T_V0

section T_P0
set_option Elab.async false
set_option linter.all false
set_option maxRecDepth 100000
set_option maxHeartbeats 2000000
namespace Rw
open PySem L2 PyProof.Rows
/-! ### lists of True -/
section
variable {K : PySem.W.Frag} {a D : Addr} {xs : List V} {g : TG} {tt : TT} {te : TE} {vs : List Nat} {σ : L2.St} {H : Hp} {Qd : Hp → Prop}
theorem lc_trues (hx : SqL K H a xs) (hD : H D = none) (hl : xs.length < 1000)
    (turn : ∀ (i : Nat) (x : V) (H1 : Hp) (Q : VK) (R : Hp → Prop), xs[i]? = some x → Evl.Ex H H1 → (∀ H4, Evl.Ex H1 H4 → Q (.bl true) H4) → g x (wipe σ vs) H1 fun σ2 H2 => wipe σ2 vs = wipe σ vs ∧ tt σ2 H2 fun b H3 => if b = true then te σ2 H3 Q else R H3)
    (fin : ∀ H1, Evl.Ex H H1 → H1 D = some (.lst ((List.replicate xs.length true).map V.bl)) → Qd H1) :
    ∃ W : Nat → Nat → Hp → Prop, (∃ m, W 0 m (upd H D (.lst []))) ∧ ∀ i m H1, W i m H1 →
      ((Itl K a).stop i H1 ∧ Qd H1) ∨ ((Itl K a).go i H1 ∧ ∃ Nx : Hp → Prop, (∀ H', Nx H' → ∃ m', m' < m ∧ W (i + 1) m' H') ∧ ∀ x H', (Itl K a).yld i H1 x H' → g x (wipe σ vs) H' fun σ2 H2 => wipe σ2 vs = wipe σ vs ∧ tt σ2 H2 fun b H3 =>
        if b = true then te σ2 H3 fun y H4 => ∃ acc, H4 D = some (.lst acc) ∧ acc.length < sizeLine ∧ Nx (upd H4 D (.lst (acc ++ [y]))) else Nx H3) := by
  refine lc_list (K := K) (a := a) (xs := xs) (fun i H1 => i ≤ xs.length ∧ Evl.Ex H H1 ∧ H1 D = some (.lst ((List.replicate i true).map V.bl))) ⟨Nat.zero_le _, Evl.Ex.new hD, upd_same⟩ (fun i H1 _ h => Evl.ex_l h.2.1 hx) ?_ (fun H1 h => fin H1 h.2.1 h.2.2)
  rintro i x H1 hi ⟨_, e1, d1⟩
  have hil : i < xs.length := (List.getElem?_eq_some_iff.mp hi).1
  refine turn i x H1 _ _ hi e1 fun H4 e4 => ⟨_, e4 _ _ d1, ?_, hil, (e1.trans e4).mut hD, ?_⟩
  · rw [List.length_map, List.length_replicate]
    exact small1000 (by omega)
  · rw [upd_same, List.replicate_succ', List.map_append]
    rfl
theorem lc_truesT (hx : SqT K H a xs) (hD : H D = none) (hl : xs.length < 1000)
    (turn : ∀ (i : Nat) (x : V) (H1 : Hp) (Q : VK) (R : Hp → Prop), xs[i]? = some x → Evl.Ex H H1 → (∀ H4, Evl.Ex H1 H4 → Q (.bl true) H4) → g x (wipe σ vs) H1 fun σ2 H2 => wipe σ2 vs = wipe σ vs ∧ tt σ2 H2 fun b H3 => if b = true then te σ2 H3 Q else R H3)
    (fin : ∀ H1, Evl.Ex H H1 → H1 D = some (.lst ((List.replicate xs.length true).map V.bl)) → Qd H1) :
    ∃ W : Nat → Nat → Hp → Prop, (∃ m, W 0 m (upd H D (.lst []))) ∧ ∀ i m H1, W i m H1 →
      ((Itt K a).stop i H1 ∧ Qd H1) ∨ ((Itt K a).go i H1 ∧ ∃ Nx : Hp → Prop, (∀ H', Nx H' → ∃ m', m' < m ∧ W (i + 1) m' H') ∧ ∀ x H', (Itt K a).yld i H1 x H' → g x (wipe σ vs) H' fun σ2 H2 => wipe σ2 vs = wipe σ vs ∧ tt σ2 H2 fun b H3 =>
        if b = true then te σ2 H3 fun y H4 => ∃ acc, H4 D = some (.lst acc) ∧ acc.length < sizeLine ∧ Nx (upd H4 D (.lst (acc ++ [y]))) else Nx H3) := by
  refine lc_tup (K := K) (a := a) (xs := xs) (fun i H1 => i ≤ xs.length ∧ Evl.Ex H H1 ∧ H1 D = some (.lst ((List.replicate i true).map V.bl))) ⟨Nat.zero_le _, Evl.Ex.new hD, upd_same⟩ (fun i H1 _ h => Evl.ex_t h.2.1 hx) ?_ (fun H1 h => fin H1 h.2.1 h.2.2)
  rintro i x H1 hi ⟨_, e1, d1⟩
  have hil : i < xs.length := (List.getElem?_eq_some_iff.mp hi).1
  refine turn i x H1 _ _ hi e1 fun H4 e4 => ⟨_, e4 _ _ d1, ?_, hil, (e1.trans e4).mut hD, ?_⟩
  · rw [List.length_map, List.length_replicate]
    exact small1000 (by omega)
  · rw [upd_same, List.replicate_succ', List.map_append]
    rfl
end
theorem lc_truesW {J : It} {n : Nat} {G : Hp → Prop} {Yx : Nat → V → Prop} {D : Addr} {g : TG} {tt : TT} {te : TE} {vs : List Nat} {σ : L2.St} {H : Hp} {Qd : Hp → Prop} (wk : Walk J n G (fun i H x H' => H' = H ∧ Yx i x)) (hG : ∀ H1, Evl.Ex H H1 → G H1) (hD : H D = none) (hl : n < 1000)
    (turn : ∀ (i : Nat) (x : V) (H1 : Hp) (Q : VK) (R : Hp → Prop), i < n → Yx i x → Evl.Ex H H1 → (∀ H4, Evl.Ex H1 H4 → Q (.bl true) H4) → g x (wipe σ vs) H1 fun σ2 H2 => wipe σ2 vs = wipe σ vs ∧ tt σ2 H2 fun b H3 => if b = true then te σ2 H3 Q else R H3)
    (fin : ∀ H1, Evl.Ex H H1 → H1 D = some (.lst ((List.replicate n true).map V.bl)) → Qd H1) :
    ∃ W : Nat → Nat → Hp → Prop, (∃ m, W 0 m (upd H D (.lst []))) ∧ ∀ i m H1, W i m H1 →
      (J.stop i H1 ∧ Qd H1) ∨ (J.go i H1 ∧ ∃ Nx : Hp → Prop, (∀ H', Nx H' → ∃ m', m' < m ∧ W (i + 1) m' H') ∧ ∀ x H', J.yld i H1 x H' → g x (wipe σ vs) H' fun σ2 H2 => wipe σ2 vs = wipe σ vs ∧ tt σ2 H2 fun b H3 =>
        if b = true then te σ2 H3 fun y H4 => ∃ acc, H4 D = some (.lst acc) ∧ acc.length < sizeLine ∧ Nx (upd H4 D (.lst (acc ++ [y]))) else Nx H3) := by
  refine lc_it wk (fun i H1 => i ≤ n ∧ Evl.Ex H H1 ∧ H1 D = some (.lst ((List.replicate i true).map V.bl))) ⟨Nat.zero_le _, Evl.Ex.new hD, upd_same⟩ (fun i H1 _ h => hG H1 h.2.1) ?_ (fun H1 h => fin H1 h.2.1 h.2.2)
  rintro i x H1 H1' hi ⟨_, e1, d1⟩ ⟨rfl, hy⟩
  refine turn i x H1' _ _ hi hy e1 fun H4 e4 => ⟨_, e4 _ _ d1, ?_, hi, (e1.trans e4).mut hD, ?_⟩
  · rw [List.length_map, List.length_replicate]
    exact small1000 (by omega)
  · rw [upd_same, List.replicate_succ', List.map_append]
    rfl
theorem all_trues (n : Nat) : (List.replicate n true).all id = true := by
  induction n with
  | zero => rfl
  | succ n ih => rw [List.replicate_succ, List.all_cons, ih]; rfl
theorem sign_le {a b : Nat} (h : a ≤ b) : (!decide (([b] : List Nat) < [a])) = true := by
  have n : ¬ (([b] : List Nat) < [a]) := by
    rw [List.cons_lt_cons_iff]
    rintro (q | ⟨_, q⟩)
    · omega
    · exact absurd q (List.lt_irrefl _)
  rw [decide_eq_false n]
  rfl
/-- a list or a tuple of these texts -/
def SqS (H : Hp) (a : Addr) (zs : List Str) : Prop := H a = some (.lst (zs.map V.str)) ∨ H a = some (.tup (zs.map V.str))
theorem SqS.ex {H H' : Hp} {a : Addr} {zs : List Str} (h : SqS H a zs) (e : Evl.Ex H H') : SqS H' a zs := h.imp (e _ _) (e _ _)
theorem SqS.sq {K : PySem.W.Frag} {H : Hp} {a : Addr} {zs : List Str} (h : SqS H a zs) : SqL K H a (zs.map V.str) ∨ SqT K H a (zs.map V.str) := h.imp Evl.sq_of Evl.st_of
/-- an answer True, all else as it was -/
def spYes (pre : List V → Hp → Prop) (n : Nat) : Sp := fun vs H Q _ => vs.length = n ∧ pre vs H ∧ ∀ H', Evl.Ex H H' → Q (.bl true) H'
end Rw
end T_P0

section T_N0
set_option Elab.async false
set_option linter.all false
set_option maxRecDepth 100000
set_option maxHeartbeats 1000000
namespace Rw
open PySem PySem.Spec L2 PyProof.Rows
/-! ### one ascending order -/
def TLe (a b : Str) : Prop := a.cps.toList ≤ b.cps.toList
theorem rising_pair : ∀ (r : List Str) (p : Str), risingS p r = true → (p :: r).Pairwise TLe
  | [], p, _ => List.pairwise_singleton _ _
  | x :: r, p, h => by
    have h' : (!ltCps x.cps.toList p.cps.toList && risingS x r) = true := h
    rw [Bool.and_eq_true] at h'
    have ih := rising_pair r x h'.2
    have px : TLe p x := by
      have z := h'.1
      rw [ltCps_eq] at z
      show ¬ (x.cps.toList < p.cps.toList)
      intro q
      rw [decide_eq_true q] at z
      cases z
    refine List.pairwise_cons.mpr ⟨fun y hy => ?_, ih⟩
    rcases List.mem_cons.mp hy with rfl | hy
    · exact px
    · exact List.le_trans px ((List.pairwise_cons.mp ih).1 y hy)
theorem sorted_pair {l : List Str} (h : sortedS l = true) : l.Pairwise TLe := by
  cases l with
  | nil => exact List.Pairwise.nil
  | cons x r => exact rising_pair r x h
theorem sorted_uniq {xs ys : List Str} (hx : sortedS xs = true) (hy : sortedS ys = true) (hp : xs.Perm ys) : xs = ys :=
  List.Perm.eq_of_pairwise (le := TLe) (fun a b _ _ h1 h2 => by
    have e : a.cps.toList = b.cps.toList := List.le_antisymm h1 h2
    rw [← SX.S_tl a, ← SX.S_tl b, e]) (sorted_pair hx) (sorted_pair hy) hp
/-! ### nets -/
/-- a table in the order of these names -/
def canon (dots : List Str) (tb : List (Str × V)) : List (Str × V) := dots.map fun z => (z, (valV (tkv tb) (Sum.inr z)).getD .non)
theorem canon_keys (dots : List Str) (tb : List (Str × V)) : (canon dots tb).map (·.1) = dots := by
  unfold canon
  rw [List.map_map]
  exact List.map_id _
theorem canon_ok {dots : List Str} {e : Str} {tb : List (Str × V)} (h : TabOk dots e tb) : TabOk dots e (canon dots tb) := by
  refine ⟨by rw [canon_keys], fun q hq => ?_⟩
  unfold canon at hq
  obtain ⟨z, hz, rfl⟩ := List.mem_map.mp hq
  obtain ⟨v, hv, hm⟩ := tkv_some (tb := tb) (z := z) (h.ks.mem_iff.mpr hz)
  show PlaceOk dots e z ((valV (tkv tb) (Sum.inr z)).getD .non)
  rw [hv]
  exact h.ps _ hm
theorem canon_get {dots : List Str} {tb : List (Str × V)} {z : Str} (hz : z ∈ dots) : valV (tkv (canon dots tb)) (Sum.inr z) = some ((valV (tkv tb) (Sum.inr z)).getD .non) := by
  induction dots with
  | nil => cases hz
  | cons y r ih =>
    show valV ((Sum.inr y, (valV (tkv tb) (Sum.inr y)).getD .non) :: tkv (canon r tb)) (Sum.inr z) = _
    by_cases e : y = z
    · subst e
      exact valV_pos (p := ((Sum.inr y : Key), (valV (tkv tb) (Sum.inr y)).getD .non)) rfl
    · rw [valV_neg (fun w => e (Sum.inr.inj w))]
      exact ih ((List.mem_cons.mp hz).resolve_left fun w => e w.symm)
/-- the rows of a model, told by functions -/
def RowsAt (H : Hp) (ends dots : List Str) (rows : List (Str × V)) (o n : Str → List (Str × V)) : Prop :=
  ∀ e ∈ ends, ∃ p po pn : Addr, valV (tkv rows) (Sum.inr e) = some (.ref p) ∧ PairAt H dots e p po pn (o e) (n e)
theorem RowsAt.ex {H H' : Hp} {ends dots : List Str} {rows : List (Str × V)} {o n : Str → List (Str × V)} (h : RowsAt H ends dots rows o n) (x : Evl.Ex H H') : RowsAt H' ends dots rows o n := fun e he => by
  obtain ⟨p, po, pn, h1, h2⟩ := h e he
  exact ⟨p, po, pn, h1, h2.ex x⟩
theorem RowsAt.of {H : Hp} {ends dots : List Str} {rows : List (Str × V)} (h : RowsOk H dots rows) (hk : rows.map (·.1) = ends) : ∃ o n : Str → List (Str × V), RowsAt H ends dots rows o n := by
  have all : ∀ e : Str, ∃ t : List (Str × V) × List (Str × V), e ∈ ends → ∃ p po pn : Addr, valV (tkv rows) (Sum.inr e) = some (.ref p) ∧ PairAt H dots e p po pn t.1 t.2 := fun e => by
    by_cases he : e ∈ ends
    · obtain ⟨v, hv1, hv2⟩ := tkv_some (tb := rows) (z := e) (by rw [hk]; exact he)
      obtain ⟨p, po, pn, t1, t2, e1, pa⟩ := h _ hv2
      have e1' : v = .ref p := e1
      subst e1'
      exact ⟨(t1, t2), fun _ => ⟨p, po, pn, hv1, pa⟩⟩
    · exact ⟨([], []), fun q => absurd q he⟩
  refine ⟨fun e => (Classical.choose (all e)).1, fun e => (Classical.choose (all e)).2, fun e he => Classical.choose_spec (all e) he⟩
def nflds (T N S P : Addr) : List (Str × V) := [("_tables", .ref T), ("_nodes", .ref N), ("_sources", .ref S), ("_posts", .ref P)]
theorem nflds_tables (T N S P : Addr) : (nflds T N S P).lookup ("_tables" : Str) = some (.ref T) := by kernel_rfl
theorem nflds_nodes (T N S P : Addr) : (nflds T N S P).lookup ("_nodes" : Str) = some (.ref N) := by kernel_rfl
theorem nflds_sources (T N S P : Addr) : (nflds T N S P).lookup ("_sources" : Str) = some (.ref S) := by kernel_rfl
theorem nflds_posts (T N S P : Addr) : (nflds T N S P).lookup ("_posts" : Str) = some (.ref P) := by kernel_rfl
/-- a net stands at m -/
structure NetAt (C : Addr) (H : Hp) (m : Addr) (ends dots ss ps : List Str) (o n : Str → List (Str × V)) : Prop where
  ex : ∃ (dx T N S P : Addr) (rows : List (Str × V)), H m = some (.ins C dx (nflds T N S P)) ∧ H T = some (.dK (tkv rows)) ∧ H N = some (.tup (dots.map V.str)) ∧ H S = some (.tup (ss.map V.str)) ∧ H P = some (.tup (ps.map V.str)) ∧
    rows.map (·.1) = ends ∧ RowsAt H ends dots rows (fun e => canon dots (o e)) (fun e => canon dots (n e))
theorem NetAt.to {C : Addr} {H H' : Hp} {m : Addr} {ends dots ss ps : List Str} {o n : Str → List (Str × V)} (h : NetAt C H m ends dots ss ps o n) (x : Evl.Ex H H') : NetAt C H' m ends dots ss ps o n := by
  obtain ⟨dx, T, N, S, P, rows, h1, h2, h3, h4, h5, h6, h7⟩ := h
  exact ⟨dx, T, N, S, P, rows, x _ _ h1, x _ _ h2, x _ _ h3, x _ _ h4, x _ _ h5, h6, h7.ex x⟩
theorem ex_none {H H' : Hp} {p : Addr} (x : Evl.Ex H H') (h : H' p = none) : H p = none := by
  cases q : H p with
  | none => rfl
  | some u => rw [x _ _ q] at h; cases h
/-- what H' has behind H -/
def rest (H H' : Hp) : Hp := fun a => match H a with | none => H' a | some _ => none
theorem rest_of {H H' : Hp} {a : Addr} {o : HO} (h0 : H a = none) (h : H' a = some o) : rest H H' a = some o := by
  unfold rest
  rw [h0]
  exact h
theorem rest_ex (H H' : Hp) : Evl.Ex (rest H H') H' := fun a o h => by
  unfold rest at h
  cases e : H a with
  | none => rw [e] at h; exact h
  | some _ => rw [e] at h; cases h
theorem rest_off {d g c : Addr} {H H' : Hp} (D : DrawAt H d g c) : Evl.Ex (rest H H') (off d g H') := fun a o h => by
  have h' := rest_ex H H' a o h
  refine off_of h' (fun z => ?_) (fun z => ?_)
  · subst z
    obtain ⟨r, t, hd⟩ := D.ex
    unfold rest at h
    rw [hd] at h
    cases h
  · subst z
    obtain ⟨gs, hg⟩ := D.gl
    unfold rest at h
    rw [hg] at h
    cases h
theorem rest_mono {H H1 H2 : Hp} (e : Evl.Ex H1 H2) : Evl.Ex (rest H H1) (rest H H2) := fun a o h => by
  unfold rest at h ⊢
  cases q : H a with
  | none => rw [q] at h; exact e a o h
  | some _ => rw [q] at h; cases h
theorem nf1 (T : Addr) : putF "_tables" (.ref T) [] = ([("_tables", .ref T)] : List (Str × V)) := rfl
theorem nf2 (T N : Addr) : putF "_nodes" (.ref N) [("_tables", .ref T)] = ([("_tables", .ref T), ("_nodes", .ref N)] : List (Str × V)) := by kernel_rfl
theorem nf3 (T N S : Addr) : putF "_sources" (.ref S) [("_tables", .ref T), ("_nodes", .ref N)] = ([("_tables", .ref T), ("_nodes", .ref N), ("_sources", .ref S)] : List (Str × V)) := by kernel_rfl
theorem nf4 (T N S P : Addr) : putF "_posts" (.ref P) [("_tables", .ref T), ("_nodes", .ref N), ("_sources", .ref S)] = nflds T N S P := by kernel_rfl
theorem nf1_get (T : Addr) : ([("_tables", .ref T)] : List (Str × V)).lookup ("_tables" : Str) = some (.ref T) := by kernel_rfl
theorem canon_snoc (l : List Str) (z : Str) (tb : List (Str × V)) : canon (l ++ [z]) tb = canon l tb ++ [(z, (valV (tkv tb) (Sum.inr z)).getD .non)] := by
  unfold canon
  rw [List.map_append]
  rfl
/-- {node: table[node] for node in nodes}, the table in slot i -/
theorem dc_canon {K : PySem.W.Frag} {N po D : Addr} {dots : List Str} {e : Str} {tb : List (Str × V)} {σ : L2.St} {i j : Nat} {H : Hp} {Qd : Hp → Prop} (hN : H N = some (.tup (dots.map V.str))) (hpo : H po = some (.dK (tkv tb))) (ok : TabOk dots e tb) (nd : dots.Nodup) (few : dots.length ≤ 100) (hD : H D = none)
    (slot : ∀ x : V, ((wipe σ [j]).set j (some x))[i]? = some (some (.ref po))) (own : ∀ x : V, ((wipe σ [j]).set j (some x))[j]? = some (some x)) (wiped : ∀ x : V, wipe ((wipe σ [j]).set j (some x)) [j] = wipe σ [j]) (fin : Qd (upd H D (.dK (tkv (canon dots tb))))) :
    ∃ W : Nat → Nat → Hp → Prop, (∃ m, W 0 m (upd H D (.dK []))) ∧ ∀ k m H1, W k m H1 →
      ((Itt K N).stop k H1 ∧ Qd H1) ∨ ((Itt K N).go k H1 ∧ ∃ Nx : Hp → Prop, (∀ H', Nx H' → ∃ m', m' < m ∧ W (k + 1) m' H') ∧ ∀ x H', (Itt K N).yld k H1 x H' → gName j x (wipe σ [j]) H' fun σ2 H2 => wipe σ2 [j] = wipe σ [j] ∧ tYes σ2 H2 fun b H3 =>
        if b = true then tVar j σ2 H3 fun y H4 => tDGet (tVar i) (tVar j) σ2 H4 fun z H5 => ∃ kvs k, y = kV k ∧ H5 D = some (.dK kvs) ∧ kvs.length < sizeLine ∧ Nx (upd H5 D (.dK (putK kvs k z))) else Nx H3) := by
  refine dc_tup (K := K) (a := N) (xs := dots.map V.str) (fun k H' => H' = upd H D (.dK (tkv (canon (dots.take k) tb)))) rfl (fun k H' _ h => by rw [h]; exact Evl.st_of (Evl.Ex.new hD _ _ hN)) ?_ ?_
  · rintro k x H1 hk rfl
    obtain ⟨z, hz, rfl⟩ := str_at hk
    have hkl : k < dots.length := (List.getElem?_eq_some_iff.mp hz).1
    have et : dots.take (k + 1) = dots.take k ++ [z] := by rw [List.take_add_one, hz]; rfl
    have zn : z ∉ dots.take k := fun hm => by
      have h1 : (dots.take (k + 1)).Nodup := nd.sublist (List.take_sublist _ _)
      rw [et] at h1
      exact (List.nodup_append.mp h1).2.2 z hm z (List.mem_singleton.mpr rfl) rfl
    obtain ⟨v, hv, _⟩ := tkv_some (tb := tb) (z := z) (ok.ks.mem_iff.mpr (List.mem_of_getElem? hz))
    refine ⟨wiped _, ?_⟩
    refine yes_if ?_
    have gt : DGet (upd H D (.dK (tkv (canon (dots.take k) tb)))) po (.str z) (some v) := by
      have q := DGet.k (k := Sum.inr z) (Evl.Ex.new (o := .dK (tkv (canon (dots.take k) tb))) hD _ _ hpo)
      rw [hv] at q
      exact q
    refine ⟨.str z, own _, .ref po, slot _, .str z, own _, po, v, rfl, gt, tkv (canon (dots.take k) tb), Sum.inr z, rfl, upd_same, ?_, ?_⟩
    · rw [tkv_len]
      unfold canon
      rw [List.length_map, List.length_take]
      exact small1000 (by omega)
    · rw [upd_upd, tkv_new (by rw [canon_keys]; exact zn), et, canon_snoc, hv]
      rfl
  · rintro H1 rfl
    rw [List.length_map, List.take_length]
    exact fin
/-- Net.__init__ of a model's parts -/
def spInit (C : Addr) : Sp := fun vs H Q _ => ∃ (Hb : Hp) (m dx t s p : Addr) (ends dots ss ps : List Str) (rows : List (Str × V)) (o n : Str → List (Str × V)), vs = [.ref m, .ref t, .ref s, .ref p] ∧ Hb m = none ∧ Evl.Ex Hb H ∧ H m = some (.ins C dx []) ∧
  Hb t = some (.dK (tkv rows)) ∧ (rows.map (·.1)).Perm ends ∧ RowsOk Hb dots rows ∧ RowsAt Hb ends dots rows o n ∧ SqS Hb s ss ∧ SqS Hb p ps ∧ ModelOk ends dots ss ps ∧
  ∀ H', Evl.Ex Hb H' → (∀ Hz, Evl.Ex (rest Hb H') Hz → (Hb p = some (.tup (ps.map V.str)) → Hz p = some (.tup (ps.map V.str))) → NetAt C Hz m ends dots ss ps o n) → Q .non H'
end Rw
end T_N0

section T_V1
set_option Elab.async false
set_option linter.all false
set_option maxRecDepth 100000
set_option maxHeartbeats 2000000
namespace Rw
open PySem PySem.Spec PySem.W L2 PyProof.Rows
/-! ### tuple(d) of a dict: its keys -/
section
variable {prog : Program} {w : World} {A : Around} {EX : Value → Shared → Prop} {s : Shared} {r d : Addr} {T : String} {n : Nat} {Pk : Nat → Value → Prop} {Fine : Heap → Prop}
theorem collect_src {Q : List Value → Shared → Prop} (src : KdlSrc prog w T r d n Pk Fine) (calm : A.handled = none) (fine : Fine s.heap) (few : n ≤ sizeLine)
    (wish : ∀ (h' : Heap) (tk : Nat) (acc : Array Value), (∀ b o, s.heap.get? b = some o → h'.get? b = some o) → ItemsOf Pk acc n → Q acc.toList { s with heap := h', toks := tk }) :
    wpAny (model prog w) A (collect (.ref r)) Q EX s := by
  unfold collect
  refine wpAny_bind (wpAny_runValue (codeAny_builtin PySem.F.entry_proto_collect ?_))
  rw [Around.under_plainId PySem.F.plain_proto_collect _]
  show wpAny _ A.in1 (newList [] >>= fun l => again (.builtin "list.__iadd__" ⟨[l, .ref r], []⟩)) _ _ s
  refine wpAny_bind (wpAny_newObj_type ?_)
  refine wpAny_pure ⟨plainId_quiet PySem.F.plain_list_iadd _, codeAny_builtin PySem.F.entry_list_iadd ?_⟩
  rw [Around.under_plainId PySem.F.plain_list_iadd _]
  show wpAny _ A.in1 (Builtin.List.listExtendWith (.ref s.heap.objs.size) (.ref r) (.ref s.heap.objs.size)) _ _ _
  have made : (s.heap.push { cls := .type "list", data := .seq ([] : List Value).toArray }).get? s.heap.objs.size = some { cls := .type "list", data := .seq #[] 0 } := Heap.get?_push_size _ rfl
  have below := src.there _ fine
  refine wpAny_mono (kdl_extend (A := A) (R := fun rr s' => rr = .ok (.ret (.ref s.heap.objs.size)) ∧ ∃ (h' : Heap) (tk : Nat) (acc : Array Value) (c' : Nat), s' = { s with heap := h', toks := tk } ∧
      (∀ b o, s.heap.get? b = some o → h'.get? b = some o) ∧ h'.get? s.heap.objs.size = some { cls := .type "list", dict := none, data := .seq acc c', slots := #[] } ∧ ItemsOf Pk acc n)
    (s := { s with heap := s.heap.push { cls := .type "list", data := .seq ([] : List Value).toArray } }) src calm (src.keep _ _ fine fun b _ o e => Heap.get?_push_of_some _ e) s.heap.objs.size (Nat.ne_of_gt below.1) (Nat.ne_of_gt below.2) _ 0 made
    (fun h' tk acc c' keep at_l got => ⟨rfl, h', tk, acc, c', rfl, fun b o q => keep b o (Nat.ne_of_lt (Heap.lt_size q)) (Heap.get?_push_of_some _ q), at_l, got⟩) few) (fun fin s' got => ?_) (fun e s' got => ?_)
  · cases fin with
    | done f =>
      obtain ⟨e, h', tk, acc, c', rfl, keep, at_l, items⟩ := got
      cases e
      show wpAny _ A (load s.heap.objs.size >>= _) _ _ _
      exact wpAny_bind (wpAny_load at_l (wpAny_pure (wish h' tk acc keep items)))
    | again c' =>
      refine ⟨got.1, codeAny_mono got.2 fun rr s'' res => ?_⟩
      obtain ⟨rfl, h', tk, acc, c', rfl, keep, at_l, items⟩ := res
      show wpAny _ A (load s.heap.objs.size >>= _) _ _ _
      exact wpAny_bind (wpAny_load at_l (wpAny_pure (wish h' tk acc keep items)))
  · exact absurd got.1 (by simp)
theorem tuple_new_src {Q₁ : Value → Shared → Prop} (src : KdlSrc prog w T r d n Pk Fine) (calm : A.handled = none) (fine : Fine s.heap) (few : n ≤ sizeLine)
    (wish : ∀ (h' : Heap) (tk : Nat) (acc : Array Value), (∀ b o, s.heap.get? b = some o → h'.get? b = some o) → ItemsOf Pk acc n →
      Q₁ (.ref h'.objs.size) { s with heap := h'.push { cls := .type "tuple", data := .seq acc }, toks := tk }) :
    codeAny (model prog w) A (.call (.builtin "tuple.__new__") ⟨[.type "tuple", .ref r], []⟩) (wants Q₁ EX) s := by
  refine codeAny_of_tree ?_
  show wpAny _ A.in1 (do checkBuiltinCall "tuple.__new__" ⟨[.type "tuple", .ref r], []⟩; again (.builtin "tuple.__new__" ⟨[.type "tuple", .ref r], []⟩)) _ _ s
  refine wpAny_bind (wpAny_of_eq (PySem.F.newCall_tuple_1 _) (wpAny_pure ⟨plainId_quiet PySem.F.plain_tuple_new _, codeAny_builtin PySem.F.entry_tuple_new ?_⟩))
  rw [Around.under_plainId PySem.F.plain_tuple_new _]
  have self_sub := sub_tuple_self
  have no_init := init_tuple_lookup
  have here := madeHere_tuple
  have ty_is := src.type s fine
  have no_tup := src.notTuple
  have calm1 : A.in1.handled = none := calm
  wp_walk using wpAny_typeOf ty_is, collect_src (A := A.in1) src calm1 fine few
  intro h' tk acc keep items
  show wpAny _ _ (Builtin.Tuple.tupleExact acc.toList.toArray >>= fun v => ret v) _ _ _
  have back : acc.toList.toArray = acc := by simp
  rw [back]
  unfold Builtin.Tuple.tupleExact
  refine wpAny_bind (wpAny_newObj_type ?_ (by show acc.size ≤ sizeLine; rw [items.1]; exact few))
  exact wpAny_pure (wish h' tk acc keep items)
theorem tuple_src {Q : Value → Shared → Prop} (src : KdlSrc prog w T r d n Pk Fine) (calm : A.handled = none) (fine : Fine s.heap) (few : n ≤ sizeLine)
    (wish : ∀ (h' : Heap) (tk : Nat) (acc : Array Value), (∀ b o, s.heap.get? b = some o → h'.get? b = some o) → ItemsOf Pk acc n →
      Q (.ref h'.objs.size) { s with heap := h'.push { cls := .type "tuple", data := .seq acc }, toks := tk }) :
    wpAny (model prog w) A (call (.type "tuple") [.ref r]) Q EX s := by
  refine callType_codes (Q₁ := fun obj s₁ => s₁.TypeIs obj "tuple" ∧ Q obj s₁) PySem.F.called_tuple (PySem.F.typeCall_tuple_1 _) PySem.F.entry_object_init
    (tuple_new_src (A := A.in1) src calm fine few fun h' tk acc keep items => ⟨⟨_, Heap.get?_push_size _ rfl, rfl⟩, wish h' tk acc keep items⟩) fun obj s₁ got => ?_
  exact ⟨got.1, PySem.F.args_object_init_2 obj _, object_init_meets PySem.F.called_tuple.init.lookup PySem.F.called_tuple.made (by decide) prog w A.in1 _ s₁ ⟨got.1, rfl, got.2⟩⟩
end
/-- tuple(d) -/
theorem call_tupleD {X : Cx} (calm : X.calm = true) : CallR X (.type "tuple") (fun xs H Q => ∃ (a : Addr) (kvs : List (Key × V)), xs = [.ref a] ∧ Rd H a (.dK kvs) ∧ ∀ p, H p = none → Q (.ref p) (upd H p (.tup (kvs.map fun kv => kV kv.1)))) := by
  intro pins s σ H xs us Q I rel h
  obtain ⟨a, kvs, rfl, hd, q⟩ := h
  obtain ⟨u, rfl, ru⟩ := vals1 rel
  cases ru
  obtain ⟨few, low, vs, pairs, dd⟩ := dk_rd I.hok hd
  obtain ⟨ep, at_d⟩ := dd.dictAt
  have same : (kvs.map fun kv => kV kv.1) = vs.map fun p => kV p.1 := by
    have e := congrArg (List.map kV) pairs.keys
    rw [List.map_map, List.map_map] at e
    exact e
  have few' : vs.length ≤ sizeLine := by rw [← pairs.length]; exact few
  refine tuple_src (kdl_dict (knd := mixKind X.prog X.w) (kvs := vs) (ep := ep) low) (I.ok.hd calm) at_d few' fun h' tk acc keep items => ?_
  have got : Vals (vs.map fun p => kV p.1) acc.toList := keys_at (by rw [Array.length_toList]; exact items.1) fun j v e => items.2 j v (by rw [← Array.getElem?_toList]; exact e)
  have I1 : Inv X pins σ H { s with heap := h', toks := s.toks } := I.kept (t' := s.toks) keep
  have fresh : H h'.objs.size = none := I1.hok.fresh (Nat.le_refl _)
  refine ⟨.ref h'.objs.size, upd H h'.objs.size (.tup (kvs.map fun kv => kV kv.1)), I1.laid (t' := tk) (fun b o e => Heap.get?_push_of_some _ e) (Nat.le_refl _) ?_, rfl, q _ fresh⟩
  exact ⟨by rw [List.length_map]; exact few, acc.toList, by rw [same]; exact got, by simpa using IsTup.new _ _⟩
end Rw
end T_V1

section T_N2
set_option Elab.async false
set_option linter.all false
set_option maxRecDepth 100000
set_option maxHeartbeats 4000000
namespace Rw
open PySem L2 PyProof.Rows
/-- what the class Net is, whole -/
structure NetTxt (K : PySem.W.Frag) (C : Addr) : Prop where
  cl : Cls K C
  nT : NoAttr K C "_tables"
  nN : NoAttr K C "_nodes"
  nS : NoAttr K C "_sources"
  nP : NoAttr K C "_posts"
/-- a def by its name -/
structure Cal (P : Program) (w : World) (K : PySem.W.Frag) (mg : Str → Option Value) (base : Heap) (k : Nat) (x : Str) (ps : List Str) (sp : Sp) : Prop where
  ex : ∃ f fd, FnOk P w K mg base CX0 k f fd ps sp ∧ PySem.W.keepIn K (.ref f) = true ∧ Binds K fd ps [] ∧ mg x = some (.ref f)
/-- a property of the class -/
structure Prp (P : Program) (w : World) (K : PySem.W.Frag) (mg : Str → Option Value) (base : Heap) (C : Addr) (k : Nat) (x : Str) (sp : Sp) : Prop where
  ex : ∃ p g fd, PropOf K C x p g ∧ FnOk P w K mg base CX0 k g fd ["self"] sp ∧ Binds K fd ["self"] []
section
variable {P : Program} {w : World} {K : PySem.W.Frag} {mg : Str → Option Value} {base : Heap}
def spGoals (C : Addr) : Sp := fun vs H Q _ => ∃ (m : Addr) (ends dots ss ps : List Str) (o n : Str → List (Str × V)), vs = [.ref m] ∧ NetAt C H m ends dots ss ps o n ∧ ends.length ≤ 100 ∧ ∀ p, H p = none → Q (.ref p) (upd H p (.tup (ends.map V.str)))
def spDots (C : Addr) : Sp := fun vs H Q _ => ∃ (m : Addr) (ends dots ss ps : List Str) (o n : Str → List (Str × V)), vs = [.ref m] ∧ NetAt C H m ends dots ss ps o n ∧ ∀ p, H p = some (.tup (dots.map V.str)) → Q (.ref p) H
theorem sc_goals : FnScope ["self"] ["self"] (defScope c_Net_goals) := ⟨rfl, rfl, rfl, by decide +kernel, rfl, by decide +kernel, by decide +kernel⟩
theorem sc_dots : FnScope ["self"] ["self"] (defScope c_Net_nodes) := ⟨rfl, rfl, rfl, by decide +kernel, rfl, by decide +kernel, by decide +kernel⟩
theorem ok_goals {f C : Addr} {fd : FuncData} (F : Fun K "goals" "Net.goals" c_Net_goals f fd) (T : NetTxt K C) (mTup : mg "tuple" = none) : FnOk P w K mg base CX0 1 f fd ["self"] (spGoals C) := by
  refine F.ok sc_goals (fun vs H Q E h => ?_) (fun cdv A outer s H vs Q E hr h => ?_)
  · obtain ⟨m, ends, dots, ss, ps, o, n, rfl, _⟩ := h
    rfl
  · obtain ⟨m, ends, dots, ss, ps, o, n, rfl, N, few, k⟩ := h
    refine ⟨_, pss_one (ps_ret (pe_callTy (call_tupleD rfl) (by rfl) mTup (by decide +kernel) (pa_cons (pe_fld (pv 0) rfl) pa_nil))), ?_⟩
    obtain ⟨dx, T', N', S, Po, rows, h1, h2, h3, h4, h5, h6, h7⟩ := N.ex
    refine ⟨.ref m, rfl, m, C, dx, _, .ref T', rfl, h1, T.cl, T.nT, nflds_tables _ _ _ _, T', _, rfl, .inl h2, fun p hp => ?_⟩
    rw [tkv_keysV, h6]
    exact k p hp
theorem ok_dots {f C : Addr} {fd : FuncData} (F : Fun K "nodes" "Net.nodes" c_Net_nodes f fd) (T : NetTxt K C) : FnOk P w K mg base CX0 1 f fd ["self"] (spDots C) := by
  refine F.ok sc_dots (fun vs H Q E h => ?_) (fun cdv A outer s H vs Q E hr h => ?_)
  · obtain ⟨m, ends, dots, ss, ps, o, n, rfl, _⟩ := h
    rfl
  · obtain ⟨m, ends, dots, ss, ps, o, n, rfl, N, k⟩ := h
    refine ⟨_, pss_one (ps_ret (pe_fld (pv 0) rfl)), ?_⟩
    obtain ⟨dx, T', N', S, Po, rows, h1, h2, h3, h4, h5, h6, h7⟩ := N.ex
    exact ⟨.ref m, rfl, m, C, dx, _, .ref N', rfl, h1, T.cl, T.nN, nflds_nodes _ _ _ _, k N' h3⟩
/-! ### the checks -/
def spCheckGoal (C : Addr) : Sp := fun vs H Q _ => ∃ (m : Addr) (e : Str) (ends dots ss ps : List Str) (o n : Str → List (Str × V)), vs = [.ref m, .str e] ∧ NetAt C H m ends dots ss ps o n ∧ ends.length ≤ 100 ∧ e ∈ ends ∧ ∀ H', Evl.Ex H H' → Q .non H'
def spCheckDot (C : Addr) : Sp := fun vs H Q _ => ∃ (m : Addr) (z : Str) (ends dots ss ps : List Str) (o n : Str → List (Str × V)), vs = [.ref m, .str z] ∧ NetAt C H m ends dots ss ps o n ∧ z ∈ dots ∧ Q .non H
theorem sc_check_goal : FnScope ["net", "goal"] ["net", "goal"] (defScope p_check_goal) := ⟨rfl, rfl, rfl, by decide +kernel, rfl, by decide +kernel, by decide +kernel⟩
theorem sc_check_node : FnScope ["net", "node"] ["net", "node"] (defScope p_check_node) := ⟨rfl, rfl, rfl, by decide +kernel, rfl, by decide +kernel, by decide +kernel⟩
theorem ok_check_goal {f C : Addr} {fd : FuncData} (F : Fun K "check_goal" "check_goal" p_check_goal f fd) (T : NetTxt K C) (Pg : Prp P w K mg base C 1 "goals" (spGoals C)) : FnOk P w K mg base CX0 3 f fd ["net", "goal"] (spCheckGoal C) := by
  obtain ⟨p1, g1, fd1, at1, F1, b1⟩ := Pg.ex
  refine F.ok sc_check_goal (fun vs H Q E h => ?_) (fun cdv A outer s H vs Q E hr h => ?_)
  · obtain ⟨m, e, ends, dots, ss, ps, o, n, rfl, _⟩ := h
    rfl
  · obtain ⟨m, e, ends, dots, ss, ps, o, n, rfl, N, few, he, k⟩ := h
    refine ⟨_, pss_one (ps_if (pt_cmpR op_notIn_seq (pv 1) (pe_prop (pv 0) T.cl at1 F1 hr b1 .nil pass0 rfl) rfl) (pss_one ps_never) pss_nil), ?_⟩
    have N2 := N
    obtain ⟨dx, T', N', S, Po, rows, h1, h2, h3, h4, h5, h6, h7⟩ := N.ex
    refine ⟨.str e, rfl, .ref m, rfl, m, dx, _, rfl, h1, m, ends, dots, ss, ps, o, n, rfl, N2, few, fun p hp => ⟨p, ends.map V.str, rfl, .inr (Evl.st_of upd_same), rfl, flat_strs ends, ?_⟩⟩
    rw [inV_str, decide_eq_true he]
    exact ⟨false, rfl, k _ (Evl.Ex.new hp)⟩
theorem ok_check_node {f C : Addr} {fd : FuncData} (F : Fun K "check_node" "check_node" p_check_node f fd) (T : NetTxt K C) (Pg : Prp P w K mg base C 1 "nodes" (spDots C)) : FnOk P w K mg base CX0 3 f fd ["net", "node"] (spCheckDot C) := by
  obtain ⟨p1, g1, fd1, at1, F1, b1⟩ := Pg.ex
  refine F.ok sc_check_node (fun vs H Q E h => ?_) (fun cdv A outer s H vs Q E hr h => ?_)
  · obtain ⟨m, z, ends, dots, ss, ps, o, n, rfl, _⟩ := h
    rfl
  · obtain ⟨m, z, ends, dots, ss, ps, o, n, rfl, N, hz, k⟩ := h
    refine ⟨_, pss_one (ps_if (pt_cmpR op_notIn_seq (pv 1) (pe_prop (pv 0) T.cl at1 F1 hr b1 .nil pass0 rfl) rfl) (pss_one ps_never) pss_nil), ?_⟩
    have N2 := N
    obtain ⟨dx, T', N', S, Po, rows, h1, h2, h3, h4, h5, h6, h7⟩ := N.ex
    refine ⟨.str z, rfl, .ref m, rfl, m, dx, _, rfl, h1, m, ends, dots, ss, ps, o, n, rfl, N2, fun p hp => ⟨p, dots.map V.str, rfl, .inr (Evl.st_of hp), rfl, flat_strs dots, ?_⟩⟩
    rw [inV_str, decide_eq_true hz]
    exact ⟨false, rfl, k⟩
/-- what isinstance asks of the class -/
structure NetIsi (K : PySem.W.Frag) (C : Addr) : Prop where
  ha : PySem.W.findIn K (.ref C) "__class__" = some (some (.builtin "object.__class__"))
  hn : PySem.W.specialIn K (.builtin "object.__class__") "__get__" = some (some (.builtin "getset_descriptor.__get__"))
  hk : PySem.W.takesIn K (.builtin "object.__class__") = some true
  hm : PySem.W.mroIn K C (.type "object") = some true
  me : PySem.W.kitOne K (.ref C) (.ref C) = some true
def spCheckNet (C : Addr) : Sp := fun vs H Q _ => ∃ (m : Addr) (ends dots ss ps : List Str) (o n : Str → List (Str × V)), vs = [.ref m] ∧ NetAt C H m ends dots ss ps o n ∧ Q .non H
theorem sc_check_net : FnScope ["net"] ["net"] (defScope p_check_net) := ⟨rfl, rfl, rfl, by decide +kernel, rfl, by decide +kernel, by decide +kernel⟩
theorem ok_check_net {f C : Addr} {fd : FuncData} (F : Fun K "check_net" "check_net" p_check_net f fd) (T : NetTxt K C) (Is : NetIsi K C) (mIsi : mg "isinstance" = none) (mNet : mg "Net" = some (.ref C)) : FnOk P w K mg base CX0 1 f fd ["net"] (spCheckNet C) := by
  refine F.ok sc_check_net (fun vs H Q E h => ?_) (fun cdv A outer s H vs Q E hr h => ?_)
  · obtain ⟨m, ends, dots, ss, ps, o, n, rfl, _⟩ := h
    rfl
  · obtain ⟨m, ends, dots, ss, ps, o, n, rfl, N, k⟩ := h
    refine ⟨_, pss_one (ps_if (pt_not (pt_val (pe_callB call_isi (by rfl) mIsi (by decide +kernel) (pa_cons (pv 0) (pa_cons (pe_glob (v := .ref C) (by rfl) mNet rfl) pa_nil))))) (pss_one ps_never) pss_nil), ?_⟩
    obtain ⟨dx, T', N', S, Po, rows, h1, h2, h3, h4, h5, h6, h7⟩ := N.ex
    exact ⟨.ref m, rfl, .ref m, .ref C, _, _, true, rfl, .own C, .base (.ins h1 T.cl Is.ha Is.hn Is.hk Is.hm), Is.me, true, rfl, k⟩
end
end Rw
end T_N2

section T_N3
set_option Elab.async false
set_option linter.all false
set_option maxRecDepth 100000
set_option maxHeartbeats 4000000
namespace Rw
open PySem L2 PyProof.Rows
/-- the way of z by a table -/
def look (tb : List (Str × V)) (z : Str) : V := (valV (tkv tb) (Sum.inr z)).getD .non
/-- where old and new ways of z differ -/
def diffB (ends : List Str) (o n : Str → List (Str × V)) (z : Str) : List Bool := ends.map fun e => !decide (look (o e) z = look (n e) z)
/-- the nodes that change -/
def moving (ends dots : List Str) (o n : Str → List (Str × V)) : List Str := dots.filter fun z => (diffB ends o n z).any id
theorem look_ok {zs : List Str} {e z : Str} {tb : List (Str × V)} (h : TabOk zs e tb) (hz : z ∈ zs) : PlaceOk zs e z (look tb z) ∧ valV (tkv tb) (Sum.inr z) = some (look tb z) := by
  obtain ⟨v, h1, h2⟩ := tkv_some (tb := tb) (z := z) (h.ks.mem_iff.mpr hz)
  unfold look
  rw [h1]
  exact ⟨h.ps _ h2, rfl⟩
theorem look_canon {dots : List Str} {tb : List (Str × V)} {z : Str} (hz : z ∈ dots) : look (canon dots tb) z = look tb z := by
  unfold look
  rw [canon_get hz]
  rfl
theorem scal_place {zs ys : List Str} {e f z y : Str} {u v : V} (h1 : PlaceOk zs e z u) (h2 : PlaceOk ys f y v) : scal u v = true := by
  rcases h1 with rfl | rfl | ⟨_, _, _, rfl⟩ <;> rcases h2 with rfl | rfl | ⟨_, _, _, rfl⟩ <;> rfl
abbrev scOuter : Scope := { kind := .function, names := [(".0", .local), ("node", .cell), ("any", .globalImplicit), ("pairs", .cell)], isGenerator := false, isCoroutine := false }
theorem tkv_at : ∀ {rows : List (Str × V)} {ends : List Str} {i : Nat} {e : Str} {v : V}, rows.map (·.1) = ends → ends.Nodup → ends[i]? = some e → valV (tkv rows) (Sum.inr e) = some v → ((tkv rows).map (·.2))[i]? = some v := by
  intro rows ends i e v hk nd he hv
  have hi : i < rows.length := by
    have := (List.getElem?_eq_some_iff.mp he).1
    rw [← hk, List.length_map] at this
    exact this
  obtain ⟨u, hu, hm⟩ := tkv_some (tb := rows) (z := e) (by rw [hk]; exact List.mem_of_getElem? he)
  rw [hv] at hu
  obtain ⟨j, hj, hj'⟩ := List.getElem_of_mem hm
  have ej : ends[j]? = some e := by rw [← hk, List.getElem?_map, List.getElem?_eq_getElem hj, hj']; rfl
  have hie : i < ends.length := (List.getElem?_eq_some_iff.mp he).1
  have ij : i = j := (List.getElem?_inj hie nd).mp (he.trans ej.symm)
  subst ij
  unfold tkv
  rw [List.map_map, List.getElem?_map, List.getElem?_eq_getElem hj, hj', Option.some.inj hu]
  rfl
theorem diffB_snoc (l : List Str) (e : Str) (o n : Str → List (Str × V)) (z : Str) : diffB (l ++ [e]) o n z = diffB l o n z ++ [!decide (look (o e) z = look (n e) z)] := by
  unfold diffB
  rw [List.map_append]
  rfl
section
variable {P : Program} {w : World} {K : PySem.W.Frag} {mg : Str → Option Value} {base : Heap}
def spChanging (C : Addr) : Sp := fun vs H Q _ => ∃ (m : Addr) (ends dots ss ps : List Str) (o n : Str → List (Str × V)), vs = [.ref m] ∧ NetAt C H m ends dots ss ps o n ∧ ends.length ≤ 100 ∧ dots.length ≤ 100 ∧ ends.Nodup ∧
  ∀ p H', Evl.Ex H H' → H p = none → H' p = some (.tup ((moving ends dots o n).map V.str)) → Q (.ref p) H'
abbrev nChanging : List Str := ["self", "pairs", "node", "old", "new"]
theorem sc_changing : FnScope nChanging ["self"] (defScope c_Net_changing) := ⟨rfl, rfl, rfl, by decide +kernel, rfl, by decide +kernel, by decide +kernel⟩
theorem ok_changing {f C : Addr} {fd : FuncData} (F : Fun K "changing" "Net.changing" c_Net_changing f fd) (T : NetTxt K C) (mTup : mg "tuple" = none) (mList : mg "list" = none) (mAny : mg "any" = none) : FnOk P w K mg base CX0 2 f fd ["self"] (spChanging C) := by
  refine F.ok sc_changing (fun vs H Q E h => ?_) (fun cdv A outer s H vs Q E hr h => ?_)
  · obtain ⟨m, ends, dots, ss, ps, o, n, rfl, _⟩ := h
    rfl
  · obtain ⟨m, ends, dots, ss, ps, o, n, rfl, N, few, few2, en, k⟩ := h
    have nd := sc_changing.nd
    have hu := hu_of hr
    refine ⟨_, pss_cons (ps_set (i := 1) nd rfl (.inr rfl) (pe_listVals rfl (pe_fld (pv 0) rfl) (by rfl) mList))
      (pss_one (ps_ret (pe_callTy call_tuple_of (by rfl) mTup (by decide +kernel) (pa_cons
        (pe_lc (own := [("node", 2)]) (g := gName 2) (tt := tB (tCB (rAny K) (tCons (tLc (iList K (tVar 1)) (gTup K 2 (gCons (gName 3) (gCons (gName 4) gNil))) tYes (tOp rNe (tDGet (tVar 3) (tVar 2)) (tDGet (tVar 4) (tVar 2))) [3, 4]) tNil))) rfl nd (pi_tup (pe_fld (pv 0) rfl)) (blkOk_by (own := [("node", 2)]) (N := nChanging) (sc := defScope c_Net_changing) (by decide +kernel))
          (fun _ _ _ _ _ => pg_name (i := 2) nd rfl (Or.inr rfl))
          (fun _ _ _ _ _ => pts_one (pt_val (pe_callB (cr_any rfl) (by rfl) mAny (by decide +kernel) (pa_cons
            (pe_lc (own := [("old", 3), ("new", 4)]) (g := gTup K 2 (gCons (gName 3) (gCons (gName 4) gNil))) (tt := tYes) (te := tOp rNe (tDGet (tVar 3) (tVar 2)) (tDGet (tVar 4) (tVar 2))) rfl nd (pi_list (pv 1)) (by
              have q : ∀ {sc : Scope}, blkC nChanging scOuter sc [("old", 3), ("new", 4)] = true → BlkOk nChanging scOuter sc [("old", 3), ("new", 4)] := fun h => blkOk_by h
              refine q ?_
              decide +kernel)
              (fun _ _ _ _ _ => pg_tup rfl (pgs_cons (pg_name (i := 3) nd rfl (Or.inl rfl)) (pgs_cons (pg_name (i := 4) nd rfl (Or.inl rfl)) pgs_nil))) (fun _ _ _ _ _ => pts_nil) (fun _ _ _ _ _ => pe_cmpR op_ne (pe_dget hu (pv 3) (pv 2) (fun _ _ => rfl)) (pe_dget hu (pv 4) (pv 2) (fun _ _ => rfl)) (nomark _))) pa_nil))))
          (fun _ _ _ _ _ => pv 2)) pa_nil)))), ?_⟩
    obtain ⟨dx, T', N', S, Po, rows, h1, h2, h3, h4, h5, h6, h7⟩ := N.ex
    have rl : rows.length = ends.length := by rw [← h6, List.length_map]
    refine ⟨.ref m, rfl, m, C, dx, _, .ref T', rfl, h1, T.cl, T.nT, nflds_tables _ _ _ _, T', _, rfl, .inl h2, fun l hl => ?_⟩
    have x1 : Evl.Ex H (upd H l (.lst ((tkv rows).map (·.2)))) := Evl.Ex.new hl
    have el : (upd H l (.lst ((tkv rows).map (·.2)))) l = some (.lst ((tkv rows).map (·.2))) := upd_same
    generalize upd H l (.lst ((tkv rows).map (·.2))) = H1 at x1 el
    refine ⟨.ref m, rfl, m, C, dx, _, .ref N', rfl, x1 _ _ h1, T.cl, T.nN, nflds_nodes _ _ _ _, N', rfl, ⟨_, Evl.st_of (x1 _ _ h3)⟩, fun D hD => lc_tup (K := K) (a := N') (xs := dots.map V.str)
      (fun i H' => i ≤ dots.length ∧ Evl.Ex H1 H' ∧ H' D = some (.lst ((moving ends (dots.take i) o n).map V.str))) ⟨Nat.zero_le _, Evl.Ex.new hD, upd_same⟩ (fun i H' _ h => Evl.st_of (h.2.1 _ _ (x1 _ _ h3))) ?_ ?_⟩
    · rintro j x H3 hj ⟨_, x3, d3⟩
      obtain ⟨z, hz, rfl⟩ := str_at hj
      have hjl : j < dots.length := (List.getElem?_eq_some_iff.mp hz).1
      have zd := List.mem_of_getElem? hz
      have et : moving ends (dots.take (j + 1)) o n = moving ends (dots.take j) o n ++ if (diffB ends o n z).any id then [z] else [] := by
        unfold moving
        rw [List.take_add_one, hz, List.filter_append]
        show _ ++ List.filter _ [z] = _
        rw [List.filter_cons]
        rfl
      have dl : (moving ends (dots.take j) o n).length ≤ 100 := Nat.le_trans (List.length_filter_le _ _) (by rw [List.length_take]; omega)
      refine ⟨rfl, ?_⟩
      refine ⟨.ref l, rfl, l, rfl, ⟨_, Evl.sq_of (x3 _ _ el)⟩, fun D2 hD2 => lc_list (K := K) (a := l) (xs := (tkv rows).map (·.2))
        (fun i H' => i ≤ ends.length ∧ Evl.Ex H3 H' ∧ H' D2 = some (.lst ((diffB (ends.take i) o n z).map V.bl))) ⟨Nat.zero_le _, Evl.Ex.new hD2, upd_same⟩ (fun i H' _ h => Evl.sq_of (h.2.1 _ _ (x3 _ _ el))) ?_ ?_⟩
      · rintro i y H4 hi ⟨_, x4, d4⟩
        have hil : i < ends.length := by
          have := (List.getElem?_eq_some_iff.mp hi).1
          rw [List.length_map, tkv_len] at this
          omega
        have gi : ends[i]? = some ends[i] := List.getElem?_eq_getElem hil
        obtain ⟨p, po, pn, hv, pa⟩ := h7 ends[i] (List.getElem_mem hil)
        have ey : y = .ref p := Option.some.inj (hi.symm.trans (tkv_at h6 en gi hv))
        subst ey
        have pa4 := pa.ex (x1.trans (x3.trans x4))
        have c1 := (look_ok pa.o1 zd)
        have c2 := (look_ok pa.o2 zd)
        have g1 : DGet H4 po (.str z) (some (look (o ends[i]) z)) := by
          have q := DGet.k (k := Sum.inr z) pa4.ho
          rw [c1.2, look_canon zd] at q
          exact q
        have g2 : DGet H4 pn (.str z) (some (look (n ends[i]) z)) := by
          have q := DGet.k (k := Sum.inr z) pa4.hn
          rw [c2.2, look_canon zd] at q
          exact q
        have sc := scal_place c1.1 c2.1
        rw [look_canon zd, look_canon zd] at sc
        refine ⟨p, _, rfl, Evl.st_of pa4.hp, rfl, _, _, rfl, _, [], rfl, rfl, rfl, ?_⟩
        refine yes_if ?_
        refine ⟨.ref po, rfl, .str z, rfl, po, _, rfl, g1, .ref pn, rfl, .str z, rfl, pn, _, rfl, g2, sc, _, d4, ?_, hil, x4.mut hD2, ?_⟩
        · rw [List.length_map]
          unfold diffB
          rw [List.length_map, List.length_take]
          exact small1000 (by omega)
        · rw [upd_same, List.take_add_one, gi]
          show some (HO.lst _) = some (HO.lst (List.map V.bl (diffB (_ ++ [_]) o n z)))
          rw [diffB_snoc, List.map_append]
          rfl
      · rintro H4 ⟨_, x4, d4⟩
        rw [List.length_map, tkv_len, rl, List.take_length] at d4
        refine ⟨D2, _, rfl, Evl.sq_of d4, _, rfl, ?_⟩
        by_cases q : (diffB ends o n z).any id = true
        · rw [if_pos q] at et ⊢
          refine ⟨.str z, rfl, _, x4 _ _ d3, by rw [List.length_map]; exact small1000 (by omega), hjl, (x3.trans x4).mut hD, ?_⟩
          rw [upd_same, et, List.map_append]
          rfl
        · rw [if_neg q] at et ⊢
          refine ⟨hjl, x3.trans x4, ?_⟩
          rw [et, List.append_nil]
          exact x4 _ _ d3
    · rintro H3 ⟨_, x3, d3⟩
      rw [List.length_map, List.take_length] at d3
      refine ⟨D, _, rfl, .inl ⟨Evl.sq_of d3, fun p hp => k p _ ((x1.trans x3).trans (Evl.Ex.new hp)) ?_ upd_same⟩⟩
      cases q : H p with
      | none => rfl
      | some u => rw [(x1.trans x3) _ _ q] at hp; cases hp
end
end Rw
end T_N3

section T_Y0
set_option Elab.async false
set_option linter.all false
set_option maxRecDepth 100000
set_option maxHeartbeats 4000000
namespace Rw
open PySem L2 PyProof.Rows
/-- a dict comprehension over any walk -/
theorem dc_it {J : It} {n : Nat} {G : Hp → Prop} {Y : Nat → Hp → V → Hp → Prop} (wk : Walk J n G Y) {g : TG} {tt : TT} {tk tv : TE} {vs : List Nat} {σ : L2.St} {H1 : Hp} {D : Addr} {Qd : Hp → Prop} (Pv : Nat → Hp → Prop) (start : Pv 0 (upd H1 D (.dK []))) (hG : ∀ i H, i ≤ n → Pv i H → G H)
    (turn : ∀ i x H H', i < n → Pv i H → Y i H x H' → g x (wipe σ vs) H' fun σ2 H2 => wipe σ2 vs = wipe σ vs ∧ tt σ2 H2 fun b H3 =>
      if b = true then tk σ2 H3 fun y H4 => tv σ2 H4 fun z H5 => ∃ kvs k, y = kV k ∧ H5 D = some (.dK kvs) ∧ kvs.length < sizeLine ∧ Pv (i + 1) (upd H5 D (.dK (putK kvs k z))) else Pv (i + 1) H3) (fin : ∀ H, Pv n H → Qd H) :
    ∃ W : Nat → Nat → Hp → Prop, (∃ m, W 0 m (upd H1 D (.dK []))) ∧ ∀ i m H, W i m H →
      (J.stop i H ∧ Qd H) ∨ (J.go i H ∧ ∃ Nx : Hp → Prop, (∀ H', Nx H' → ∃ m', m' < m ∧ W (i + 1) m' H') ∧ ∀ x H', J.yld i H x H' → g x (wipe σ vs) H' fun σ2 H2 => wipe σ2 vs = wipe σ vs ∧ tt σ2 H2 fun b H3 =>
        if b = true then tk σ2 H3 fun y H4 => tv σ2 H4 fun z H5 => ∃ kvs k, y = kV k ∧ H5 D = some (.dK kvs) ∧ kvs.length < sizeLine ∧ Nx (upd H5 D (.dK (putK kvs k z))) else Nx H3) := by
  refine ⟨fun i m H => m = n - i ∧ i ≤ n ∧ Pv i H, ⟨n, by simp, Nat.zero_le _, start⟩, ?_⟩
  rintro i m H ⟨rfl, hi, p⟩
  by_cases lt : i < n
  · exact .inr ⟨wk.goes i H lt (hG i H hi p), Pv (i + 1), fun H' p' => ⟨n - (i + 1), by omega, rfl, lt, p'⟩, fun x H' y => turn i x H H' lt p (wk.yields i H x H' lt (hG i H hi p) y)⟩
  · have e : i = n := by omega
    subst e
    exact .inl ⟨wk.stops H (hG _ H hi p), fin H p⟩
theorem RowsAt.ok {H : Hp} {ends dots : List Str} {rows : List (Str × V)} {o n : Str → List (Str × V)} (h : RowsAt H ends dots rows o n) (hk : rows.map (·.1) = ends) (nd : ends.Nodup) : RowsOk H dots rows := fun q hq => by
  obtain ⟨i, hi, rfl⟩ := List.getElem_of_mem hq
  have ge : ends[i]? = some rows[i].1 := by rw [← hk, List.getElem?_map, List.getElem?_eq_getElem hi]; rfl
  obtain ⟨p, po, pn, hv, pa⟩ := h rows[i].1 (List.mem_of_getElem? ge)
  have h1 := tkv_at hk nd ge hv
  unfold tkv at h1
  rw [List.map_map, List.getElem?_map, List.getElem?_eq_getElem hi] at h1
  exact ⟨p, po, pn, _, _, Option.some.inj h1, pa⟩
/-- new tables, told by their addresses: goal, pair, old, new -/
def tabRs (T : List (Str × Addr × Addr × Addr)) : List (Str × V) := T.map fun t => (t.1, V.ref t.2.1)
theorem tabRs_keys (T : List (Str × Addr × Addr × Addr)) : (tabRs T).map (·.1) = T.map (·.1) := by
  unfold tabRs
  rw [List.map_map]
  rfl
structure TabsAt (H0 H : Hp) (D : Addr) (T : List (Str × Addr × Addr × Addr)) (ends dots : List Str) (o n : Str → List (Str × V)) : Prop where
  hd : H D = some (.dK (tkv (tabRs T)))
  ks : T.map (·.1) = ends
  pa : ∀ t ∈ T, PairAt H dots t.1 t.2.1 t.2.2.1 t.2.2.2 (o t.1) (n t.1) ∧ H0 t.2.1 = none ∧ H0 t.2.2.1 = none ∧ H0 t.2.2.2 = none
  nd : (D :: T.flatMap fun t => [t.2.2.1, t.2.2.2]).Nodup
theorem TabsAt.get {H0 H : Hp} {D : Addr} {T : List (Str × Addr × Addr × Addr)} {ends dots : List Str} {o n : Str → List (Str × V)} (h : TabsAt H0 H D T ends dots o n) (en : ends.Nodup) {t : Str × Addr × Addr × Addr} (ht : t ∈ T) : valV (tkv (tabRs T)) (Sum.inr t.1) = some (.ref t.2.1) := by
  have ks := h.ks
  clear h
  induction T generalizing ends with
  | nil => cases ht
  | cons u T ih =>
    subst ks
    obtain ⟨h1, h2⟩ := List.nodup_cons.mp en
    show valV ((Sum.inr u.1, V.ref u.2.1) :: tkv (tabRs T)) (Sum.inr t.1) = _
    rcases List.mem_cons.mp ht with rfl | ht
    · exact valV_pos (p := ((Sum.inr t.1 : Key), V.ref t.2.1)) rfl
    · rw [valV_neg (fun e => h1 (by have e' : u.1 = t.1 := Sum.inr.inj e; show u.1 ∈ T.map (·.1); rw [e']; exact List.mem_map_of_mem ht))]
      exact ih h2 ht rfl
theorem TabsAt.rows {H0 H : Hp} {D : Addr} {T : List (Str × Addr × Addr × Addr)} {ends dots : List Str} {o n : Str → List (Str × V)} (h : TabsAt H0 H D T ends dots o n) (en : ends.Nodup) : RowsAt H ends dots (tabRs T) o n := fun e he => by
  rw [← h.ks] at he
  obtain ⟨t, ht, rfl⟩ := List.mem_map.mp he
  exact ⟨_, _, _, h.get en ht, (h.pa t ht).1⟩
section
variable {P : Program} {w : World} {K : PySem.W.Frag} {mg : Str → Option Value} {base : Heap}
def spTabs (C : Addr) : Sp := fun vs H Q _ => ∃ (m : Addr) (ends dots ss ps : List Str) (o n : Str → List (Str × V)), vs = [.ref m] ∧ NetAt C H m ends dots ss ps o n ∧ 0 < ends.length ∧ ends.length ≤ 100 ∧ ends.Nodup ∧
  ∀ D T H', Evl.Ex H H' → H D = none → TabsAt H H' D T ends dots (fun e => canon dots (o e)) (fun e => canon dots (n e)) → Q (.ref D) H'
abbrev nTabs : List Str := ["self", "goal", "old", "new"]
theorem sc_tabs : FnScope nTabs ["self"] (defScope c_Net_tables) := ⟨rfl, rfl, rfl, by decide +kernel, rfl, by decide +kernel, by decide +kernel⟩
theorem ok_tabs {f C : Addr} {fd : FuncData} (F : Fun K "tables" "Net.tables" c_Net_tables f fd) (T : NetTxt K C) (mDict : mg "dict" = none) : FnOk P w K mg base CX0 1 f fd ["self"] (spTabs C) := by
  refine F.ok sc_tabs (fun vs H Q E h => ?_) (fun cdv A outer s H vs Q E hr h => ?_)
  · obtain ⟨m, ends, dots, ss, ps, o, n, rfl, _⟩ := h
    rfl
  · obtain ⟨m, ends, dots, ss, ps, o, n, rfl, N, e0, few, en, k⟩ := h
    have nd := sc_tabs.nd
    refine ⟨_, pss_one (ps_ret (pe_lock (pe_dc (own := [("goal", 1), ("old", 2), ("new", 3)]) (g := gTup K 2 (gCons (gName 1) (gCons (gTup K 2 (gCons (gName 2) (gCons (gName 3) gNil))) gNil))) (tt := tYes) (tk := tVar 1) rfl nd (pi_items (pe_fld (pv 0) rfl))
      (blkOk_by (own := [("goal", 1), ("old", 2), ("new", 3)]) (N := nTabs) (sc := defScope c_Net_tables) (by decide +kernel))
      (fun _ _ _ _ _ => pg_tup rfl (pgs_cons (pg_name (i := 1) nd rfl (Or.inl rfl)) (pgs_cons (pg_tup rfl (pgs_cons (pg_name (i := 2) nd rfl (Or.inl rfl)) (pgs_cons (pg_name (i := 3) nd rfl (Or.inl rfl)) pgs_nil))) pgs_nil)))
      (fun _ _ _ _ _ => pts_nil) (fun _ _ _ _ _ => pv 1)
      (fun _ _ _ _ _ => pe_tup (pa_cons (pe_callTy call_dictD (by rfl) mDict (by decide +kernel) (pa_cons (pv 2) pa_nil)) (pa_cons (pe_callTy call_dictD (by rfl) mDict (by decide +kernel) (pa_cons (pv 3) pa_nil)) pa_nil)))))), ?_⟩
    obtain ⟨dx, T', N', S, Po, rows, h1, h2, h3, h4, h5, h6, h7⟩ := N.ex
    have rl : rows.length = ends.length := by rw [← h6, List.length_map]
    have rne : rows ≠ [] := fun z => by rw [z] at rl; simp at rl; omega
    have ro := h7.ok h6 en
    refine ⟨T', .dK (tkv rows), h2, trivial, fun od => ?_⟩
    have locked : (upd H T' (.frz od (.dK (tkv rows)))) T' = some (.frz od (.dK (tkv rows))) := upd_same
    have up : ∀ {a : Addr} {u : HO}, H a = some u → a ≠ T' → (upd H T' (.frz od (.dK (tkv rows)))) a = some u := fun {a u} h ne => by rw [upd_ne ne]; exact h
    have back : ∀ {H4 : Hp}, Evl.Ex (upd H T' (.frz od (.dK (tkv rows)))) H4 → Evl.Ex H (upd H4 T' (.dK (tkv rows))) := fun {H4} e a u h => by
      by_cases q : a = T'
      · subst q
        rw [upd_same, ← h2, h]
      · rw [upd_ne q]
        exact e _ _ (by rw [upd_ne q]; exact h)
    generalize upd H T' (.frz od (.dK (tkv rows))) = HL at locked up back
    refine ⟨.ref m, rfl, m, C, dx, _, .ref T', rfl, up h1 (ne_of h1 h2 (by intro z; cases z)), T.cl, T.nT, nflds_tables _ _ _ _, T', od, _, rfl, locked, fun D hD => dc_it walk_items
      (fun i H' => i ≤ ends.length ∧ Evl.Ex HL H' ∧ ∃ rs : List (Str × Addr × Addr × Addr), H' D = some (.dK (tkv (tabRs rs))) ∧ rs.map (·.1) = ends.take i ∧
        (∀ q ∈ rs, PairAt H' dots q.1 q.2.1 q.2.2.1 q.2.2.2 (canon dots (o q.1)) (canon dots (n q.1)) ∧ HL q.2.1 = none ∧ HL q.2.2.1 = none ∧ HL q.2.2.2 = none) ∧ (D :: rs.flatMap fun t => [t.2.2.1, t.2.2.2]).Nodup)
      ⟨Nat.zero_le _, Evl.Ex.new hD, [], upd_same, rfl, (fun q hq => by cases hq), List.nodup_cons.mpr ⟨by simp, List.nodup_nil⟩⟩ (fun i H' _ h => h.2.1 _ _ locked) ?_ ?_⟩
    · rintro i x H4 H4' hi ⟨_, x4, rs, d4, hk, hpr, hnd⟩ ⟨Tt, xk, xv, rfl, hTt, rfl, hxk, hxv⟩
      rw [tkv_len, rl] at hi
      have gi : ends[i]? = some ends[i] := List.getElem?_eq_getElem hi
      obtain ⟨p, po, pn, hv, pa⟩ := h7 ends[i] (List.getElem_mem hi)
      have ev : xv = .ref p := by
        have z := tkv_at h6 en gi hv
        rw [List.getElem?_map] at z
        exact Option.some.inj (hxv.symm.trans z)
      have ek : xk = .str ends[i] := by
        have z : ((tkv rows).map fun kv => kV kv.1)[i]? = some (.str ends[i]) := by rw [tkv_keysV, h6, List.getElem?_map, gi]; rfl
        rw [List.getElem?_map] at z
        exact Option.some.inj (hxk.symm.trans z)
      subst ev ek
      have n1 : p ≠ T' := ne_of pa.hp h2 (by intro z; cases z)
      have n2 : po ≠ T' := tab_ne h2 ro rne pa.ho pa.o1
      have n3 : pn ≠ T' := tab_ne h2 ro rne pa.hn pa.o2
      have y1 : Evl.Ex H4 (upd H4 Tt (.tup [.str ends[i], .ref p])) := Evl.Ex.new hTt
      have t1 : (upd H4 Tt (.tup [.str ends[i], .ref p])) Tt = some (.tup [.str ends[i], .ref p]) := upd_same
      generalize upd H4 Tt (.tup [.str ends[i], .ref p]) = H5 at y1 t1
      have x5 := x4.trans y1
      have zn : ends[i] ∉ ends.take i := fun hm => by
        have q1 : (ends.take (i + 1)).Nodup := en.sublist (List.take_sublist _ _)
        rw [List.take_add_one, gi] at q1
        exact (List.nodup_append.mp q1).2.2 _ hm _ (List.mem_singleton.mpr rfl) rfl
      refine ⟨Tt, _, rfl, Evl.st_of t1, rfl, _, _, rfl, _, [], rfl, p, _, rfl, Evl.st_of (x5 _ _ (up pa.hp n1)), rfl, _, _, rfl, _, [], rfl, rfl, rfl, rfl, ?_⟩
      refine yes_if ?_
      refine ⟨.str ends[i], rfl, .ref po, rfl, po, _, rfl, .inl (x5 _ _ (up pa.ho n2)), fun po' hpo' => ?_⟩
      have y2 : Evl.Ex H5 (upd H5 po' (.dK (tkv (canon dots (o ends[i]))))) := Evl.Ex.new hpo'
      have q2 : (upd H5 po' (.dK (tkv (canon dots (o ends[i]))))) po' = some (.dK (tkv (canon dots (o ends[i])))) := upd_same
      have f2 : H4 po' = none := by
        cases z : H4 po' with
        | none => rfl
        | some u => rw [y1 _ _ z] at hpo'; cases hpo'
      generalize upd H5 po' (.dK (tkv (canon dots (o ends[i])))) = H6 at y2 q2
      refine ⟨.ref pn, rfl, pn, _, rfl, .inl ((x5.trans y2) _ _ (up pa.hn n3)), fun pn' hpn' => ⟨by show 2 ≤ sizeLine; decide, fun p' hp' => ?_⟩⟩
      have y3 : Evl.Ex H6 (upd (upd H6 pn' (.dK (tkv (canon dots (n ends[i]))))) p' (.tup [.ref po', .ref pn'])) := (Evl.Ex.new hpn').trans (Evl.Ex.new hp')
      have q3 : (upd (upd H6 pn' (.dK (tkv (canon dots (n ends[i]))))) p' (.tup [.ref po', .ref pn'])) pn' = some (.dK (tkv (canon dots (n ends[i])))) := Evl.Ex.new hp' _ _ upd_same
      have q1 : (upd (upd H6 pn' (.dK (tkv (canon dots (n ends[i]))))) p' (.tup [.ref po', .ref pn'])) p' = some (.tup [.ref po', .ref pn']) := upd_same
      have f3 : H4 pn' = none := by
        cases z : H4 pn' with
        | none => rfl
        | some u => rw [(y1.trans y2) _ _ z] at hpn'; cases hpn'
      generalize upd (upd H6 pn' (.dK (tkv (canon dots (n ends[i]))))) p' (.tup [.ref po', .ref pn']) = H7 at y3 q3 q1
      have x7 := x5.trans (y2.trans y3)
      have d7 := (y1.trans (y2.trans y3)) _ _ d4
      have q2' := y3 _ _ q2
      have l4 := x4 _ _ locked
      have back4 : ∀ {a : Addr}, H4 a = none → HL a = none := fun {a} h => by
        cases z : HL a with
        | none => rfl
        | some u => rw [x4 _ _ z] at h; cases h
      have f1 : H4 p' = none := by
        cases z : H4 p' with
        | none => rfl
        | some u =>
          have w6 : Evl.Ex H4 (upd H6 pn' (.dK (tkv (canon dots (n ends[i]))))) := (y1.trans y2).trans (Evl.Ex.new hpn')
          rw [w6 _ _ z] at hp'
          cases hp'
      have rsl : rs.length ≤ 100 := by
        have := congrArg List.length hk
        rw [List.length_map, List.length_take] at this
        omega
      -- what was made stands apart
      have apart : ∀ a ∈ D :: rs.flatMap (fun t => [t.2.2.1, t.2.2.2]), (H4 a).isSome = true := fun a ha => by
        rcases List.mem_cons.mp ha with rfl | ha
        · rw [d4]; rfl
        · obtain ⟨t, ht, ha⟩ := List.mem_flatMap.mp ha
          have pt := (hpr t ht).1
          rcases List.mem_cons.mp ha with rfl | ha
          · rw [pt.ho]; rfl
          · rw [List.mem_singleton.mp ha, pt.hn]; rfl
      have no_po : po' ∉ D :: rs.flatMap fun t => [t.2.2.1, t.2.2.2] := fun m => by
        have := apart _ m
        rw [f2] at this
        cases this
      have no_pn : pn' ∉ D :: rs.flatMap fun t => [t.2.2.1, t.2.2.2] := fun m => by
        have := apart _ m
        rw [f3] at this
        cases this
      have n_on : po' ≠ pn' := ne_of_none q2 hpn'
      have m1 : p' ≠ D := ne_of q1 d7 (by intro z; cases z)
      have m2 : po' ≠ D := (ne_of_none d4 f2).symm
      have m3 : pn' ≠ D := (ne_of_none d4 f3).symm
      have et : tabRs (rs ++ [(ends[i], p', po', pn')]) = tabRs rs ++ [(ends[i], V.ref p')] := by unfold tabRs; rw [List.map_append]; rfl
      have lenR : (tkv (tabRs rs)).length ≤ 100 := by rw [tkv_len]; unfold tabRs; rw [List.length_map]; exact rsl
      refine ⟨_, Sum.inr ends[i], rfl, d7, small1000 (by omega), hi, x7.mut hD, rs ++ [(ends[i], p', po', pn')], ?_, ?_, ?_, ?_⟩
      · rw [upd_same, tkv_new (by rw [tabRs_keys, hk]; exact zn), et]
      · rw [List.map_append, hk, List.take_add_one, gi]
        rfl
      · have keep : ∀ {a : Addr} {u : HO}, H7 a = some u → a ≠ D → (upd H7 D (.dK (putK (tkv (tabRs rs)) (Sum.inr ends[i]) (V.ref p')))) a = some u := fun {a u} h ne => by rw [upd_ne ne]; exact h
        intro q hq
        rcases List.mem_append.mp hq with hq | hq
        · obtain ⟨pa1, z1, z2, z3⟩ := hpr q hq
          have pw := pa1.ex (y1.trans (y2.trans y3))
          have ne2 : q.2.2.1 ≠ D := fun e => (List.nodup_cons.mp hnd).1 (e ▸ List.mem_flatMap.mpr ⟨q, hq, List.mem_cons_self⟩)
          have ne3 : q.2.2.2 ≠ D := fun e => (List.nodup_cons.mp hnd).1 (e ▸ List.mem_flatMap.mpr ⟨q, hq, List.mem_cons_of_mem _ List.mem_cons_self⟩)
          exact ⟨⟨keep pw.hp (ne_of pw.hp d7 (by intro z; cases z)), keep pw.ho ne2, keep pw.hn ne3, pw.o1, pw.o2⟩, z1, z2, z3⟩
        · rw [List.mem_singleton.mp hq]
          exact ⟨⟨keep q1 m1, keep q2' m2, keep q3 m3, pa.o1, pa.o2⟩, back4 f1, back4 f2, back4 f3⟩
      · rw [List.flatMap_append]
        show ((D :: rs.flatMap _) ++ [po', pn']).Nodup
        refine List.nodup_append.mpr ⟨hnd, List.nodup_cons.mpr ⟨by simpa using n_on, List.nodup_cons.mpr ⟨by simp, List.nodup_nil⟩⟩, fun a ha b hb e => ?_⟩
        subst e
        rcases List.mem_cons.mp hb with rfl | hb
        · exact no_po ha
        · rw [List.mem_singleton.mp hb] at ha
          exact no_pn ha
    · rintro H4 ⟨_, x4, rs, d4, hk, hpr, hnd⟩
      rw [tkv_len, rl, List.take_length] at hk
      refine ⟨x4 _ _ locked, ?_⟩
      have nDT : D ≠ T' := (ne_of_none locked hD).symm
      have old : ∀ {a : Addr}, HL a = none → H a = none := fun {a} h => by
        by_cases e : a = T'
        · rw [e, locked] at h; cases h
        · cases z : H a with
          | none => rfl
          | some u => rw [up z e] at h; cases h
      have offT : ∀ {a : Addr}, HL a = none → a ≠ T' := fun {a} h e => by rw [e, locked] at h; cases h
      refine k D rs _ (back x4) (old hD) ⟨by rw [upd_ne nDT]; exact d4, hk, fun t ht => ?_, hnd⟩
      obtain ⟨pa1, z1, z2, z3⟩ := hpr t ht
      exact ⟨⟨by rw [upd_ne (offT z1)]; exact pa1.hp, by rw [upd_ne (offT z2)]; exact pa1.ho, by rw [upd_ne (offT z3)]; exact pa1.hn, pa1.o1, pa1.o2⟩, old z1, old z2, old z3⟩
end
end Rw
end T_Y0

section T_N4
set_option Elab.async false
set_option linter.all false
set_option maxRecDepth 100000
set_option maxHeartbeats 4000000
namespace Rw
open PySem L2 PyProof.Rows
/-- a lot of these names stands at a -/
structure LotAt (H : Hp) (a : Addr) (zs ys : List Str) : Prop where
  ha : H a = some (.tup (zs.map V.str))
  sub : ∀ z ∈ zs, z ∈ ys
  nd : zs.Nodup
  so : sortedS zs = true
  nm : ∀ z ∈ zs, Nm z
  few : zs.length ≤ 60
theorem LotAt.ex {H H' : Hp} {a : Addr} {zs ys : List Str} (h : LotAt H a zs ys) (e : Evl.Ex H H') : LotAt H' a zs ys := ⟨e _ _ h.ha, h.sub, h.nd, h.so, h.nm, h.few⟩
theorem shaped_tup {ds : List PyData} (h1 : PyData.canLayAll0 ds = true) (h2 : PyData.depthAll ds ≤ 60) : SeqAt.shaped (.tuple ds) = true := by
  unfold SeqAt.shaped
  rw [show PyData.canLay0 (.tuple ds) = PyData.canLayAll0 ds from rfl, h1, show PyData.depth (.tuple ds) = PyData.depthAll ds + 1 from rfl]
  exact decide_eq_true (show PyData.depthAll ds + 1 ≤ 64 by omega)
theorem any_falses (n : Nat) : (List.replicate n false).any id = false := by
  induction n with
  | zero => rfl
  | succ n ih => rw [List.replicate_succ, List.any_cons, ih]; rfl
section
variable {P : Program} {w : World} {K : PySem.W.Frag} {mg : Str → Option Value} {base : Heap}
def spLotOf : Sp := fun vs H Q _ => ∃ (a b : Addr) (zs ys : List Str), vs = [.ref a, .ref b] ∧ LotAt H a zs ys ∧ H b = some (.tup (ys.map V.str)) ∧ ∀ H', Evl.Ex H H' → Q (.bl true) H'
abbrev nLotOf : List Str := ["value", "nodes", "node"]
theorem sc_lot_of : FnScope nLotOf ["value", "nodes"] (defScope p_is_lot_of) := ⟨rfl, rfl, rfl, by decide +kernel, rfl, by decide +kernel, by decide +kernel⟩
theorem ok_lot_of {f : Addr} {fd : FuncData} (F : Fun K "is_lot_of" "is_lot_of" p_is_lot_of f fd) (mIsi : mg "isinstance" = none) (mTup : mg "tuple" = none) (mAll : mg "all" = none) (mSorted : mg "sorted" = none) (mSet : mg "set" = none) : FnOk P w K mg base CX0 1 f fd ["value", "nodes"] spLotOf := by
  refine F.ok sc_lot_of (fun vs H Q E h => ?_) (fun cdv A outer s H vs Q E hr h => ?_)
  · obtain ⟨a, b, zs, ys, rfl, _⟩ := h
    rfl
  · obtain ⟨a, b, zs, ys, rfl, L, hb, k⟩ := h
    have nd := sc_lot_of.nd
    refine ⟨_, pss_cons (ps_if (PW.pt (pw_or (pt_not (pt_val (pe_callB call_isi (by rfl) mIsi (by decide +kernel) (pa_cons (pv 0) (pa_cons (pe_bltn (v := .ty "tuple") (by rfl) mTup (by decide +kernel) rfl) pa_nil)))))
          (pw_or1 (pt_not (pt_val (pe_callB (cr_all rfl) (by rfl) mAll (by decide +kernel) (pa_cons (pe_lc (own := [("node", 2)]) (g := gName 2) (tt := tYes) (te := tOp (rIn K false) (tVar 2) (tVar 1)) rfl nd (pi_tup (pv 0)) (blkOk_by (own := [("node", 2)]) (N := nLotOf) (sc := defScope p_is_lot_of) (by decide +kernel))
            (fun _ _ _ _ _ => pg_name (i := 2) nd rfl (Or.inl rfl)) (fun _ _ _ _ _ => pts_nil) (fun _ _ _ _ _ => pe_cmpR op_in_seq (pv 2) (pv 1) rfl)) pa_nil))))))) (pss_one (ps_ret pe_bl)) pss_nil)
      (pss_one (ps_ret (pe_cmpR (op_eqD hr.units) (pv 0) (pe_callTy call_tuple_of (by rfl) mTup (by decide +kernel) (pa_cons (pe_callB (cr_sortedX rfl) (by rfl) mSorted (by decide +kernel) (pa_cons (pe_callTy (cr_setX rfl) (by rfl) mSet (by decide +kernel) (pa_cons (pv 0) pa_nil)) pa_nil)) pa_nil)) (nomark _)))), ?_⟩
    have few := L.few
    refine ⟨.ref a, rfl, .ref a, .ty "tuple", _, _, true, rfl, .ty _, .base (.tup L.ha), kit_ty (by decide +kernel), true, rfl, ?_⟩
    refine ⟨.ref a, rfl, a, rfl, ⟨_, Evl.st_of L.ha⟩, fun D hD => lc_truesT (Evl.st_of L.ha) hD (by rw [List.length_map]; omega) (fun i x H1 Q1 R hi e1 go => ?_) (fun H1 e1 d1 => ?_)⟩
    · obtain ⟨z, hz, rfl⟩ := str_at hi
      refine ⟨rfl, ?_⟩
      refine yes_if ?_
      refine ⟨.str z, rfl, .ref b, rfl, b, ys.map V.str, rfl, .inr (Evl.st_of (e1 _ _ hb)), rfl, flat_strs ys, ?_⟩
      rw [inV_str, decide_eq_true (L.sub z (List.mem_of_getElem? hz))]
      exact go _ (Evl.Ex.refl _)
    · refine ⟨D, _, rfl, Evl.sq_of d1, ?_⟩
      rw [all_trues]
      refine ⟨true, rfl, ?_⟩
      -- value == tuple(sorted(set(value)))
      refine ⟨.ref a, rfl, .ref a, rfl, a, zs, rfl, .inr (Evl.st_of (e1 _ _ L.ha)), by omega, fun p hp => ?_⟩
      have e3 := Evl.Ex.new (o := SetXO w p (seen zs)) hp
      refine ⟨p, seen zs, rfl, upd_same, by rw [seen_len L.nd]; omega, fun ws l hws hso hl => ?_⟩
      have ew : ws = zs := sorted_uniq hso L.so (hws.trans (seen_perm L.nd))
      subst ew
      have e4 := Evl.Ex.new (o := HO.lst (ws.map V.str)) hl
      refine ⟨l, _, rfl, .inl ⟨Evl.sq_of upd_same, fun t ht => ?_⟩⟩
      have e5 := Evl.Ex.new (o := HO.tup (ws.map V.str)) ht
      have x := e1.trans (e3.trans (e4.trans e5))
      obtain ⟨ds, g1, g2, g3, _⟩ := data_all (K := K) (H := H) (ws.map V.str) fun v hv => by
        obtain ⟨z, hz, rfl⟩ := List.mem_map.mp hv
        exact strV_data (nm_ok (L.nm z hz))
      refine ⟨.tuple ds, .tuple ds, .tup (Evl.st_of (x _ _ L.ha)) (dpa_ex x ds _ g1), .tup (Evl.st_of upd_same) (dpa_ex x ds _ g1), shaped_tup g2 g3, shaped_tup g2 g3, ?_⟩
      rw [show PyData.eqv (.tuple ds) (.tuple ds) = true from PySem.SeqAt.eqv_refl _ g2]
      exact k _ x
/-! ### check_lot, check_round -/
def spCheckLot (C : Addr) : Sp := fun vs H Q _ => ∃ (m a : Addr) (t : V) (zs ends dots ss ps : List Str) (o n : Str → List (Str × V)), vs = [.ref m, .ref a, t] ∧ NetAt C H m ends dots ss ps o n ∧ ends.length ≤ 100 ∧ dots.length ≤ 100 ∧ ends.Nodup ∧ LotAt H a zs (moving ends dots o n) ∧ ∀ H', Evl.Ex H H' → Q .non H'
theorem sc_check_lot : FnScope ["net", "lot", "part"] ["net", "lot", "part"] (defScope p_check_lot) := ⟨rfl, rfl, rfl, by decide +kernel, rfl, by decide +kernel, by decide +kernel⟩
theorem ok_check_lot {f C : Addr} {fd : FuncData} (F : Fun K "check_lot" "check_lot" p_check_lot f fd) (T : NetTxt K C) (Pg : Prp P w K mg base C 2 "changing" (spChanging C)) (Cl : Cal P w K mg base 1 "is_lot_of" ["value", "nodes"] spLotOf) : FnOk P w K mg base CX0 4 f fd ["net", "lot", "part"] (spCheckLot C) := by
  obtain ⟨p1, g1, fd1, at1, F1, b1⟩ := Pg.ex
  obtain ⟨f2, fd2, F2, k2, b2, g2⟩ := Cl.ex
  refine F.ok sc_check_lot (fun vs H Q E h => ?_) (fun cdv A outer s H vs Q E hr h => ?_)
  · obtain ⟨m, a, t, zs, ends, dots, ss, ps, o, n, rfl, _⟩ := h
    rfl
  · obtain ⟨m, a, t, zs, ends, dots, ss, ps, o, n, rfl, N, l1, l2, en, L, k⟩ := h
    have hr1 : Room 1 _ := hr.mono (by decide)
    refine ⟨_, pss_one (ps_if (pt_not (pt_val (pe_call F2 hr1 rfl g2 k2 b2 .nil pass0 (pa_cons (pv 1) (pa_cons (pe_prop (pv 0) T.cl at1 F1 hr b1 .nil pass0 rfl) pa_nil))))) (pss_one ps_never) pss_nil), ?_⟩
    have N2 := N
    obtain ⟨dx, T', N', S, Po, rows, h1, h2, h3, h4, h5, h6, h7⟩ := N.ex
    refine ⟨.ref a, rfl, .ref m, rfl, m, dx, _, rfl, h1, m, ends, dots, ss, ps, o, n, rfl, N2, l1, l2, en, fun p H1 x1 hp hp1 => ?_⟩
    exact ⟨a, p, zs, _, rfl, L.ex x1, hp1, fun H2 x2 => ⟨true, rfl, k _ (x1.trans x2)⟩⟩
def spRound (C : Addr) : Sp := fun vs H Q _ => ∃ (m a b : Addr) (t : Str) (zs ys ends dots ss ps : List Str) (o n : Str → List (Str × V)), vs = [.ref m, .ref a, .ref b, .str t] ∧ NetAt C H m ends dots ss ps o n ∧ ends.length ≤ 100 ∧ dots.length ≤ 100 ∧ ends.Nodup ∧
  LotAt H a zs (moving ends dots o n) ∧ LotAt H b ys (moving ends dots o n) ∧ (∀ y ∈ ys, y ∉ zs) ∧ ∀ H', Evl.Ex H H' → Q .non H'
abbrev nRound : List Str := ["net", "done", "lot", "part", "node"]
theorem sc_round : FnScope nRound ["net", "done", "lot", "part"] (defScope p_check_round) := ⟨rfl, rfl, rfl, by decide +kernel, rfl, by decide +kernel, by decide +kernel⟩
theorem ok_check_round {f C : Addr} {fd : FuncData} (F : Fun K "check_round" "check_round" p_check_round f fd) (C1 : Cal P w K mg base 1 "check_net" ["net"] (spCheckNet C)) (C2 : Cal P w K mg base 4 "check_lot" ["net", "lot", "part"] (spCheckLot C)) (mAny : mg "any" = none) : FnOk P w K mg base CX0 5 f fd ["net", "done", "lot", "part"] (spRound C) := by
  obtain ⟨f1, fd1, F1, k1, b1, g1⟩ := C1.ex
  obtain ⟨f2, fd2, F2, k2, b2, g2⟩ := C2.ex
  refine F.ok sc_round (fun vs H Q E h => ?_) (fun cdv A outer s H vs Q E hr h => ?_)
  · obtain ⟨m, a, b, t, zs, ys, ends, dots, ss, ps, o, n, rfl, _⟩ := h
    rfl
  · obtain ⟨m, a, b, t, zs, ys, ends, dots, ss, ps, o, n, rfl, N, l1, l2, en, La, Lb, dis, k⟩ := h
    have nd := sc_round.nd
    have hr1 : Room 1 _ := hr.mono (by decide)
    refine ⟨_, pss_cons (ps_expr (pe_call F1 hr1 rfl g1 k1 b1 .nil pass0 (pa_cons (pv 0) pa_nil)))
      (pss_cons (ps_expr (pe_call F2 hr rfl g2 k2 b2 .nil pass0 (pa_cons (pv 0) (pa_cons (pv 1) (pa_cons pe_str pa_nil)))))
      (pss_cons (ps_expr (pe_call F2 hr rfl g2 k2 b2 .nil pass0 (pa_cons (pv 0) (pa_cons (pv 2) (pa_cons (pv 3) pa_nil)))))
      (pss_one (ps_if (pt_val (pe_callB (cr_any rfl) (by rfl) mAny (by decide +kernel) (pa_cons (pe_lc (own := [("node", 4)]) (g := gName 4) (tt := tYes) (te := tOp (rIn K false) (tVar 4) (tVar 1)) rfl nd (pi_tup (pv 2)) (blkOk_by (own := [("node", 4)]) (N := nRound) (sc := defScope p_check_round) (by decide +kernel))
            (fun _ _ _ _ _ => pg_name (i := 4) nd rfl (Or.inl rfl)) (fun _ _ _ _ _ => pts_nil) (fun _ _ _ _ _ => pe_cmpR op_in_seq (pv 4) (pv 1) rfl)) pa_nil))) (pss_one ps_never) pss_nil)))), ?_⟩
    have few := Lb.few
    refine ⟨.ref m, rfl, m, ends, dots, ss, ps, o, n, rfl, N, ?_⟩
    refine ⟨.ref m, rfl, .ref a, rfl, m, a, _, zs, ends, dots, ss, ps, o, n, rfl, N, l1, l2, en, La, fun H1 x1 => ?_⟩
    refine ⟨.ref m, rfl, .ref b, rfl, .str t, rfl, m, b, _, ys, ends, dots, ss, ps, o, n, rfl, N.to x1, l1, l2, en, Lb.ex x1, fun H2 x2 => ?_⟩
    have x12 := x1.trans x2
    refine ⟨.ref b, rfl, b, rfl, ⟨_, Evl.st_of (x12 _ _ Lb.ha)⟩, fun D hD => lc_tup (K := K) (a := b) (xs := ys.map V.str) (fun i H' => i ≤ ys.length ∧ Evl.Ex H2 H' ∧ H' D = some (.lst ((List.replicate i false).map V.bl)))
      ⟨Nat.zero_le _, Evl.Ex.new hD, upd_same⟩ (fun i H' _ h => Evl.st_of (h.2.1 _ _ (x12 _ _ Lb.ha))) ?_ ?_⟩
    · rintro i x H3 hi ⟨_, x3, d3⟩
      obtain ⟨y, hy, rfl⟩ := str_at hi
      have hil : i < ys.length := (List.getElem?_eq_some_iff.mp hy).1
      refine ⟨rfl, ?_⟩
      refine yes_if ?_
      refine ⟨.str y, rfl, .ref a, rfl, a, zs.map V.str, rfl, .inr (Evl.st_of ((x12.trans x3) _ _ La.ha)), rfl, flat_strs zs, _, d3, by rw [List.length_map, List.length_replicate]; exact small1000 (by omega), hil, x3.mut hD, ?_⟩
      rw [inV_str, decide_eq_false (dis y (List.mem_of_getElem? hy)), upd_same, List.replicate_succ', List.map_append]
      rfl
    · rintro H3 ⟨_, x3, d3⟩
      refine ⟨D, _, rfl, Evl.sq_of d3, ?_⟩
      rw [any_falses]
      exact ⟨false, rfl, k _ (x12.trans x3)⟩
end
end Rw
end T_N4

section T_W0
set_option Elab.async false
set_option linter.all false
set_option maxRecDepth 100000
set_option maxHeartbeats 4000000
namespace Rw
open PySem L2 PyProof.Rows
/-! ### the places that a table leads to -/
/-- zs behind, v the place: on, up to one that is no key or came before -/
def track (tb : List (Str × V)) : Nat → List Str → V → List V
  | 0, zs, v => zs.map V.str ++ [v]
  | k + 1, zs, v => match v with
    | .str z => match valV (tkv tb) (Sum.inr z) with
      | some u => if z ∈ zs then zs.map V.str ++ [v] else track tb k (zs ++ [z]) u
      | none => zs.map V.str ++ [v]
    | _ => zs.map V.str ++ [v]
def walkOf (tb : List (Str × V)) (n : Nat) (z : Str) : List V := track tb n [] (.str z)
theorem track_non {tb : List (Str × V)} {k : Nat} {zs : List Str} : track tb k zs .non = zs.map V.str ++ [.non] := by cases k <;> rfl
theorem track_out {tb : List (Str × V)} {k : Nat} {zs : List Str} {z : Str} (h : valV (tkv tb) (Sum.inr z) = none) : track tb k zs (.str z) = zs.map V.str ++ [.str z] := by
  cases k with
  | zero => rfl
  | succ k => show (match valV (tkv tb) (Sum.inr z) with | some u => _ | none => _) = _; rw [h]
theorem track_ring {tb : List (Str × V)} {k : Nat} {zs : List Str} {z : Str} (h : z ∈ zs) : track tb k zs (.str z) = zs.map V.str ++ [.str z] := by
  cases k with
  | zero => rfl
  | succ k =>
    show (match valV (tkv tb) (Sum.inr z) with | some u => if z ∈ zs then zs.map V.str ++ [V.str z] else track tb k (zs ++ [z]) u | none => zs.map V.str ++ [V.str z]) = _
    cases valV (tkv tb) (Sum.inr z) with
    | none => rfl
    | some u => show (if z ∈ zs then _ else _) = _; rw [if_pos h]
theorem track_on {tb : List (Str × V)} {k : Nat} {zs : List Str} {z : Str} {u : V} (h : valV (tkv tb) (Sum.inr z) = some u) (hz : z ∉ zs) : track tb (k + 1) zs (.str z) = track tb k (zs ++ [z]) u := by
  show (match valV (tkv tb) (Sum.inr z) with | some u => if z ∈ zs then zs.map V.str ++ [V.str z] else track tb k (zs ++ [z]) u | none => zs.map V.str ++ [V.str z]) = _
  rw [h]
  show (if z ∈ zs then _ else _) = _
  rw [if_neg hz]
theorem iteF {A B : Prop} (h : B) : if false = true then A else B := by
  rw [if_neg (by decide)]
  exact h
/-- a place that can stand in a walk -/
def Spot (v : V) : Prop := v = .non ∨ ∃ y : Str, v = .str y ∧ Nm y
theorem place_spot {zs : List Str} {e z : Str} {v : V} (h : PlaceOk zs e z v) (hz : ∀ y ∈ zs, Nm y) (he : Nm e) : Spot v := by
  rcases h with rfl | rfl | ⟨y, hy, _, rfl⟩
  · exact .inl rfl
  · exact .inr ⟨e, rfl, he⟩
  · exact .inr ⟨y, rfl, hz y hy⟩
theorem track_spots {tb : List (Str × V)} (h : ∀ q ∈ tb, Spot q.2) : ∀ (k : Nat) (zs : List Str) (v : V), (∀ z ∈ zs, Nm z) → Spot v → ∀ u ∈ track tb k zs v, Spot u := by
  intro k
  have base : ∀ (zs : List Str) (v : V), (∀ z ∈ zs, Nm z) → Spot v → ∀ u ∈ zs.map V.str ++ [v], Spot u := fun zs v hz hv u hu => by
    rcases List.mem_append.mp hu with hu | hu
    · obtain ⟨z, hz', rfl⟩ := List.mem_map.mp hu
      exact .inr ⟨z, rfl, hz z hz'⟩
    · rw [List.mem_singleton.mp hu]
      exact hv
  induction k with
  | zero => exact base
  | succ k ih =>
    intro zs v hz hv u hu
    rcases hv with rfl | ⟨y, rfl, hy⟩
    · rw [track_non] at hu
      exact base zs .non hz (.inl rfl) u hu
    · cases q : valV (tkv tb) (Sum.inr y) with
      | none =>
        rw [track_out q] at hu
        exact base zs _ hz (.inr ⟨y, rfl, hy⟩) u hu
      | some w =>
        by_cases m : y ∈ zs
        · rw [track_ring m] at hu
          exact base zs _ hz (.inr ⟨y, rfl, hy⟩) u hu
        · rw [track_on q m] at hu
          refine ih (zs ++ [y]) w (fun z hz' => ?_) ?_ u hu
          · rcases List.mem_append.mp hz' with hz' | hz'
            · exact hz z hz'
            · rw [List.mem_singleton.mp hz']; exact hy
          · have hk : y ∈ tb.map (·.1) := by
              by_cases hm : y ∈ tb.map (·.1)
              · exact hm
              · rw [tkv_none hm] at q; cases q
            obtain ⟨w', h1, h2⟩ := tkv_some hk
            rw [q] at h1
            rw [Option.some.inj h1]
            exact h _ h2
theorem track_len {tb : List (Str × V)} : ∀ (k : Nat) (zs : List Str) (v : V), (track tb k zs v).length ≤ zs.length + k + 1 := by
  intro k
  induction k with
  | zero => intro zs v; show (zs.map V.str ++ [v]).length ≤ _; simp
  | succ k ih =>
    intro zs v
    have b : ∀ v : V, (zs.map V.str ++ [v]).length ≤ zs.length + (k + 1) + 1 := fun v => by simp
    cases v with
    | str y =>
      cases q : valV (tkv tb) (Sum.inr y) with
      | none => rw [track_out q]; exact b _
      | some w =>
        by_cases m : y ∈ zs
        · rw [track_ring m]; exact b _
        · rw [track_on q m]
          have := ih (zs ++ [y]) w
          rw [List.length_append, List.length_singleton] at this
          omega
    | _ => exact b _
/-- a table that leads from these names to places -/
structure LeadOk (dots : List Str) (tb : List (Str × V)) : Prop where
  ks : tb.map (·.1) = dots
  sp : ∀ q ∈ tb, Spot q.2
  nm : ∀ z ∈ dots, Nm z
theorem LeadOk.get {dots : List Str} {tb : List (Str × V)} {z : Str} (h : LeadOk dots tb) (hz : z ∈ dots) : ∃ v, valV (tkv tb) (Sum.inr z) = some v ∧ Spot v := by
  obtain ⟨v, h1, h2⟩ := tkv_some (tb := tb) (z := z) (by rw [h.ks]; exact hz)
  exact ⟨v, h1, h.sp _ h2⟩
section
variable {P : Program} {w : World} {K : PySem.W.Frag} {mg : Str → Option Value} {base : Heap}
def spFollowed : Sp := fun vs H Q _ => ∃ (t : Addr) (z : Str) (dots : List Str) (tb : List (Str × V)), vs = [.ref t, .str z] ∧ H t = some (.dK (tkv tb)) ∧ LeadOk dots tb ∧ dots.length ≤ 100 ∧ Nm z ∧
  ∀ p H', Evl.Ex H H' → H p = none → H' p = some (.lst (walkOf tb (dots.length + 1) z)) → Q (.ref p) H'
abbrev nFollowed : List Str := ["table", "node", "places"]
theorem sc_followed : FnScope nFollowed ["table", "node"] (defScope p_followed) := ⟨rfl, rfl, rfl, by decide +kernel, rfl, by decide +kernel, by decide +kernel⟩
theorem ok_followed {f : Addr} {fd : FuncData} (F : Fun K "followed" "followed" p_followed f fd) : FnOk P w K mg base CX0 1 f fd ["table", "node"] spFollowed := by
  refine F.ok sc_followed (fun vs H Q E h => ?_) (fun cdv A outer s H vs Q E hr h => ?_)
  · obtain ⟨t, z, dots, tb, rfl, _⟩ := h
    rfl
  · obtain ⟨t, z, dots, tb, rfl, ht, L, few, hz, k⟩ := h
    have nd := sc_followed.nd
    have hu := hu_of hr
    refine ⟨_, pss_cons (ps_set (i := 2) nd rfl (.inl rfl) (pe_lst (pa_cons (pv 1) pa_nil)))
      (pss_cons (ps_while PassesOwn.never (PW.pt (pw_and (pt_cmp (pc_dinN hu (pe_ix ix_list (pv 2) (pe_un un_neg pe_int) (fun _ _ => rfl)) (pv 0)) rfl)
          (pw_and1 (pt_cmpR op_notIn_seq (pe_ix ix_list (pv 2) (pe_un un_neg pe_int) (fun _ _ => rfl)) (pe_slice sl_list (pv 2) po_none (po_some (pe_un un_neg pe_int))) rfl))))
        (pss_one (ps_expr (pe_bm PySem.F.plainAttrs_list PySem.F.slot_list_append PySem.F.type_list_append mt_append (pv 2)
          (pa_cons (pe_dget hu (pv 0) (pe_ix ix_list (pv 2) (pe_un un_neg pe_int) (fun _ _ => rfl)) (fun _ _ => rfl)) pa_nil)))))
      (pss_one (ps_ret (pv 2)))), ?_⟩
    refine ⟨.str z, rfl, by show 1 ≤ sizeLine; decide, fun p hp => ?_⟩
    refine ⟨fun m σ H' => ∃ (zs : List Str) (v : V), σ = [some (.ref t), some (.str z), some (.ref p)] ∧ H' p = some (.lst (zs.map V.str ++ [v])) ∧ Evl.Ex H H' ∧ zs.Nodup ∧ (∀ y ∈ zs, y ∈ dots) ∧ Spot v ∧
      track tb m zs v = walkOf tb (dots.length + 1) z ∧ m + zs.length = dots.length + 1, ⟨dots.length + 1, [], .str z, rfl, upd_same, Evl.Ex.new hp, List.nodup_nil, (fun y hy => by cases hy), .inr ⟨z, rfl, hz⟩, rfl, rfl⟩, ?_⟩
    rintro m σ H1 ⟨zs, v, rfl, p1, x1, znd, zd, hv, tr, hm⟩
    have zl := nodup_le zs dots znd zd
    have t1 := x1 _ _ ht
    refine ⟨.ref p, rfl, 1, rfl, p, _, -1, v, rfl, rfl, Evl.sq_of p1, atI_last _ _, .ref t, rfl, ?_⟩
    rcases hv with rfl | ⟨y, rfl, hy⟩
    · refine .inr ⟨t, _, rfl, rfl, .inl t1, false, rfl, ?_⟩
      rw [track_non] at tr
      refine iteF ?_
      refine iteF ?_
      exact ⟨.ref p, rfl, k p _ x1 hp (by rw [p1, tr])⟩
    · cases q : valV (tkv tb) (Sum.inr y) with
      | none =>
        have gt : DGet H1 t (.str y) none := by
          have z := DGet.k (k := Sum.inr y) t1
          rw [q] at z
          exact z
        refine .inl ⟨t, none, rfl, gt, false, rfl, ?_⟩
        rw [track_out q] at tr
        refine iteF ?_
        refine iteF ?_
        exact ⟨.ref p, rfl, k p _ x1 hp (by rw [p1, tr])⟩
      | some u =>
        have gt : ∀ {Hx : Hp}, Hx t = some (.dK (tkv tb)) → DGet Hx t (.str y) (some u) := fun {Hx} tx => by
          have z := DGet.k (k := Sum.inr y) tx
          rw [q] at z
          exact z
        have yd : y ∈ dots := by
          by_cases hm : y ∈ tb.map (·.1)
          · rw [← L.ks]; exact hm
          · rw [tkv_none hm] at q; cases q
        have su : Spot u := by
          obtain ⟨w', h1, h2⟩ := L.get yd
          rw [q] at h1
          rw [Option.some.inj h1]
          exact h2
        refine .inl ⟨t, some u, rfl, gt t1, true, rfl, ?_⟩
        refine iteT ?_
        refine ⟨.ref p, rfl, 1, rfl, p, _, -1, _, rfl, rfl, Evl.sq_of p1, atI_last _ _, .ref p, rfl, 1, rfl, _, rfl, p, _, rfl, Evl.sq_of p1, fun c hc => ?_⟩
        have ecut : cutV (zs.map V.str ++ [V.str y]) none (some (-1)) = zs.map V.str := by
          rw [cut_last]
          exact List.dropLast_concat
        rw [ecut]
        have x2 : Evl.Ex H1 (upd H1 c (.lst (zs.map V.str))) := Evl.Ex.new hc
        have nc : p ≠ c := ne_of_none p1 hc
        refine ⟨c, zs.map V.str, rfl, .inl (Evl.sq_of upd_same), rfl, flat_strs zs, ?_⟩
        generalize upd H1 c (.lst (zs.map V.str)) = H2 at x2
        have p2 := x2 _ _ p1
        have t2 := x2 _ _ t1
        rw [inV_str]
        by_cases mem : y ∈ zs
        · rw [decide_eq_true mem]
          rw [track_ring mem] at tr
          refine ⟨false, rfl, ?_⟩
          refine iteF ?_
          exact ⟨.ref p, rfl, k p _ (x1.trans x2) hp (by rw [p2, tr])⟩
        · rw [decide_eq_false mem]
          obtain ⟨m0, rfl⟩ : ∃ m0, m = m0 + 1 := ⟨m - 1, by omega⟩
          rw [track_on q mem] at tr
          refine ⟨true, rfl, ?_⟩
          refine iteT ?_
          refine ⟨_, fun _ _ h => h, ?_⟩
          refine ⟨.ref p, rfl, .inl ⟨rfl, _, Evl.sq_of p2⟩, .ref t, rfl, .ref p, rfl, 1, rfl, p, _, -1, _, rfl, rfl, Evl.sq_of p2, atI_last _ _, t, u, rfl, gt t2, p, _, u, rfl, rfl, p2, ?_, ?_⟩
          · rw [List.length_append, List.length_map, List.length_singleton]
            exact small1000 (by omega)
          · refine ⟨m0, Nat.lt_succ_self _, zs ++ [y], u, rfl, ?_, (x1.trans x2).mut hp, ?_, ?_, su, tr, ?_⟩
            · rw [upd_same, List.map_append]
              rfl
            · rw [List.nodup_append]
              exact ⟨znd, by simp, fun a ha b hb e => mem (by rw [List.mem_singleton.mp hb] at e; exact e ▸ ha)⟩
            · intro a ha
              rcases List.mem_append.mp ha with ha | ha
              · exact zd a ha
              · rw [List.mem_singleton.mp ha]; exact yd
            · rw [List.length_append, List.length_singleton]
              omega
end
end Rw
end T_W0

section T_P1
set_option Elab.async false
set_option linter.all false
set_option maxRecDepth 100000
set_option maxHeartbeats 4000000
namespace Rw
open PySem L2 PyProof.Rows
section
variable {P : Program} {w : World} {K : PySem.W.Frag} {mg : Str → Option Value} {base : Heap}
/-! ### is_list -/
def spIsList : Sp := fun vs H Q _ => ∃ (a : Addr) (zs : List Str), vs = [.ref a] ∧ SqS H a zs ∧ ∀ H', Evl.Ex H H' → Q (.bl true) H'
theorem sc_is_list : FnScope ["value"] ["value"] (defScope p_is_list) := ⟨rfl, rfl, rfl, by decide +kernel, rfl, by decide +kernel, by decide +kernel⟩
theorem ok_is_list {f : Addr} {fd : FuncData} (F : Fun K "is_list" "is_list" p_is_list f fd) (mIsi : mg "isinstance" = none) (mList : mg "list" = none) (mTup : mg "tuple" = none) : FnOk P w K mg base CX0 1 f fd ["value"] spIsList := by
  refine F.ok sc_is_list (fun vs H Q E h => ?_) (fun cdv A outer s H vs Q E hr h => ?_)
  · obtain ⟨a, zs, rfl, _⟩ := h
    rfl
  · obtain ⟨a, zs, rfl, hS, k⟩ := h
    refine ⟨_, pss_one (ps_ret (pe_callB call_isiT (by rfl) mIsi (by decide +kernel) (pa_cons (pv 0) (pa_cons (pe_tup (pa_cons (pe_bltn (v := .ty "list") (by rfl) mList (by decide +kernel) rfl) (pa_cons (pe_bltn (v := .ty "tuple") (by rfl) mTup (by decide +kernel) rfl) pa_nil))) pa_nil)))), ?_⟩
    refine ⟨.ref a, rfl, by show 2 ≤ sizeLine; decide, fun t ht => ?_⟩
    have e := Evl.Ex.new (o := .tup [.ty "list", .ty "tuple"]) ht
    rcases hS with hS | hS
    · exact ⟨.ref a, t, _, .type "list", _, true, rfl, upd_same, .cons (.ty _) (.cons (.ty _) .nil), .base (.lst (e _ _ hS)), kitAny_cons (b := true) (kit_ty (by decide +kernel)) (fun z => by cases z) (fun _ => rfl), k _ e⟩
    · exact ⟨.ref a, t, _, .type "tuple", _, true, rfl, upd_same, .cons (.ty _) (.cons (.ty _) .nil), .base (.tup (e _ _ hS)), kitAny_cons (b := false) (kit_ty (by decide +kernel)) (fun _ => kitAny_cons (b := true) (kit_ty (by decide +kernel)) (fun z => by cases z) (fun _ => rfl)) (fun z => by cases z), k _ e⟩
/-! ### is_name -/
def spIsName : Sp := fun vs H Q _ => ∃ z : Str, vs = [.str z] ∧ Nm z ∧ ∀ H', Evl.Ex H H' → Q (.bl true) H'
abbrev nIsName : List Str := ["value", "sign"]
theorem sc_is_name : FnScope nIsName ["value"] (defScope p_is_name) := ⟨rfl, rfl, rfl, by decide +kernel, rfl, by decide +kernel, by decide +kernel⟩
theorem ok_is_name {f : Addr} {fd : FuncData} {tk : Tok} (F : Fun K "is_name" "is_name" p_is_name f fd) (mIsi : mg "isinstance" = none) (mStr : mg "str" = none) (mLen : mg "len" = none) (mAll : mg "all" = none) (mMost : mg "MOST_LETTERS" = some (.int 6 tk)) :
    FnOk P w K mg base CX0 1 f fd ["value"] spIsName := by
  refine F.ok sc_is_name (fun vs H Q E h => ?_) (fun cdv A outer s H vs Q E hr h => ?_)
  · obtain ⟨z, rfl, _⟩ := h
    rfl
  · obtain ⟨z, rfl, hz, k⟩ := h
    have nd := sc_is_name.nd
    refine ⟨_, pss_cons (ps_if (PW.pt (pw_or (pt_not (pt_val (pe_callB call_isi (by rfl) mIsi (by decide +kernel) (pa_cons (pv 0) (pa_cons (pe_bltn (v := .ty "str") (by rfl) mStr (by decide +kernel) rfl) pa_nil)))))
          (pw_or1 (pt_not (pt_chain op_le op_le pe_int (pe_callB call_len (by rfl) mLen PySem.boot_len (pa_cons (pv 0) pa_nil)) (pe_glob (v := .int 6) (by rfl) mMost ⟨_, rfl⟩))))))
        (pss_one (ps_ret pe_bl)) pss_nil)
      (pss_one (ps_ret (pe_callB (cr_all rfl) (by rfl) mAll (by decide +kernel) (pa_cons (pe_lc (own := [("sign", 1)]) (g := gName 1) (tt := tYes) rfl nd (pi_str (pv 0)) (blkOk_by (own := [("sign", 1)]) (N := nIsName) (sc := defScope p_is_name) (by decide +kernel))
        (fun _ _ _ _ _ => pg_name (i := 1) nd rfl (Or.inl rfl)) (fun _ _ _ _ _ => pts_nil) (fun _ _ _ _ _ => pe_chain op_le_str op_le_str pe_str (pv 1) pe_str)) pa_nil)))), ?_⟩
    obtain ⟨l, rfl, h1, h2, h3⟩ := hz
    have hl : (SX.S l).length = l.length := SX.S_len l
    refine ⟨.str (SX.S l), rfl, .str (SX.S l), .ty "str", _, _, true, rfl, .ty _, .base (.str _), kit_ty (by decide +kernel), true, rfl, ?_⟩
    refine ⟨.str (SX.S l), rfl, .str (SX.S l), l.length, rfl, ⟨Nat.le_of_lt (small1000 (by omega)), hl.symm⟩, 1, (l.length : Int), rfl, rfl, true, ?_, ?_⟩
    · exact congrArg V.bl (decide_eq_true (show (1 : Int) ≤ (l.length : Int) by omega))
    · refine ⟨_, 6, rfl, rfl, true, ?_, ?_⟩
      · exact congrArg V.bl (decide_eq_true (show (l.length : Int) ≤ 6 by omega))
      · refine ⟨.str (SX.S l), rfl, _, rfl, fun D hD => lc_it walk_str (fun i H' => i ≤ l.length ∧ H' = upd H D (.lst ((List.replicate i true).map V.bl))) ⟨Nat.zero_le _, rfl⟩ (fun _ _ _ _ => trivial) ?_ ?_⟩
        · rintro i x H1 H1' hi ⟨_, rfl⟩ ⟨rfl, ch, hch, rfl⟩
          have hil : i < l.length := by simpa using hi
          have hm : ch ∈ l := by
            have z : l[i]? = some ch := by simpa using hch
            exact List.mem_of_getElem? z
          refine ⟨rfl, ?_⟩
          refine yes_if ?_
          have hb := h3 ch hm
          refine ⟨_, rfl, _, _, rfl, rfl, true, congrArg V.bl (sign_le hb.1), ?_⟩
          refine ⟨_, _, rfl, rfl, ?_⟩
          have e2 : (V.bl (!decide (([122] : List Nat) < [ch]))) = .bl true := congrArg V.bl (sign_le hb.2)
          refine ⟨_, upd_same, by rw [List.length_map, List.length_replicate]; exact small1000 (by omega), hil, ?_⟩
          rw [upd_upd, List.replicate_succ', List.map_append]
          show upd H D (.lst (_ ++ [V.bl (!decide (([122] : List Nat) < [ch]))])) = _
          rw [e2]
          rfl
        · rintro H1 ⟨_, rfl⟩
          refine ⟨D, _, rfl, Evl.sq_of upd_same, ?_⟩
          rw [all_trues]
          exact k _ (Evl.Ex.new hD)
end
end Rw
end T_P1

section T_P2
set_option Elab.async false
set_option linter.all false
set_option maxRecDepth 100000
set_option maxHeartbeats 4000000
namespace Rw
open PySem L2 PyProof.Rows
section
variable {P : Program} {w : World} {K : PySem.W.Frag} {mg : Str → Option Value} {base : Heap}
/-! ### is_place -/
def spPlace : Sp := fun vs H Q _ => ∃ (v : V) (z e : Str) (a : Addr) (zs : List Str), vs = [v, .str z, .ref a, .str e] ∧ SqS H a zs ∧ PlaceOk zs e z v ∧ ∀ H', Evl.Ex H H' → Q (.bl true) H'
theorem sc_is_place : FnScope ["value", "node", "nodes", "goal"] ["value", "node", "nodes", "goal"] (defScope p_is_place) := ⟨rfl, rfl, rfl, by decide +kernel, rfl, by decide +kernel, by decide +kernel⟩
theorem ok_is_place {f : Addr} {fd : FuncData} (F : Fun K "is_place" "is_place" p_is_place f fd) : FnOk P w K mg base CX0 1 f fd ["value", "node", "nodes", "goal"] spPlace := by
  refine F.ok sc_is_place (fun vs H Q E h => ?_) (fun cdv A outer s H vs Q E hr h => ?_)
  · obtain ⟨v, z, e, a, zs, rfl, _⟩ := h
    rfl
  · obtain ⟨v, z, e, a, zs, rfl, hS, hv, k⟩ := h
    have k0 := k H (Evl.Ex.refl H)
    refine ⟨_, pss_one (ps_ret (pe_or (pe_cmpR op_isN (pv 0) pe_non (nomark _)) (pe_or (pe_cmpR op_eq (pv 0) (pv 3) (nomark _)) (pe_one (pe_and (pe_cmpR op_in_seq (pv 0) (pv 2) rfl) (pe_one (pe_cmpR op_ne (pv 0) (pv 1) (nomark _)))))))), ?_⟩
    rcases hv with rfl | rfl | ⟨y, hy, hne, rfl⟩
    · exact ⟨.non, rfl, rfl, true, rfl, k0⟩
    · refine ⟨.str e, rfl, rfl, false, rfl, ?_⟩
      refine ⟨.str e, rfl, .str e, rfl, rfl, true, congrArg V.bl (decide_eq_true rfl), k0⟩
    · refine ⟨.str y, rfl, rfl, false, rfl, ?_⟩
      refine ⟨.str y, rfl, .str e, rfl, rfl, _, rfl, ite2 (fun _ => k0) (fun _ => ?_)⟩
      refine ⟨.str y, rfl, .ref a, rfl, a, zs.map V.str, rfl, (hS.sq : SqL K H a _ ∨ SqT K H a _), rfl, flat_strs zs, true, ?_, ?_⟩
      · rw [inV_str]
        exact congrArg V.bl (decide_eq_true hy)
      · refine ⟨.str y, rfl, .str z, rfl, rfl, ?_⟩
        have e1 : (!decide (V.str y = V.str z)) = true := by rw [decide_eq_false (fun q => hne (V.str.inj q))]; rfl
        rw [e1]
        exact k0
/-! ### is_table -/
def spTable : Sp := fun vs H Q _ => ∃ (t a : Addr) (e : Str) (zs : List Str) (tb : List (Str × V)), vs = [.ref t, .ref a, .str e] ∧ H t = some (.dK (tkv tb)) ∧ H a = some (.lst (zs.map V.str)) ∧ TabOk zs e tb ∧ zs.length ≤ 100 ∧ ∀ H', Evl.Ex H H' → Q (.bl true) H'
abbrev nIsTable : List Str := ["table", "nodes", "goal", "node"]
theorem sc_is_table : FnScope nIsTable ["table", "nodes", "goal"] (defScope p_is_table) := ⟨rfl, rfl, rfl, by decide +kernel, rfl, by decide +kernel, by decide +kernel⟩
theorem ok_is_table {f fI : Addr} {fd fdI : FuncData} (F : Fun K "is_table" "is_table" p_is_table f fd) (I_ : FnOk P w K mg base CX0 1 fI fdI ["value", "node", "nodes", "goal"] spPlace) (kI : PySem.W.keepIn K (.ref fI) = true) (bI : Binds K fdI ["value", "node", "nodes", "goal"] []) (gI : mg "is_place" = some (.ref fI))
    (mLen : mg "len" = none) (mAll : mg "all" = none) : FnOk P w K mg base CX0 2 f fd ["table", "nodes", "goal"] spTable := by
  refine F.ok sc_is_table (fun vs H Q E h => ?_) (fun cdv A outer s H vs Q E hr h => ?_)
  · obtain ⟨t, a, e, zs, tb, rfl, _⟩ := h
    rfl
  · obtain ⟨t, a, e, zs, tb, rfl, ht, ha, hT, hzl, k⟩ := h
    have nd := sc_is_table.nd
    have hu := hu_of hr
    refine ⟨_, pss_cons (ps_if (pt_cmpR op_ne (pe_callB call_lenD (by rfl) mLen PySem.boot_len (pa_cons (pv 0) pa_nil)) (pe_callB call_len (by rfl) mLen PySem.boot_len (pa_cons (pv 1) pa_nil)) (nomark _)) (pss_one (ps_ret pe_bl)) pss_nil)
      (pss_one (ps_ret (pe_callB (cr_all rfl) (by rfl) mAll (by decide +kernel) (pa_cons (pe_lc (own := [("node", 3)]) (g := gName 3) (tt := tYes) (te := tAndV (tDIn (tVar 3) (tVar 0)) (tCall spPlace [] E0 (tCons (tDGet (tVar 0) (tVar 3)) (tCons (tVar 3) (tCons (tVar 1) (tCons (tVar 2) tNil)))))) rfl nd (pi_list (pv 1)) (blkOk_by (own := [("node", 3)]) (N := nIsTable) (sc := defScope p_is_table) (by decide +kernel))
        (fun _ _ _ _ _ => pg_name (i := 3) nd rfl (Or.inl rfl)) (fun _ _ _ _ _ => pts_nil)
        (fun _ _ _ _ _ => pe_and (pe_cmp (pc_din hu (pv 3) (pv 0)) rfl) (pe_one (pe_call I_ hr rfl gI kI bI .nil pass0 (pa_cons (pe_dget hu (pv 0) (pv 3) (fun _ _ => rfl)) (pa_cons (pv 3) (pa_cons (pv 1) (pa_cons (pv 2) pa_nil)))))))) pa_nil)))), ?_⟩
    refine ⟨.ref t, rfl, t, _, rfl, ht, .ref a, rfl, .ref a, (zs.map V.str).length, rfl, .inl ⟨_, Evl.sq_of ha, rfl⟩, rfl, _, rfl, ?_⟩
    have el : (tkv tb).length = (zs.map V.str).length := by rw [tkv_len, List.length_map, ← hT.ks.length_eq, List.length_map]
    refine iteNS (by rw [el]) ?_
    refine ⟨.ref a, rfl, a, rfl, ⟨_, Evl.sq_of ha⟩, fun D hD => lc_trues (Evl.sq_of ha) hD (by rw [List.length_map]; omega) (fun i x H1 Q1 R hi e1 go => ?_) (fun H1 e1 d1 => ?_)⟩
    · obtain ⟨z, hz, rfl⟩ := str_at hi
      obtain ⟨v, hv1, hv2⟩ := tkv_some (tb := tb) (z := z) (hT.ks.mem_iff.mpr (List.mem_of_getElem? hz))
      refine ⟨rfl, ?_⟩
      refine yes_if ?_
      have gt : DGet H1 t (.str z) (some v) := by
        have q := DGet.k (k := Sum.inr z) (e1 _ _ ht)
        rw [hv1] at q
        exact q
      refine ⟨.str z, rfl, .ref t, rfl, t, some v, rfl, gt, true, rfl, ?_⟩
      refine ⟨.ref t, rfl, .str z, rfl, t, v, rfl, gt, .str z, rfl, .ref a, rfl, .str e, rfl, v, z, e, a, zs, rfl, .inl (e1 _ _ ha), hT.ps (z, v) hv2, fun H2 e2 => go H2 e2⟩
    · refine ⟨D, _, rfl, Evl.sq_of d1, ?_⟩
      rw [all_trues]
      exact k _ e1
end
end Rw
end T_P2

section T_S4
set_option Elab.async false
set_option linter.all false
set_option maxRecDepth 100000
set_option maxHeartbeats 4000000
namespace Rw
open PySem PySem.Spec L2 PyProof.Rows
/-! ### sorted(a tuple of texts) -/
section
variable {prog : Program} {w : World} {A : Around} {E : Value → Shared → Prop} {s : Shared}
theorem gather_tup {p : Addr} {us : List Value} {Q : List Value → Shared → Prop} (tup : IsTup s.heap p us.toArray) (fits : us.length ≤ sizeLine)
    (go : Q us { s with heap := (s.heap.push (seqObj "list" #[] 0)).update s.heap.objs.size (Obj.mapSeq fun x => x ++ us.toArray) }) : wpAny (model prog w) A (collect (.ref p)) Q E s := by
  obtain ⟨ob, at_p, is_t, k, dat⟩ := id tup
  unfold collect; refine wpAny_bind (wpAny_runValue (codeAny_builtin entry_proto_collect' ?_))
  show wpAny (model prog w) _ (do again (.builtin "list.__iadd__" ⟨[← newList [], .ref p], []⟩)) _ E s
  refine wpAny_bind (wpAny_newList (wpAny_pure (And.intro (Code.quiet_builtin _ (by decide +kernel)) (codeAny_builtin entry_list_iadd' ?_))))
  show wpAny (model prog w) _ (Builtin.List.listExtendWith (.ref s.heap.objs.size) (.ref p) (.ref s.heap.objs.size)) _ E { s with heap := s.heap.push (seqObj "list" #[] 0) }
  unfold Builtin.List.listExtendWith
  have at_p2 : (s.heap.push (seqObj "list" #[] 0)).get? p = some ob := Heap.get?_push_of_some _ at_p
  have at_new : (s.heap.push (seqObj "list" #[] 0)).get? s.heap.objs.size = some (seqObj "list" #[] 0) := Heap.get?_push_size _ rfl
  refine wpAny_bind (wpAny_typeOf (T := "tuple") ⟨ob, at_p2, is_t⟩ ?_)
  rw [if_pos (by rw [show (Value.type "tuple" == Value.type "tuple") = true by rfl]; simp)]
  refine wpAny_bind (listItems_at at_p2 dat (wpAny_bind (listItems_at (xs := #[]) (n := 0) at_new rfl ?_)))
  rw [if_neg (by simp)]
  refine wpAny_bind (listUpdate_at (xs := #[]) (n := 0) at_new rfl ?_ (Nat.zero_le _) (by show (#[] ++ us.toArray).size ≤ _; simp only [Array.size_append, List.size_toArray, List.length_nil]; omega))
  refine wpAny_pure (wpAny_bind (wpAny_load (get?_update_seq at_new _) ?_))
  show wpAny (model prog w) A (pure ((#[] : Array Value) ++ us.toArray).toList) Q E _
  rw [show ((#[] : Array Value) ++ us.toArray).toList = us by simp]
  exact wpAny_pure go
end
section
variable {X : Cx}
def rSortedU (K : PySem.W.Frag) : List V → Hp → VK → Prop := fun vs H Q => ∃ (a : Addr) (ks : List Str), vs = [.ref a] ∧ SqT K H a (ks.map V.str) ∧ ks.length < 64 ∧
  ∀ (ys : List Str) (p : Addr), ys.Perm ks → sortedS ys = true → H p = none → Q (.ref p) (upd H p (.lst (ys.map V.str)))
theorem cr_sortedU : CallR X (.builtin "sorted") (rSortedU X.K) := by
  intro pins s σ H vs us Q I r reading
  obtain ⟨a, ks, rfl, ha, h64, q⟩ := reading
  rw [Vals.ref1 r]
  obtain ⟨out, rel, tup, hz⟩ := I.tuple ha
  have texts : StrsAre out ks := Vals.strs rel
  have len : out.length = ks.length := texts.len_eq
  refine Calls.call_function_entry kind_sorted plain_sorted entry_sorted (args_sorted1 _) ?_
  unfold Builtin.«sorted»; refine wpAny_bind (m := checkCount "sorted" 1 1 _) (wpAny_pure ?_)
  refine wpAny_bind (gather_tup tup (by rw [len, sizeLine_eq]; omega) ?_)
  have grown : ((s.heap.push (seqObj "list" #[] 0)).update s.heap.objs.size (Obj.mapSeq fun x => x ++ out.toArray)).objs.size = s.heap.objs.size + 1 := by rw [Heap.size_update, size_push']
  have keep : ∀ b u, s.heap.get? b = some u → ((s.heap.push (seqObj "list" #[] 0)).update s.heap.objs.size (Obj.mapSeq fun x => x ++ out.toArray)).get? b = some u := fun b u e => by
    rw [Heap.get?_update_ne _ _ _ _ (Nat.ne_of_lt (Heap.lt_size e))]
    exact Heap.get?_push_of_some _ e
  generalize (s.heap.push (seqObj "list" #[] 0)).update s.heap.objs.size (Obj.mapSeq fun x => x ++ out.toArray) = h1 at grown keep
  refine wpAny_bind (wpAny_newList ?_ (by rw [len, sizeLine_eq]; omega))
  have at_l : (h1.push (seqObj "list" out.toArray 0)).get? h1.objs.size = some (seqObj "list" out.toArray 0) := Heap.get?_push_size _ rfl
  refine wpAny_bind (wpAny_holding (wpAny_call_entry slot_list_sort ⟨_, at_l, rfl⟩ entry_list_sort
    (list_sort_treeK strKind_oneLt (s := { s with heap := h1.push (seqObj "list" out.toArray 0) }) at_l texts.keysOf (fun v₁ v₂ rest e => keyKind_strs (by rw [← e]; exact texts)) (by rw [len]; exact h64) fun st' hp hs => ⟨_, rfl, ?_⟩)
    (args_list_sort _)))
  obtain ⟨ys, g1, g2, g3⟩ := sorted_out_str texts hp hs
  obtain ⟨c, at_out⟩ := sortedHeap_at (vs := out) (out := (arrOf st').map (·.2)) at_l
  have lenys : (ys.map V.str).length ≤ sizeLine := by rw [List.length_map, g2.length_eq, sizeLine_eq]; omega
  have keep2 : ∀ b u, s.heap.get? b = some u → (sortedHeap (h1.push (seqObj "list" out.toArray 0)) h1.objs.size out ((arrOf st').map (·.2))).get? b = some u := fun b u e => by
    have e1 := keep b u e
    have lt := Heap.lt_size e1
    rw [sortedHeap_old (Nat.ne_of_lt lt) (by rw [size_push']; exact Nat.lt_succ_of_lt lt)]
    exact Heap.get?_push_of_some _ e1
  have grow : s.heap.objs.size ≤ h1.objs.size := by omega
  have fresh : H h1.objs.size = none := I.hok.fresh grow
  exact wpAny_pure ⟨_, rfl, .ref h1.objs.size, upd H h1.objs.size (.lst (ys.map V.str)), I.laid (t' := s.toks) keep2 grow ⟨lenys, ((arrOf st').map (·.2)).toList, c, vals_of_strs g1, by rw [Array.toArray_toList]; exact at_out⟩, rfl, q ys _ g2 g3 fresh⟩
/-- of a list or a tuple -/
def rSortedLU (K : PySem.W.Frag) : List V → Hp → VK → Prop := fun vs H Q => ∃ (a : Addr) (ks : List Str), vs = [.ref a] ∧ (SqL K H a (ks.map V.str) ∨ SqT K H a (ks.map V.str)) ∧ ks.length < 64 ∧
  ∀ (ys : List Str) (p : Addr), ys.Perm ks → sortedS ys = true → H p = none → Q (.ref p) (upd H p (.lst (ys.map V.str)))
theorem cr_sortedLU : CallR X (.builtin "sorted") (rSortedLU X.K) := by
  intro pins s σ H vs us Q I r reading
  obtain ⟨a, ks, rfl, ha, h64, q⟩ := reading
  rcases ha with ha | ha
  · exact cr_sortedS pins s σ H _ us Q I r ⟨a, ks, rfl, ha, h64, q⟩
  · exact cr_sortedU pins s σ H _ us Q I r ⟨a, ks, rfl, ha, h64, q⟩
end
end Rw
end T_S4

section T_P3
set_option Elab.async false
set_option linter.all false
set_option maxRecDepth 100000
set_option maxHeartbeats 4000000
namespace Rw
open PySem L2 PyProof.Rows
section
variable {P : Program} {w : World} {K : PySem.W.Frag} {mg : Str → Option Value} {base : Heap}
/-! ### are_different, of a list -/
def spDiff : Sp := fun vs H Q _ => ∃ (a n : Addr) (ss zs : List Str), vs = [.ref a, .ref n] ∧ SqS H a ss ∧ SqS H n zs ∧ ss.Nodup ∧ (∀ z ∈ ss, z ∈ zs) ∧ ss.length ≤ 100 ∧ ∀ H', Evl.Ex H H' → Q (.bl true) H'
abbrev nDiff : List Str := ["value", "nodes", "item"]
theorem sc_diff : FnScope nDiff ["value", "nodes"] (defScope p_are_different) := ⟨rfl, rfl, rfl, by decide +kernel, rfl, by decide +kernel, by decide +kernel⟩
theorem ok_diff {f fI : Addr} {fd fdI : FuncData} (F : Fun K "are_different" "are_different" p_are_different f fd) (I_ : FnOk P w K mg base CX0 1 fI fdI ["value"] spIsList) (kI : PySem.W.keepIn K (.ref fI) = true) (bI : Binds K fdI ["value"] []) (gI : mg "is_list" = some (.ref fI))
    (mLen : mg "len" = none) (mAll : mg "all" = none) (mSet : mg "set" = none) : FnOk P w K mg base CX0 2 f fd ["value", "nodes"] spDiff := by
  refine F.ok sc_diff (fun vs H Q E h => ?_) (fun cdv A outer s H vs Q E hr h => ?_)
  · obtain ⟨a, n, ss, zs, rfl, _⟩ := h
    rfl
  · obtain ⟨a, n, ss, zs, rfl, ha, hn, hnd, hsub, hl, k⟩ := h
    have nd := sc_diff.nd
    rcases ha with ha | ha
    · refine ⟨_, pss_one (ps_ret (pe_and (pe_call I_ hr rfl gI kI bI .nil pass0 (pa_cons (pv 0) pa_nil))
        (pe_and (pe_callB (cr_all rfl) (by rfl) mAll (by decide +kernel) (pa_cons (pe_lc (own := [("item", 2)]) (g := gName 2) (tt := tYes) (te := tOp (rIn K false) (tVar 2) (tVar 1)) rfl nd (pi_list (pv 0)) (blkOk_by (own := [("item", 2)]) (N := nDiff) (sc := defScope p_are_different) (by decide +kernel))
            (fun _ _ _ _ _ => pg_name (i := 2) nd rfl (Or.inl rfl)) (fun _ _ _ _ _ => pts_nil) (fun _ _ _ _ _ => pe_cmpR op_in_seq (pv 2) (pv 1) rfl)) pa_nil))
          (pe_one (pe_cmpR op_eq (pe_callB cr_lenX (by rfl) mLen PySem.boot_len (pa_cons (pe_callTy (cr_setX rfl) (by rfl) mSet (by decide +kernel) (pa_cons (pv 0) pa_nil)) pa_nil)) (pe_callB call_len (by rfl) mLen PySem.boot_len (pa_cons (pv 0) pa_nil)) (nomark _)))))), ?_⟩
      refine ⟨.ref a, rfl, a, ss, rfl, .inl ha, fun H1 e1 => ⟨true, rfl, ?_⟩⟩
      refine iteT ?_
      refine ⟨.ref a, rfl, a, rfl, ⟨_, Evl.sq_of (e1 _ _ ha)⟩, fun D hD => lc_trues (Evl.sq_of (e1 _ _ ha)) hD (by rw [List.length_map]; omega) (fun i x H2 Q1 R hi e2 go => ?_) (fun H2 e2 d2 => ?_)⟩
      · obtain ⟨z, hz, rfl⟩ := str_at hi
        refine ⟨rfl, ?_⟩
        refine yes_if ?_
        refine ⟨.str z, rfl, .ref n, rfl, n, zs.map V.str, rfl, (hn.ex (e1.trans e2)).sq, rfl, flat_strs zs, ?_⟩
        rw [inV_str, decide_eq_true (hsub z (List.mem_of_getElem? hz))]
        exact go _ (Evl.Ex.refl _)
      · refine ⟨D, _, rfl, Evl.sq_of d2, ?_⟩
        rw [all_trues]
        refine ⟨true, rfl, ?_⟩
        refine iteT ?_
        have e12 := e1.trans e2
        refine ⟨.ref a, rfl, a, ss, rfl, .inl (Evl.sq_of (e12 _ _ ha)), by omega, fun p hp => ?_⟩
        have e3 := Evl.Ex.new (o := SetXO w p (seen ss)) hp
        refine ⟨p, seen ss, rfl, upd_same, .ref a, rfl, .ref a, (ss.map V.str).length, rfl, .inl ⟨_, Evl.sq_of (e3 _ _ (e12 _ _ ha)), rfl⟩, rfl, ?_⟩
        rw [seen_len hnd, List.length_map, decide_eq_true rfl]
        exact k _ (e12.trans e3)
    · refine ⟨_, pss_one (ps_ret (pe_and (pe_call I_ hr rfl gI kI bI .nil pass0 (pa_cons (pv 0) pa_nil))
        (pe_and (pe_callB (cr_all rfl) (by rfl) mAll (by decide +kernel) (pa_cons (pe_lc (own := [("item", 2)]) (g := gName 2) (tt := tYes) (te := tOp (rIn K false) (tVar 2) (tVar 1)) rfl nd (pi_tup (pv 0)) (blkOk_by (own := [("item", 2)]) (N := nDiff) (sc := defScope p_are_different) (by decide +kernel))
            (fun _ _ _ _ _ => pg_name (i := 2) nd rfl (Or.inl rfl)) (fun _ _ _ _ _ => pts_nil) (fun _ _ _ _ _ => pe_cmpR op_in_seq (pv 2) (pv 1) rfl)) pa_nil))
          (pe_one (pe_cmpR op_eq (pe_callB cr_lenX (by rfl) mLen PySem.boot_len (pa_cons (pe_callTy (cr_setX rfl) (by rfl) mSet (by decide +kernel) (pa_cons (pv 0) pa_nil)) pa_nil)) (pe_callB call_len (by rfl) mLen PySem.boot_len (pa_cons (pv 0) pa_nil)) (nomark _)))))), ?_⟩
      refine ⟨.ref a, rfl, a, ss, rfl, .inr ha, fun H1 e1 => ⟨true, rfl, ?_⟩⟩
      refine iteT ?_
      refine ⟨.ref a, rfl, a, rfl, ⟨_, Evl.st_of (e1 _ _ ha)⟩, fun D hD => lc_truesT (Evl.st_of (e1 _ _ ha)) hD (by rw [List.length_map]; omega) (fun i x H2 Q1 R hi e2 go => ?_) (fun H2 e2 d2 => ?_)⟩
      · obtain ⟨z, hz, rfl⟩ := str_at hi
        refine ⟨rfl, ?_⟩
        refine yes_if ?_
        refine ⟨.str z, rfl, .ref n, rfl, n, zs.map V.str, rfl, (hn.ex (e1.trans e2)).sq, rfl, flat_strs zs, ?_⟩
        rw [inV_str, decide_eq_true (hsub z (List.mem_of_getElem? hz))]
        exact go _ (Evl.Ex.refl _)
      · refine ⟨D, _, rfl, Evl.sq_of d2, ?_⟩
        rw [all_trues]
        refine ⟨true, rfl, ?_⟩
        refine iteT ?_
        have e12 := e1.trans e2
        refine ⟨.ref a, rfl, a, ss, rfl, .inr (Evl.st_of (e12 _ _ ha)), by omega, fun p hp => ?_⟩
        have e3 := Evl.Ex.new (o := SetXO w p (seen ss)) hp
        refine ⟨p, seen ss, rfl, upd_same, .ref a, rfl, .ref a, (ss.map V.str).length, rfl, .inr ⟨_, Evl.st_of (e3 _ _ (e12 _ _ ha)), rfl⟩, rfl, ?_⟩
        rw [seen_len hnd, List.length_map, decide_eq_true rfl]
        exact k _ (e12.trans e3)
/-! ### are_nodes -/
def spNodes : Sp := fun vs H Q _ => ∃ (a b : Addr) (zs es : List Str), vs = [.ref a, .ref b] ∧ H a = some (.lst (zs.map V.str)) ∧ H b = some (.lst (es.map V.str)) ∧ 1 ≤ zs.length ∧ zs.length ≤ 6 ∧ (∀ z ∈ zs, Nm z ∧ z ∉ es) ∧ ∀ H', Evl.Ex H H' → Q (.bl true) H'
abbrev nNodes : List Str := ["names", "goals", "name"]
theorem sc_nodes : FnScope nNodes ["names", "goals"] (defScope p_are_nodes) := ⟨rfl, rfl, rfl, by decide +kernel, rfl, by decide +kernel, by decide +kernel⟩
theorem ok_nodes {f fI : Addr} {fd fdI : FuncData} {tk : Tok} (F : Fun K "are_nodes" "are_nodes" p_are_nodes f fd) (I_ : FnOk P w K mg base CX0 1 fI fdI ["value"] spIsName) (kI : PySem.W.keepIn K (.ref fI) = true) (bI : Binds K fdI ["value"] []) (gI : mg "is_name" = some (.ref fI))
    (mLen : mg "len" = none) (mAll : mg "all" = none) (mMost : mg "MOST_NODES" = some (.int 6 tk)) : FnOk P w K mg base CX0 2 f fd ["names", "goals"] spNodes := by
  refine F.ok sc_nodes (fun vs H Q E h => ?_) (fun cdv A outer s H vs Q E hr h => ?_)
  · obtain ⟨a, b, zs, es, rfl, _⟩ := h
    rfl
  · obtain ⟨a, b, zs, es, rfl, ha, hb, h1, h6, hz, k⟩ := h
    have nd := sc_nodes.nd
    refine ⟨_, pss_one (ps_ret (pe_and (pe_chain op_le op_le pe_int (pe_callB call_len (by rfl) mLen PySem.boot_len (pa_cons (pv 0) pa_nil)) (pe_glob (v := .int 6) (by rfl) mMost ⟨_, rfl⟩))
      (pe_one (pe_callB (cr_all rfl) (by rfl) mAll (by decide +kernel) (pa_cons (pe_lc (own := [("name", 2)]) (g := gName 2) (tt := tYes) (te := tAndV (tCall spIsName [] E0 (tCons (tVar 2) tNil)) (tOp (rIn K true) (tVar 2) (tVar 1))) rfl nd (pi_list (pv 0)) (blkOk_by (own := [("name", 2)]) (N := nNodes) (sc := defScope p_are_nodes) (by decide +kernel))
          (fun _ _ _ _ _ => pg_name (i := 2) nd rfl (Or.inl rfl)) (fun _ _ _ _ _ => pts_nil) (fun _ _ _ _ _ => pe_and (pe_call I_ hr rfl gI kI bI .nil pass0 (pa_cons (pv 2) pa_nil)) (pe_one (pe_cmpR op_notIn_seq (pv 2) (pv 1) rfl)))) pa_nil))))), ?_⟩
    refine ⟨.ref a, rfl, .ref a, (zs.map V.str).length, rfl, .inl ⟨_, Evl.sq_of ha, rfl⟩, 1, ((zs.map V.str).length : Int), rfl, rfl, true, congrArg V.bl (decide_eq_true (show (1 : Int) ≤ ((zs.map V.str).length : Int) by rw [List.length_map]; omega)), ?_⟩
    refine iteT ?_
    refine ⟨_, 6, rfl, rfl, true, congrArg V.bl (decide_eq_true (show ((zs.map V.str).length : Int) ≤ 6 by rw [List.length_map]; omega)), ?_⟩
    refine iteT ?_
    refine ⟨.ref a, rfl, a, rfl, ⟨_, Evl.sq_of ha⟩, fun D hD => lc_trues (Evl.sq_of ha) hD (by rw [List.length_map]; omega) (fun i x H2 Q1 R hi e2 go => ?_) (fun H2 e2 d2 => ?_)⟩
    · obtain ⟨z, hz', rfl⟩ := str_at hi
      have hh := hz z (List.mem_of_getElem? hz')
      refine ⟨rfl, ?_⟩
      refine yes_if ?_
      refine ⟨.str z, rfl, z, rfl, hh.1, fun H3 e3 => ⟨true, rfl, ?_⟩⟩
      refine iteT ?_
      refine ⟨.str z, rfl, .ref b, rfl, b, es.map V.str, rfl, .inl (Evl.sq_of ((e2.trans e3) _ _ hb)), rfl, flat_strs es, ?_⟩
      rw [inV_str, decide_eq_false hh.2]
      exact go _ e3
    · refine ⟨D, _, rfl, Evl.sq_of d2, ?_⟩
      rw [all_trues]
      exact k _ e2
/-! ### is_pair_of_dicts -/
def spPairD : Sp := fun vs H Q _ => ∃ (p po pn : Addr) (k1 k2 : List (Key × V)), vs = [.ref p] ∧ H p = some (.tup [.ref po, .ref pn]) ∧ H po = some (.dK k1) ∧ H pn = some (.dK k2) ∧ ∀ H', Evl.Ex H H' → Q (.bl true) H'
abbrev nPairD : List Str := ["value", "part"]
theorem sc_pairD : FnScope nPairD ["value"] (defScope p_is_pair_of_dicts) := ⟨rfl, rfl, rfl, by decide +kernel, rfl, by decide +kernel, by decide +kernel⟩
theorem ok_pairD {f : Addr} {fd : FuncData} (F : Fun K "is_pair_of_dicts" "is_pair_of_dicts" p_is_pair_of_dicts f fd) (mIsi : mg "isinstance" = none) (mTup : mg "tuple" = none) (mDict : mg "dict" = none) (mLen : mg "len" = none) (mAll : mg "all" = none) : FnOk P w K mg base CX0 1 f fd ["value"] spPairD := by
  refine F.ok sc_pairD (fun vs H Q E h => ?_) (fun cdv A outer s H vs Q E hr h => ?_)
  · obtain ⟨p, po, pn, k1, k2, rfl, _⟩ := h
    rfl
  · obtain ⟨p, po, pn, k1, k2, rfl, hp, ho, hn, k⟩ := h
    have nd := sc_pairD.nd
    refine ⟨_, pss_one (ps_ret (pe_and (pe_callB call_isi (by rfl) mIsi (by decide +kernel) (pa_cons (pv 0) (pa_cons (pe_bltn (v := .ty "tuple") (by rfl) mTup (by decide +kernel) rfl) pa_nil)))
      (pe_and (pe_cmpR op_eq (pe_callB call_len (by rfl) mLen PySem.boot_len (pa_cons (pv 0) pa_nil)) pe_int (nomark _))
        (pe_one (pe_callB (cr_all rfl) (by rfl) mAll (by decide +kernel) (pa_cons (pe_lc (own := [("part", 1)]) (g := gName 1) (tt := tYes) (te := tCB (rIsi K) (tCons (tVar 1) (tCons (tC (.ty "dict")) tNil))) rfl nd (pi_tup (pv 0)) (blkOk_by (own := [("part", 1)]) (N := nPairD) (sc := defScope p_is_pair_of_dicts) (by decide +kernel))
          (fun _ _ _ _ _ => pg_name (i := 1) nd rfl (Or.inl rfl)) (fun _ _ _ _ _ => pts_nil) (fun _ _ _ _ _ => pe_callB call_isi (by rfl) mIsi (by decide +kernel) (pa_cons (pv 1) (pa_cons (pe_bltn (v := .ty "dict") (by rfl) mDict (by decide +kernel) rfl) pa_nil)))) pa_nil)))))), ?_⟩
    refine ⟨.ref p, rfl, .ref p, .ty "tuple", _, _, true, rfl, .ty _, .base (.tup hp), kit_ty (by decide +kernel), true, rfl, ?_⟩
    refine iteT ?_
    refine ⟨.ref p, rfl, .ref p, 2, rfl, .inr ⟨_, Evl.st_of hp, rfl⟩, rfl, true, rfl, ?_⟩
    refine iteT ?_
    refine ⟨.ref p, rfl, p, rfl, ⟨_, Evl.st_of hp⟩, fun D hD => lc_truesT (Evl.st_of hp) hD (by show 2 < 1000; decide) (fun i x H2 Q1 R hi e2 go => ?_) (fun H2 e2 d2 => ?_)⟩
    · refine ⟨rfl, ?_⟩
      refine yes_if ?_
      match i, hi with
      | 0, hi =>
        cases hi
        exact ⟨.ref po, rfl, .ref po, .ty "dict", _, _, true, rfl, .ty _, .base (.dK (e2 _ _ ho)), kit_ty (by decide +kernel), go _ (Evl.Ex.refl _)⟩
      | 1, hi =>
        cases hi
        exact ⟨.ref pn, rfl, .ref pn, .ty "dict", _, _, true, rfl, .ty _, .base (.dK (e2 _ _ hn)), kit_ty (by decide +kernel), go _ (Evl.Ex.refl _)⟩
      | n + 2, hi => simp at hi
    · refine ⟨D, _, rfl, Evl.sq_of d2, ?_⟩
      rw [all_trues]
      exact k _ e2
end
end Rw
end T_P3

section T_P4
set_option Elab.async false
set_option linter.all false
set_option maxRecDepth 100000
set_option maxHeartbeats 4000000
namespace Rw
open PySem L2 PyProof.Rows
section
variable {P : Program} {w : World} {K : PySem.W.Frag} {mg : Str → Option Value} {base : Heap}
/-! ### are_tables -/
def spTables : Sp := fun vs H Q _ => ∃ (t : Addr) (ends dots : List Str) (rows : List (Str × V)), vs = [.ref t] ∧ H t = some (.dK (tkv rows)) ∧ rows.map (·.1) = ends ∧ RowsOk H dots rows ∧ 0 < ends.length ∧ ends.length ≤ 2 ∧ (∀ z ∈ ends, Nm z) ∧
  0 < dots.length ∧ dots.length ≤ 6 ∧ (∀ z ∈ dots, Nm z ∧ z ∉ ends) ∧ ∀ H', Evl.Ex H H' → Q (.bl true) H'
abbrev nTables : List Str := ["value", "goals", "nodes", "goal", "table"]
theorem sc_tables : FnScope nTables ["value"] (defScope p_are_tables) := ⟨rfl, rfl, rfl, by decide +kernel, rfl, by decide +kernel, by decide +kernel⟩
theorem ok_tables {f f1 f2 f3 f4 : Addr} {fd fd1 fd2 fd3 fd4 : FuncData} {tk : Tok} (F : Fun K "are_tables" "are_tables" p_are_tables f fd)
    (F1 : FnOk P w K mg base CX0 1 f1 fd1 ["value"] spIsName) (k1 : PySem.W.keepIn K (.ref f1) = true) (b1 : Binds K fd1 ["value"] []) (g1 : mg "is_name" = some (.ref f1))
    (F2 : FnOk P w K mg base CX0 1 f2 fd2 ["value"] spPairD) (k2 : PySem.W.keepIn K (.ref f2) = true) (b2 : Binds K fd2 ["value"] []) (g2 : mg "is_pair_of_dicts" = some (.ref f2))
    (F3 : FnOk P w K mg base CX0 2 f3 fd3 ["names", "goals"] spNodes) (k3 : PySem.W.keepIn K (.ref f3) = true) (b3 : Binds K fd3 ["names", "goals"] []) (g3 : mg "are_nodes" = some (.ref f3))
    (F4 : FnOk P w K mg base CX0 2 f4 fd4 ["table", "nodes", "goal"] spTable) (k4 : PySem.W.keepIn K (.ref f4) = true) (b4 : Binds K fd4 ["table", "nodes", "goal"] []) (g4 : mg "is_table" = some (.ref f4))
    (mIsi : mg "isinstance" = none) (mDict : mg "dict" = none) (mList : mg "list" = none) (mLen : mg "len" = none) (mAll : mg "all" = none) (mMost : mg "MOST_GOALS" = some (.int 2 tk)) :
    FnOk P w K mg base CX0 3 f fd ["value"] spTables := by
  refine F.ok sc_tables (fun vs H Q E h => ?_) (fun cdv A outer s H vs Q E hr h => ?_)
  · obtain ⟨t, ends, dots, rows, rfl, _⟩ := h
    rfl
  · obtain ⟨t, ends, dots, rows, rfl, ht, hk, hro, e0, e2, he, d0, d6, hd, k⟩ := h
    have nd := sc_tables.nd
    have hu := hu_of hr
    have hr1 : Room 1 _ := hr.mono (by decide)
    refine ⟨_, pss_cons (ps_if (PW.pt (pw_or (pt_not (pt_val (pe_callB call_isi (by rfl) mIsi (by decide +kernel) (pa_cons (pv 0) (pa_cons (pe_bltn (v := .ty "dict") (by rfl) mDict (by decide +kernel) rfl) pa_nil)))))
          (pw_or1 (pt_not (pt_chain op_le op_le pe_int (pe_callB call_lenD (by rfl) mLen PySem.boot_len (pa_cons (pv 0) pa_nil)) (pe_glob (v := .int 2) (by rfl) mMost ⟨_, rfl⟩)))))) (pss_one (ps_ret pe_bl)) pss_nil)
      (pss_cons (ps_if (pt_not (pt_val (pe_callB (cr_all rfl) (by rfl) mAll (by decide +kernel) (pa_cons (pe_lock (pe_lc (own := [("goal", 3)]) (g := gName 3) (tt := tYes) (te := tAndV (tCall spIsName [] E0 (tCons (tVar 3) tNil)) (tCall spPairD [] E0 (tCons (tDGet (tVar 0) (tVar 3)) tNil))) rfl nd (pi_keys (pv 0)) (blkOk_by (own := [("goal", 3)]) (N := nTables) (sc := defScope p_are_tables) (by decide +kernel))
          (fun _ _ _ _ _ => pg_name (i := 3) nd rfl (Or.inl rfl)) (fun _ _ _ _ _ => pts_nil) (fun _ _ _ _ _ => pe_and (pe_call F1 hr1 rfl g1 k1 b1 .nil pass0 (pa_cons (pv 3) pa_nil)) (pe_one (pe_call F2 hr1 rfl g2 k2 b2 .nil pass0 (pa_cons (pe_dget hu (pv 0) (pv 3) (fun _ _ => rfl)) pa_nil)))))) pa_nil)))) (pss_one (ps_ret pe_bl)) pss_nil)
      (pss_cons (ps_set (i := 1) nd rfl (.inl rfl) (pe_callTy (call_listD rfl) (by rfl) mList (by decide +kernel) (pa_cons (pv 0) pa_nil)))
      (pss_cons (ps_set (i := 2) nd rfl (.inr rfl) (pe_callTy (call_listD rfl) (by rfl) mList (by decide +kernel) (pa_cons (pe_ix ix_tup (pe_dget hu (pv 0) (pe_ix ix_list (pv 1) pe_int (fun _ _ => rfl)) (fun _ _ => rfl)) pe_int (fun _ _ => rfl)) pa_nil)))
      (pss_cons (ps_if (pt_not (pt_val (pe_call F3 hr rfl g3 k3 b3 .nil pass0 (pa_cons (pv 2) (pa_cons (pv 1) pa_nil))))) (pss_one (ps_ret pe_bl)) pss_nil)
      (pss_one (ps_ret (pe_callB (cr_all rfl) (by rfl) mAll (by decide +kernel) (pa_cons
        (pe_lc2 (own := [("goal", 3), ("table", 4)]) (vs1 := [4]) (g := gName 3) (tt := tYes) (g1 := gName 4) (tt1 := tYes) (wi1 := iTup K (tDGet (tVar 0) (tVar 3))) (te := tCall spTable [] E0 (tCons (tVar 4) (tCons (tVar 2) (tCons (tVar 3) tNil)))) rfl nd (pi_list (pv 1)) (blkOk_by (own := [("goal", 3), ("table", 4)]) (N := nTables) (sc := defScope p_are_tables) (by decide +kernel)) (by decide)
          (fun _ _ _ _ _ => pg_name (i := 3) nd rfl (Or.inl rfl)) (fun _ _ _ _ _ => pts_nil) (fun _ _ _ _ _ => pi_tup (pe_dget hu (pv 0) (pv 3) (fun _ _ => rfl))) (fun _ _ _ _ _ => pg_name (i := 4) nd rfl (Or.inl rfl)) (fun _ _ _ _ _ => pts_nil)
          (fun _ _ _ _ _ => pe_call F4 hr rfl g4 k4 b4 .nil pass0 (pa_cons (pv 4) (pa_cons (pv 2) (pa_cons (pv 3) pa_nil))))) pa_nil)))))))), ?_⟩
    have rl : rows.length = ends.length := by rw [← hk, List.length_map]
    have rne : rows ≠ [] := fun z => by rw [z] at rl; simp at rl; omega
    have tl : (tkv rows).length = ends.length := by rw [tkv_len, rl]
    -- a row by its goal, where t may be locked
    have row : ∀ z ∈ ends, ∃ (p po pn : Addr) (t1 t2 : List (Str × V)), valV (tkv rows) (Sum.inr z) = some (.ref p) ∧ PairAt H dots z p po pn t1 t2 ∧ p ≠ t ∧ po ≠ t ∧ pn ≠ t := fun z hz => by
      obtain ⟨v, hv1, hv2⟩ := tkv_some (tb := rows) (z := z) (by rw [hk]; exact hz)
      obtain ⟨p, po, pn, t1, t2, e1, pa⟩ := hro _ hv2
      have e1' : v = .ref p := e1
      subst e1'
      exact ⟨p, po, pn, t1, t2, hv1, pa, ne_of pa.hp ht (by intro z; cases z), tab_ne ht hro rne pa.ho pa.o1, tab_ne ht hro rne pa.hn pa.o2⟩
    -- if not isinstance(value, dict) or not ..
    refine ⟨.ref t, rfl, .ref t, .ty "dict", _, _, true, rfl, .ty _, .base (.dK ht), kit_ty (by decide +kernel), true, rfl, ?_⟩
    refine ⟨.ref t, rfl, t, _, rfl, ht, 1, ((tkv rows).length : Int), rfl, rfl, true, congrArg V.bl (decide_eq_true (show (1 : Int) ≤ ((tkv rows).length : Int) by omega)), ?_⟩
    refine ⟨_, 2, rfl, rfl, true, congrArg V.bl (decide_eq_true (show ((tkv rows).length : Int) ≤ 2 by omega)), ?_⟩
    -- if not all([.. for goal in value])
    refine ⟨t, .dK (tkv rows), ht, trivial, fun od => ⟨.ref t, rfl, t, od, rfl, .inl ⟨tkv rows, upd_same, fun D hD => lc_truesW (Yx := fun i x => ∃ k v, (tkv rows)[i]? = some (k, v) ∧ x = kV k) walk_keys (fun H1 e1 => e1 _ _ upd_same) hD (by omega) (fun i x H1 Q1 R hi hx e1 go => ?_) (fun H1 e1 d1 => ?_)⟩⟩⟩
    · obtain ⟨kk, v, hkv, rfl⟩ := hx
      obtain ⟨z, rfl, hz⟩ : ∃ z : Str, kk = Sum.inr z ∧ z ∈ ends := by
        unfold tkv at hkv
        rw [List.getElem?_map] at hkv
        cases q : rows[i]? with
        | none => rw [q] at hkv; cases hkv
        | some q' =>
          rw [q] at hkv
          have := congrArg Prod.fst (Option.some.inj hkv)
          refine ⟨q'.1, this.symm, ?_⟩
          rw [← hk]
          exact List.mem_map_of_mem (List.mem_of_getElem? q)
      obtain ⟨p, po, pn, t1, t2, hv, pa, n1, n2, n3⟩ := row z hz
      refine ⟨rfl, ?_⟩
      refine yes_if ?_
      refine ⟨.str z, rfl, z, rfl, he z hz, fun H2 e2' => ⟨true, rfl, ?_⟩⟩
      refine iteT ?_
      have e12 := e1.trans e2'
      have gt : DGet H2 t (.str z) (some (.ref p)) := .inl ⟨tkv rows, Sum.inr z, .inr ⟨od, e12 _ _ upd_same⟩, rfl, hv.symm⟩
      have up : ∀ {a : Addr} {o : HO}, H a = some o → a ≠ t → H2 a = some o := fun {a o} h ne => e12 _ _ (by rw [upd_ne ne]; exact h)
      exact ⟨.ref t, rfl, .str z, rfl, t, .ref p, rfl, gt, p, po, pn, _, _, rfl, up pa.hp n1, up pa.ho n2, up pa.hn n3, fun H3 e3 => go H3 (e2'.trans e3)⟩
    · have ft : H1 t = some (.frz od (.dK (tkv rows))) := e1 _ _ upd_same
      have nDt : D ≠ t := (ne_of_none (show (upd H t (.frz od (.dK (tkv rows)))) t = some _ from upd_same) hD).symm
      refine ⟨ft, ?_⟩
      have x1 : Evl.Ex H (upd H1 t (.dK (tkv rows))) := fun a o h => by
        by_cases e : a = t
        · subst e
          rw [upd_same, ← ht, h]
        · rw [upd_ne e]
          exact e1 _ _ (by rw [upd_ne e]; exact h)
      have d2 : (upd H1 t (.dK (tkv rows))) D = some (.lst ((List.replicate (tkv rows).length true).map V.bl)) := by rw [upd_ne nDt]; exact d1
      generalize upd H1 t (.dK (tkv rows)) = H2 at x1 d2
      refine ⟨D, _, rfl, Evl.sq_of d2, ?_⟩
      rw [all_trues]
      refine ⟨true, rfl, ?_⟩
      -- goals = list(value)
      refine ⟨.ref t, rfl, t, _, rfl, .inl (x1 _ _ ht), fun gl hgl => ?_⟩
      rw [tkv_keysV, hk]
      have x2 : Evl.Ex H (upd H2 gl (.lst (ends.map V.str))) := x1.trans (Evl.Ex.new hgl)
      have eg : (upd H2 gl (.lst (ends.map V.str))) gl = some (.lst (ends.map V.str)) := upd_same
      generalize upd H2 gl (.lst (ends.map V.str)) = H3 at x2 eg
      -- nodes = list(value[goals[0]][0])
      obtain ⟨z0, r0, ez0⟩ : ∃ z0 r0, ends = z0 :: r0 := by
        cases q : ends with
        | nil => rw [q] at e0; simp at e0
        | cons z0 r0 => exact ⟨z0, r0, rfl⟩
      obtain ⟨p, po, pn, t1, t2, hv, pa, n1, n2, n3⟩ := row z0 (by rw [ez0]; exact List.mem_cons_self)
      have at0 : (ends.map V.str)[0]? = some (.str z0) := by rw [ez0]; rfl
      have dg : ∀ {Hx : Hp} {z : Str} {p : Addr}, Evl.Ex H Hx → valV (tkv rows) (Sum.inr z) = some (.ref p) → DGet Hx t (.str z) (some (.ref p)) := fun {Hx z p} x hv => by
        have q := DGet.k (k := Sum.inr z) (x _ _ ht)
        rw [hv] at q
        exact q
      refine ⟨.ref t, rfl, .ref gl, rfl, gl, _, 0, .str z0, rfl, rfl, Evl.sq_of eg, atI_nat (j := 0) at0, t, .ref p, rfl, dg x2 hv, p, _, 0, .ref po, rfl, rfl, Evl.st_of (x2 _ _ pa.hp), atI_nat (j := 0) rfl, po, _, rfl, .inl (x2 _ _ pa.ho), fun nl hnl => ?_⟩
      rw [tkv_keysV]
      have x3 : Evl.Ex H3 (upd H3 nl (.lst ((t1.map (·.1)).map V.str))) := Evl.Ex.new hnl
      have en : (upd H3 nl (.lst ((t1.map (·.1)).map V.str))) nl = some (.lst ((t1.map (·.1)).map V.str)) := upd_same
      generalize upd H3 nl (.lst ((t1.map (·.1)).map V.str)) = H4 at x3 en
      have pk := pa.o1.ks
      -- if not are_nodes(nodes, goals)
      refine ⟨.ref nl, rfl, .ref gl, rfl, nl, gl, t1.map (·.1), ends, rfl, en, x3 _ _ eg, by rw [pk.length_eq]; omega, by rw [pk.length_eq]; exact d6, fun z hz => hd z (pk.subset hz), fun H5 x4 => ⟨true, rfl, ?_⟩⟩
      have x5 : Evl.Ex H H5 := (x2.trans x3).trans x4
      have en5 := x4 _ _ en
      have eg5 := (x3.trans x4) _ _ eg
      -- the tables
      refine ⟨.ref gl, rfl, gl, rfl, ⟨_, Evl.sq_of eg5⟩, fun D2 hD2 => ⟨fun i m H6 => m = ends.length - i ∧ i ≤ ends.length ∧ Evl.Ex H5 H6 ∧ ∃ n, n ≤ 2 * i ∧ H6 D2 = some (.lst ((List.replicate n true).map V.bl)), ⟨ends.length, rfl, Nat.zero_le _, Evl.Ex.new hD2, 0, Nat.le_refl _, upd_same⟩, ?_⟩⟩
      rintro i m H6 ⟨rfl, hi, x6, n, hn, d6'⟩
      by_cases hlt : i < ends.length
      · have gi : (ends.map V.str)[i]? = some (.str ends[i]) := by rw [List.getElem?_map, List.getElem?_eq_getElem hlt]; rfl
        refine .inr ⟨⟨_, _, Evl.sq_of (x6 _ _ eg5), gi⟩, fun H' => i + 1 ≤ ends.length ∧ Evl.Ex H5 H' ∧ ∃ n, n ≤ 2 * (i + 1) ∧ H' D2 = some (.lst ((List.replicate n true).map V.bl)), fun H' h => ⟨ends.length - (i + 1), by omega, rfl, h⟩, fun x H' hy => ?_⟩
        obtain ⟨rfl, fv⟩ := hy
        have ex : x = .str ends[i] := Option.some.inj ((fv _ (Evl.sq_of (x6 _ _ eg5))).symm.trans gi)
        subst ex
        obtain ⟨p2, po2, pn2, t3, t4, hv2, pa2, m1, m2, m3⟩ := row ends[i] (List.getElem_mem hlt)
        have pa6 := pa2.ex x5
        refine ⟨rfl, ?_⟩
        refine yes_if ?_
        refine ⟨.ref t, rfl, .str ends[i], rfl, t, .ref p2, rfl, dg (x5.trans x6) hv2, p2, rfl, ⟨_, Evl.st_of (x6 _ _ pa6.hp)⟩, fun j k' H7 => k' = 2 - j ∧ j ≤ 2 ∧ Evl.Ex H5 H7 ∧ ∃ n, n ≤ 2 * i + j ∧ H7 D2 = some (.lst ((List.replicate n true).map V.bl)), ⟨2, rfl, Nat.zero_le _, x6, n, hn, d6'⟩, ?_⟩
        rintro j k' H7 ⟨rfl, hj, x7, n', hn', d7⟩
        by_cases hjl : j < 2
        · obtain ⟨tt, tbx, gj, htx, otx⟩ : ∃ (tt : Addr) (tbx : List (Str × V)), ([V.ref po2, V.ref pn2] : List V)[j]? = some (.ref tt) ∧ H7 tt = some (.dK (tkv tbx)) ∧ TabOk dots ends[i] tbx := by
            match j, hjl with
            | 0, _ => exact ⟨po2, t3, rfl, x7 _ _ pa6.ho, pa6.o1⟩
            | 1, _ => exact ⟨pn2, t4, rfl, x7 _ _ pa6.hn, pa6.o2⟩
          refine .inr ⟨⟨_, _, Evl.st_of (x7 _ _ pa6.hp), gj⟩, fun H8 => j + 1 ≤ 2 ∧ Evl.Ex H5 H8 ∧ ∃ n, n ≤ 2 * i + (j + 1) ∧ H8 D2 = some (.lst ((List.replicate n true).map V.bl)), fun H8 h => ⟨2 - (j + 1), by omega, rfl, h⟩, fun x H8 hy => ?_⟩
          obtain ⟨rfl, fv2⟩ := hy
          have ex2 : x = .ref tt := Option.some.inj ((fv2 _ (Evl.st_of (x7 _ _ pa6.hp))).symm.trans gj)
          subst ex2
          refine ⟨rfl, ?_⟩
          refine yes_if ?_
          refine ⟨.ref tt, rfl, .ref nl, rfl, .str ends[i], rfl, tt, nl, ends[i], t1.map (·.1), tbx, rfl, htx, x7 _ _ en5, otx.perm pk.symm, by rw [pk.length_eq]; omega, fun H9 x9 => ?_⟩
          refine ⟨_, x9 _ _ d7, by rw [List.length_map, List.length_replicate]; exact small1000 (by omega), by omega, (x7.trans x9).mut hD2, n' + 1, by omega, ?_⟩
          · rw [upd_same, List.replicate_succ', List.map_append]
            rfl
        · refine .inl ⟨⟨_, Evl.st_of (x7 _ _ pa6.hp), by show 2 ≤ j; omega⟩, by omega, x7, n', by omega, d7⟩
      · refine .inl ⟨⟨_, Evl.sq_of (x6 _ _ eg5), by rw [List.length_map]; omega⟩, D2, _, rfl, Evl.sq_of d6', ?_⟩
        rw [all_trues]
        exact k _ (x5.trans x6)
end
end Rw
end T_P4

section T_N1
set_option Elab.async false
set_option linter.all false
set_option maxRecDepth 100000
set_option maxHeartbeats 4000000
namespace Rw
open PySem L2 PyProof.Rows
section
variable {P : Program} {w : World} {K : PySem.W.Frag} {mg : Str → Option Value} {base : Heap}
abbrev nInit : List Str := ["self", "tables", "sources", "posts", "first_old", "_", "nodes", "goal", "old", "new", "node"]
theorem sc_init : FnScope nInit ["self", "tables", "sources", "posts"] (defScope c_Net_init) := ⟨rfl, rfl, rfl, by decide +kernel, rfl, by decide +kernel, by decide +kernel⟩
theorem ok_init {f f1 f2 C : Addr} {fd fd1 fd2 : FuncData} {tk : Tok} {dvs : List V} (F : FunD K "__init__" "Net.__init__" (defArgs c_Net_init) (defBody c_Net_init) (defScope c_Net_init) dvs [] f fd) (T : NetTxt K C)
    (F1 : FnOk P w K mg base CX0 3 f1 fd1 ["value"] spTables) (k1 : PySem.W.keepIn K (.ref f1) = true) (b1 : Binds K fd1 ["value"] []) (g1 : mg "are_tables" = some (.ref f1))
    (F2 : FnOk P w K mg base CX0 2 f2 fd2 ["value", "nodes"] spDiff) (k2 : PySem.W.keepIn K (.ref f2) = true) (b2 : Binds K fd2 ["value", "nodes"] []) (g2 : mg "are_different" = some (.ref f2))
    (mList : mg "list" = none) (mTup : mg "tuple" = none) (mSorted : mg "sorted" = none) (mLen : mg "len" = none) (mMost : mg "MOST_POSTS" = some (.int 2 tk)) :
    FnOk P w K mg base CX0 4 f fd ["self", "tables", "sources", "posts"] (spInit C) := by
  refine F.ok sc_init (fun vs H Q E h => ?_) (fun cdv A outer s H vs Q E hr h => ?_)
  · obtain ⟨Hb, m, dx, t, s, p, ends, dots, ss, ps, rows, o, n, rfl, _⟩ := h
    rfl
  · obtain ⟨Hb, m, dx, t, s', p, ends, dots, ss, ps, rows, o, n, rfl, hm0, x0, hm, ht, hk, hro, hra, hs, hp, ok, k⟩ := h
    have nd := sc_init.nd
    have hu := hu_of hr
    have hr2 : Room 2 _ := hr.mono (by decide)
    refine ⟨_, PSs.nox (pss_cons (ps_if (pt_not (pt_val (pe_call F1 hr rfl g1 k1 b1 .nil pass0 (pa_cons (pv 1) pa_nil)))) (pss_one ps_never) pss_nil)
      (pss_cons (ps_asg (pe_ix ix_list (pe_listVals rfl (pv 1) (by rfl) mList) pe_int (fun _ _ => rfl)) (pg_tup rfl (pgs_cons (pg_name (i := 4) nd rfl (.inl rfl)) (pgs_cons (pg_name (i := 5) nd rfl (.inl rfl)) pgs_nil))))
      (pss_cons (ps_set (i := 6) nd rfl (.inl rfl) (pe_callTy call_tuple_of (by rfl) mTup (by decide +kernel) (pa_cons (pe_callB (call_sortedD rfl) (by rfl) mSorted (by decide +kernel) (pa_cons (pv 4) pa_nil)) pa_nil)))
      (pss_cons (ps_if (pt_not (pt_val (pe_call F2 hr2 rfl g2 k2 b2 .nil pass0 (pa_cons (pv 2) (pa_cons (pv 6) pa_nil))))) (pss_one ps_never) pss_nil)
      (pss_cons (ps_if (PW.pt (pw_or (pt_not (pt_val (pe_call F2 hr2 rfl g2 k2 b2 .nil pass0 (pa_cons (pv 3) (pa_cons (pv 6) pa_nil))))) (pw_or1 (pt_cmpR op_gt (pe_callB call_len (by rfl) mLen PySem.boot_len (pa_cons (pv 3) pa_nil)) (pe_glob (v := .int 2) (by rfl) mMost ⟨_, rfl⟩) (nomark _))))) (pss_one ps_never) pss_nil)
      (pss_cons (ps_fld (pv 0) pe_dnewK rfl)
      (pss_cons (ps_for PassesOwn.never rfl (pi_list (pe_callB (call_sortedD rfl) (by rfl) mSorted (by decide +kernel) (pa_cons (pv 1) pa_nil))) (pg_name (i := 7) nd rfl (.inl rfl))
        (pss_cons (ps_asg (pe_dget hu (pv 1) (pv 7) (fun _ _ => rfl)) (pg_tup rfl (pgs_cons (pg_name (i := 8) nd rfl (.inr rfl)) (pgs_cons (pg_name (i := 9) nd rfl (.inr rfl)) pgs_nil))))
        (pss_one (ps_dput hu (pe_fld (pv 0) rfl) (pv 7) (pe_tup (pa_cons
            (pe_dc (own := [("node", 10)]) (g := gName 10) (tt := tYes) (tk := tVar 10) (tv := tDGet (tVar 8) (tVar 10)) rfl nd (pi_tup (pv 6)) (blkOk_by (own := [("node", 10)]) (N := nInit) (sc := defScope c_Net_init) (by decide +kernel)) (fun _ _ _ _ _ => pg_name (i := 10) nd rfl (Or.inl rfl)) (fun _ _ _ _ _ => pts_nil) (fun _ _ _ _ _ => pv 10) (fun _ _ _ _ _ => pe_dget hu (pv 8) (pv 10) (fun _ _ => rfl)))
            (pa_cons (pe_dc (own := [("node", 10)]) (g := gName 10) (tt := tYes) (tk := tVar 10) (tv := tDGet (tVar 9) (tVar 10)) rfl nd (pi_tup (pv 6)) (blkOk_by (own := [("node", 10)]) (N := nInit) (sc := defScope c_Net_init) (by decide +kernel)) (fun _ _ _ _ _ => pg_name (i := 10) nd rfl (Or.inl rfl)) (fun _ _ _ _ _ => pts_nil) (fun _ _ _ _ _ => pv 10) (fun _ _ _ _ _ => pe_dget hu (pv 9) (pv 10) (fun _ _ => rfl))) pa_nil))) rfl))))
      (pss_cons (ps_fld (pv 0) (pv 6) rfl)
      (pss_cons (ps_fld (pv 0) (pe_callTy call_tuple_of (by rfl) mTup (by decide +kernel) (pa_cons (pe_callB cr_sortedLU (by rfl) mSorted (by decide +kernel) (pa_cons (pv 2) pa_nil)) pa_nil)) rfl)
      (pss_one (ps_fld (pv 0) (pe_callTy call_tuple_of (by rfl) mTup (by decide +kernel) (pa_cons (pv 3) pa_nil)) rfl))))))))))), ?_⟩
    have rl : rows.length = ends.length := by rw [← hk.length_eq, List.length_map]
    have rne : rows ≠ [] := fun z => by
      have := ok.e0
      rw [z] at rl
      simp at rl
      omega
    have d6 := ok.d6
    have e2 := ok.e2
    -- if not are_tables(tables)
    refine ⟨.ref t, rfl, t, rows.map (·.1), dots, rows, rfl, x0 _ _ ht, rfl, hro.ex x0, by rw [hk.length_eq]; exact ok.e0, by rw [hk.length_eq]; exact ok.e2, fun z hz => ok.em z (hk.mem_iff.mp hz), ok.d0, ok.d6, fun z hz => ⟨ok.dm z hz, fun he => ok.ed z (hk.mem_iff.mp he) hz⟩, fun H1 x1 => ⟨true, rfl, ?_⟩⟩
    have y1 := x0.trans x1
    have hm1 := x1 _ _ hm
    -- first_old, _ = list(tables.values())[0]
    refine ⟨.ref t, rfl, t, tkv rows, rfl, .inl (y1 _ _ ht), fun l hl => ?_⟩
    obtain ⟨q0, r0, er⟩ : ∃ q0 r0, rows = q0 :: r0 := by
      cases q : rows with
      | nil => exact absurd q rne
      | cons q0 r0 => exact ⟨q0, r0, rfl⟩
    obtain ⟨p0, po0, pn0, t1, t2, eq0, pa0⟩ := hro q0 (by rw [er]; exact List.mem_cons_self)
    have at0 : ((tkv rows).map (·.2))[0]? = some (.ref p0) := by rw [er, ← eq0]; rfl
    have x2 : Evl.Ex H1 (upd H1 l (.lst ((tkv rows).map (·.2)))) := Evl.Ex.new hl
    have el : (upd H1 l (.lst ((tkv rows).map (·.2)))) l = some (.lst ((tkv rows).map (·.2))) := upd_same
    generalize upd H1 l (.lst ((tkv rows).map (·.2))) = H2 at x2 el
    have y2 := y1.trans x2
    refine ⟨l, _, 0, .ref p0, rfl, rfl, Evl.sq_of el, atI_nat (j := 0) at0, p0, _, rfl, Evl.st_of (y2 _ _ pa0.hp), rfl, _, _, rfl, _, [], rfl, rfl, ?_⟩
    -- nodes = tuple(sorted(first_old))
    refine ⟨.ref po0, rfl, po0, tkv t1, t1.map (·.1), rfl, .inl (y2 _ _ pa0.ho), ?_, ?_, fun ys sl hys hsort hsl => ⟨sl, ys.map V.str, rfl, .inl ⟨Evl.sq_of upd_same, fun N hN => ?_⟩⟩⟩
    · unfold tkv
      rw [List.map_map, List.map_map]
      rfl
    · rw [pa0.o1.ks.length_eq]
      omega
    have eys : ys = dots := sorted_uniq hsort ok.ds (hys.trans pa0.o1.ks)
    subst eys
    have x3 : Evl.Ex H2 (upd (upd H2 sl (.lst (ys.map V.str))) N (.tup (ys.map V.str))) := (Evl.Ex.new hsl).trans (Evl.Ex.new hN)
    have eN : (upd (upd H2 sl (.lst (ys.map V.str))) N (.tup (ys.map V.str))) N = some (.tup (ys.map V.str)) := upd_same
    have fN : Hb N = none := by
      cases q : Hb N with
      | none => rfl
      | some o => rw [Evl.Ex.new hsl _ _ (y2 _ _ q)] at hN; cases hN
    generalize upd (upd H2 sl (.lst (ys.map V.str))) N (.tup (ys.map V.str)) = H3 at x3 eN
    have y3 := y2.trans x3
    have lss : ss.length ≤ ys.length := nodup_le ss ys ok.sn ok.sd
    have lps : ps.length ≤ ys.length := nodup_le ps ys ok.pn ok.pd
    -- if not are_different(sources, nodes)
    refine ⟨.ref s', rfl, .ref N, rfl, s', N, ss, ys, rfl, hs.ex y3, .inr eN, ok.sn, ok.sd, by omega, fun H4 x4 => ⟨true, rfl, ?_⟩⟩
    have y4 := y3.trans x4
    -- if not are_different(posts, nodes) or ..
    refine ⟨.ref p, rfl, .ref N, rfl, p, N, ps, ys, rfl, hp.ex y4, .inr (x4 _ _ eN), ok.pn, ok.pd, by omega, fun H5 x5 => ⟨true, rfl, ?_⟩⟩
    have y5 := y4.trans x5
    have hp2 := ok.p2
    refine ⟨.ref p, rfl, .ref p, (ps.map V.str).length, rfl, (hp.ex y5).elim (fun q => .inl ⟨_, Evl.sq_of q, rfl⟩) (fun q => .inr ⟨_, Evl.st_of q, rfl⟩), ((ps.map V.str).length : Int), 2, rfl, rfl, false, congrArg V.bl (decide_eq_false (show ¬ (2 : Int) < ((ps.map V.str).length : Int) by rw [List.length_map]; omega)), ?_⟩
    have hm5 : H5 m = some (.ins C dx []) := (((x2.trans x3).trans x4).trans x5) _ _ hm1
    have eN5 : H5 N = some (.tup (ys.map V.str)) := (x4.trans x5) _ _ eN
    -- self._tables = {}
    refine fun T' hT => ⟨.ref m, rfl, m, C, dx, [], rfl, Evl.Ex.new hT _ _ hm5, T.cl, T.nT, by decide, ?_⟩
    rw [nf1]
    have nTm : T' ≠ m := (ne_of_none hm5 hT).symm
    have nNm : N ≠ m := ne_of eN5 hm5 (by intro z; cases z)
    have fT : Hb T' = none := by
      cases q : Hb T' with
      | none => rfl
      | some o => rw [y5 _ _ q] at hT; cases hT
    have y6 : Evl.Ex Hb (upd (upd H5 T' (.dK [])) m (.ins C dx [("_tables", .ref T')])) := (y5.trans (Evl.Ex.new hT)).mut hm0
    have hm6 : (upd (upd H5 T' (.dK [])) m (.ins C dx [("_tables", .ref T')])) m = some (.ins C dx [("_tables", .ref T')]) := upd_same
    have hT6 : (upd (upd H5 T' (.dK [])) m (.ins C dx [("_tables", .ref T')])) T' = some (.dK (tkv [])) := by rw [upd_ne nTm, upd_same]; rfl
    have hN6 : (upd (upd H5 T' (.dK [])) m (.ins C dx [("_tables", .ref T')])) N = some (.tup (ys.map V.str)) := by rw [upd_ne nNm]; exact Evl.Ex.new hT _ _ eN5
    generalize upd (upd H5 T' (.dK [])) m (.ins C dx [("_tables", .ref T')]) = H6 at y6 hm6 hT6 hN6
    -- for goal in sorted(tables)
    refine ⟨.ref t, rfl, t, tkv rows, rows.map (·.1), rfl, .inl (y6 _ _ ht), ?_, by rw [hk.length_eq]; omega, fun ys2 gl hys2 hsort2 hgl => ⟨gl, rfl, ⟨_, Evl.sq_of upd_same⟩, ?_⟩⟩
    · unfold tkv
      rw [List.map_map, List.map_map]
      rfl
    have eys2 : ys2 = ends := sorted_uniq hsort2 ok.es (hys2.trans hk)
    subst eys2
    have x7 : Evl.Ex H6 (upd H6 gl (.lst (ys2.map V.str))) := Evl.Ex.new hgl
    refine for_list (K := K) (a := gl) (xs := ys2.map V.str)
      (fun i σ H' => ∃ (x7 x8 x9 : Option V) (nr : List (Str × V)), σ = [some (.ref m), some (.ref t), some (.ref s'), some (.ref p), some (.ref po0), some (.ref pn0), some (.ref N), x7, x8, x9, none] ∧ nr.map (·.1) = ys2.take i ∧
        (∀ e ∈ ys2.take i, ∃ q qo qn : Addr, valV (tkv nr) (Sum.inr e) = some (.ref q) ∧ PairAt H' ys e q qo qn (canon ys (o e)) (canon ys (n e)) ∧ Hb q = none ∧ Hb qo = none ∧ Hb qn = none ∧ qo ≠ T' ∧ qn ≠ T') ∧
        H' m = some (.ins C dx [("_tables", .ref T')]) ∧ H' T' = some (.dK (tkv nr)) ∧ H' N = some (.tup (ys.map V.str)) ∧ H' gl = some (.lst (ys2.map V.str)) ∧ Evl.Ex Hb H')
      ⟨none, none, none, [], rfl, rfl, (fun e he => by cases he), x7 _ _ hm6, x7 _ _ hT6, x7 _ _ hN6, upd_same, y6.trans x7⟩ (fun i σ H' _ ⟨_, _, _, _, _, _, _, _, _, _, h, _⟩ => Evl.sq_of h) ?_ ?_
    · rintro i x σ H7 hi ⟨x7', x8', x9', nr, rfl, hnr, hpr, hm7, hT7, hN7, hg7, y7⟩
      obtain ⟨z, hz, rfl⟩ := str_at hi
      have hil : i < ys2.length := (List.getElem?_eq_some_iff.mp hz).1
      have hzm := List.mem_of_getElem? hz
      have etake : ys2.take (i + 1) = ys2.take i ++ [z] := by rw [List.take_add_one, hz]; rfl
      have zn : z ∉ ys2.take i := fun hm => by
        have h1 : (ys2.take (i + 1)).Nodup := ok.en.sublist (List.take_sublist _ _)
        rw [etake] at h1
        exact (List.nodup_append.mp h1).2.2 z hm z (List.mem_singleton.mpr rfl) rfl
      obtain ⟨p1, po1, pn1, hv1, pa1⟩ := hra z hzm
      have gt : DGet H7 t (.str z) (some (.ref p1)) := by
        have q := DGet.k (k := Sum.inr z) (y7 _ _ ht)
        rw [hv1] at q
        exact q
      -- old, new = tables[goal]
      refine ⟨.ref t, rfl, .str z, rfl, t, .ref p1, rfl, gt, p1, _, rfl, Evl.st_of (y7 _ _ pa1.hp), rfl, _, _, rfl, _, [], rfl, rfl, ?_⟩
      -- the two new dicts
      refine ⟨.ref N, rfl, N, rfl, ⟨_, Evl.st_of hN7⟩, fun D1 hD1 => dc_canon (e := z) hN7 (y7 _ _ pa1.ho) pa1.o1 ok.dn (by omega) hD1 (fun _ => rfl) (fun _ => rfl) (fun _ => rfl) ?_⟩
      have w1 : Evl.Ex H7 (upd H7 D1 (.dK (tkv (canon ys (o z))))) := Evl.Ex.new hD1
      have d1 : (upd H7 D1 (.dK (tkv (canon ys (o z))))) D1 = some (.dK (tkv (canon ys (o z)))) := upd_same
      have fr : ∀ {a : Addr}, H7 a = none → Hb a = none := fun {a} h => by
        cases q : Hb a with
        | none => rfl
        | some o => rw [y7 _ _ q] at h; cases h
      have fD1 := fr hD1
      have nD1 : D1 ≠ T' := (ne_of_none hT7 hD1).symm
      generalize upd H7 D1 (.dK (tkv (canon ys (o z)))) = H8 at w1 d1
      refine ⟨.ref N, rfl, N, rfl, ⟨_, Evl.st_of (w1 _ _ hN7)⟩, fun D2 hD2 => dc_canon (e := z) (w1 _ _ hN7) (w1 _ _ (y7 _ _ pa1.hn)) pa1.o2 ok.dn (by omega) hD2 (fun _ => rfl) (fun _ => rfl) (fun _ => rfl) ?_⟩
      have w2 : Evl.Ex H8 (upd H8 D2 (.dK (tkv (canon ys (n z))))) := Evl.Ex.new hD2
      have d2 : (upd H8 D2 (.dK (tkv (canon ys (n z))))) D2 = some (.dK (tkv (canon ys (n z)))) := upd_same
      have fr8 : ∀ {a : Addr}, H8 a = none → Hb a = none := fun {a} h => by
        cases q : Hb a with
        | none => rfl
        | some o => rw [w1 _ _ (y7 _ _ q)] at h; cases h
      have fD2 := fr8 hD2
      have nD2 : D2 ≠ T' := (ne_of_none (w1 _ _ hT7) hD2).symm
      generalize upd H8 D2 (.dK (tkv (canon ys (n z)))) = H9 at w2 d2
      have w12 := w1.trans w2
      refine ⟨by show 2 ≤ sizeLine; decide, fun q hq => ?_⟩
      have w3 : Evl.Ex H9 (upd H9 q (.tup [.ref D1, .ref D2])) := Evl.Ex.new hq
      have d3 : (upd H9 q (.tup [.ref D1, .ref D2])) q = some (.tup [.ref D1, .ref D2]) := upd_same
      have fq : Hb q = none := by
        cases q' : Hb q with
        | none => rfl
        | some o => rw [w12 _ _ (y7 _ _ q')] at hq; cases hq
      generalize upd H9 q (.tup [.ref D1, .ref D2]) = H10 at w3 d3
      have w := w12.trans w3
      have hT10 := w _ _ hT7
      have nrl : nr.length ≤ 2 := by
        have := congrArg List.length hnr
        rw [List.length_map, List.length_take] at this
        omega
      refine ⟨.ref m, rfl, m, C, dx, _, _, rfl, w _ _ hm7, T.cl, T.nT, nf1_get T', .str z, rfl, T', _, rfl, DPut.k (k := Sum.inr z) hT10 (by rw [tkv_len]; exact small1000 (by omega)), ?_⟩
      rw [tkv_new (by rw [hnr]; exact zn)]
      have keep : ∀ {a : Addr} {u : HO}, H10 a = some u → a ≠ T' → (upd H10 T' (.dK (tkv (nr ++ [(z, V.ref q)])))) a = some u := fun {a u} h ne => by rw [upd_ne ne]; exact h
      have mT : m ≠ T' := nTm.symm
      have gT : gl ≠ T' := ne_of hg7 hT7 (by intro z; cases z)
      have NT : N ≠ T' := ne_of hN7 hT7 (by intro z; cases z)
      refine ⟨_, _, _, nr ++ [(z, .ref q)], rfl, ?_, ?_, keep (w _ _ hm7) mT, upd_same, keep (w _ _ hN7) NT, keep (w _ _ hg7) gT, (y7.trans w).mut fT⟩
      · rw [List.map_append, hnr, etake]
        rfl
      · intro e he
        rw [etake] at he
        have vget : ∀ e', valV (tkv (nr ++ [(z, V.ref q)])) (Sum.inr e') = if (Sum.inr e' : Key) = Sum.inr z then some (.ref q) else valV (tkv nr) (Sum.inr e') := fun e' => by
          have h1 := tkv_none (tb := nr) (z := z) (by rw [hnr]; exact zn)
          have h2 := valV_snoc (Sum.inr z : Key) (Sum.inr e') (V.ref q) (tkv nr) h1
          unfold tkv at h2 ⊢
          rw [List.map_append]
          exact h2
        rcases List.mem_append.mp he with he | he
        · obtain ⟨q', qo, qn, v1, pa, f1, f2, f3, n2, n3⟩ := hpr e he
          have ne : e ≠ z := fun w => zn (w ▸ he)
          have pw := pa.ex w
          refine ⟨q', qo, qn, by rw [vget, if_neg (fun w => ne (Sum.inr.inj w))]; exact v1, ⟨keep pw.hp (ne_of pw.hp hT10 (by intro z; cases z)), keep pw.ho n2, keep pw.hn n3, pw.o1, pw.o2⟩, f1, f2, f3, n2, n3⟩
        · rw [List.mem_singleton.mp he]
          refine ⟨q, D1, D2, by rw [vget, if_pos rfl], ⟨keep d3 (ne_of d3 hT10 (by intro z; cases z)), keep (w3 _ _ (w2 _ _ d1)) nD1, keep (w3 _ _ d2) nD2, canon_ok pa1.o1, canon_ok pa1.o2⟩, fq, fD1, fD2, nD1, nD2⟩
    · rintro σ H7 ⟨x7', x8', x9', nr, rfl, hnr, hpr, hm7, hT7, hN7, hg7, y7⟩
      rw [List.length_map, List.take_length] at hnr hpr
      -- self._nodes = nodes
      refine ⟨.ref N, rfl, .ref m, rfl, m, C, dx, _, rfl, hm7, T.cl, T.nN, by show 1 < 1000; decide, ?_⟩
      rw [nf2]
      have up : ∀ {Hx : Hp} {a : Addr} {u v : HO}, Hx a = some u → a ≠ m → (upd Hx m v) a = some u := fun {Hx a u v} h ne => by rw [upd_ne ne]; exact h
      have y8 : Evl.Ex Hb (upd H7 m (.ins C dx [("_tables", .ref T'), ("_nodes", .ref N)])) := y7.mut hm0
      -- self._sources = tuple(sorted(sources))
      refine ⟨.ref s', rfl, s', ss, rfl, (hs.ex y8).sq, by omega, fun ys3 sl3 hys3 hsort3 hsl3 => ⟨sl3, ys3.map V.str, rfl, .inl ⟨Evl.sq_of upd_same, fun S hS => ?_⟩⟩⟩
      have eys3 : ys3 = ss := sorted_uniq hsort3 ok.sss hys3
      subst eys3
      have w4 : Evl.Ex (upd H7 m (.ins C dx [("_tables", .ref T'), ("_nodes", .ref N)])) (upd (upd (upd H7 m (.ins C dx [("_tables", .ref T'), ("_nodes", .ref N)])) sl3 (.lst (ys3.map V.str))) S (.tup (ys3.map V.str))) := (Evl.Ex.new hsl3).trans (Evl.Ex.new hS)
      have hS8 : (upd (upd (upd H7 m (.ins C dx [("_tables", .ref T'), ("_nodes", .ref N)])) sl3 (.lst (ys3.map V.str))) S (.tup (ys3.map V.str))) S = some (.tup (ys3.map V.str)) := upd_same
      have fS : Hb S = none := by
        cases q : Hb S with
        | none => rfl
        | some o => rw [Evl.Ex.new hsl3 _ _ (y8 _ _ q)] at hS; cases hS
      have hm8 := w4 _ _ upd_same
      have old8 : ∀ {a : Addr} {u : HO}, H7 a = some u → a ≠ m → (upd (upd (upd H7 m (.ins C dx [("_tables", .ref T'), ("_nodes", .ref N)])) sl3 (.lst (ys3.map V.str))) S (.tup (ys3.map V.str))) a = some u := fun {a u} h ne => w4 _ _ (up h ne)
      have y9 := y8.trans w4
      generalize upd (upd (upd H7 m (.ins C dx [("_tables", .ref T'), ("_nodes", .ref N)])) sl3 (.lst (ys3.map V.str))) S (.tup (ys3.map V.str)) = H9 at hS8 hm8 old8 y9
      have nSm : S ≠ m := ne_of hS8 hm8 (by intro z; cases z)
      refine ⟨.ref m, rfl, m, C, dx, _, rfl, hm8, T.cl, T.nS, by show 2 < 1000; decide, ?_⟩
      rw [nf3]
      have y10 : Evl.Ex Hb (upd H9 m (.ins C dx [("_tables", .ref T'), ("_nodes", .ref N), ("_sources", .ref S)])) := y9.mut hm0
      -- self._posts = tuple(posts)
      have last : ∀ (Po : Addr) (H11 : Hp), Evl.Ex (upd H9 m (.ins C dx [("_tables", .ref T'), ("_nodes", .ref N), ("_sources", .ref S)])) H11 → H11 Po = some (.tup (ps.map V.str)) → (Hb Po = none ∨ (Po = p ∧ Hb p = some (.tup (ps.map V.str)))) →
          H11 m = some (.ins C dx [("_tables", .ref T'), ("_nodes", .ref N), ("_sources", .ref S)]) ∧ Q .non (upd H11 m (.ins C dx (nflds T' N S Po))) := by
        intro Po H11 w5 hP10 src
        have hm10 := w5 _ _ upd_same
        have old10 : ∀ {a : Addr} {u : HO}, H9 a = some u → a ≠ m → H11 a = some u := fun {a u} h ne => w5 _ _ (up h ne)
        have y11 := y10.trans w5
        have nPm : Po ≠ m := ne_of hP10 hm10 (by intro z; cases z)
        refine ⟨hm10, ?_⟩
        have y12 : Evl.Ex Hb (upd H11 m (.ins C dx (nflds T' N S Po))) := y11.mut hm0
        have fin : ∀ {a : Addr} {u : HO}, H7 a = some u → a ≠ m → Hb a = none → rest Hb (upd H11 m (.ins C dx (nflds T' N S Po))) a = some u := fun {a u} h ne f => rest_of f (up (old10 (old8 h ne) ne) ne)
        refine k _ y12 fun Hz xz pz => ⟨dx, T', N, S, Po, nr, xz _ _ (rest_of hm0 upd_same), xz _ _ (fin hT7 nTm fT), xz _ _ (fin hN7 nNm fN), xz _ _ (rest_of fS (up (old10 hS8 nSm) nSm)), ?_, hnr, fun e he => ?_⟩
        · rcases src with f | ⟨rfl, f⟩
          · exact xz _ _ (rest_of f (up hP10 nPm))
          · exact pz f
        · obtain ⟨q, qo, qn, v1, pa, f1, f2, f3, n2, n3⟩ := hpr e he
          exact ⟨q, qo, qn, v1, ⟨xz _ _ (fin pa.hp (ne_of pa.hp hm7 (by intro z; cases z)) f1), xz _ _ (fin pa.ho (ne_of pa.ho hm7 (by intro z; cases z)) f2), xz _ _ (fin pa.hn (ne_of pa.hn hm7 (by intro z; cases z)) f3), pa.o1, pa.o2⟩⟩
      rcases hp with hp | hp
      · refine ⟨.ref p, rfl, p, ps.map V.str, rfl, .inl ⟨Evl.sq_of (y10 _ _ hp), fun Po hPo => ?_⟩⟩
        have fP : Hb Po = none := by
          cases q : Hb Po with
          | none => rfl
          | some o => rw [y10 _ _ q] at hPo; cases hPo
        obtain ⟨h1, h2⟩ := last Po _ (Evl.Ex.new hPo) upd_same (.inl fP)
        refine ⟨.ref m, rfl, m, C, dx, _, rfl, h1, T.cl, T.nP, by show 3 < 1000; decide, ?_⟩
        rw [nf4]
        exact h2
      · refine ⟨.ref p, rfl, p, ps.map V.str, rfl, .inr ⟨Evl.st_of (y10 _ _ hp), ?_⟩⟩
        obtain ⟨h1, h2⟩ := last p _ (Evl.Ex.refl _) (y10 _ _ hp) (.inr ⟨rfl, hp⟩)
        refine ⟨.ref m, rfl, m, C, dx, _, rfl, h1, T.cl, T.nP, by show 3 < 1000; decide, ?_⟩
        rw [nf4]
        exact h2
end
end Rw
end T_N1

section T_D1
set_option Elab.async false
set_option linter.all false
set_option maxRecDepth 100000
set_option maxHeartbeats 4000000
namespace Rw
open PySem L2 PyProof.Rows
section
variable {P : Program} {w : World} {K : PySem.W.Frag} {mg : Str → Option Value} {base : Heap}
theorem sc_blend : FnScope ["draw", "turn", "found", "prime", "blend", "cell"] ["draw"] (defScope s_blend) := ⟨rfl, rfl, rfl, by decide +kernel, rfl, by decide +kernel, by decide +kernel⟩
theorem ok_blend {f : Addr} {fd : FuncData} (F : Fun K "_law_blend" "_law_blend" s_blend f fd) (mInt : mg "int" = none) : FnOk P w K mg base CX0 1 f fd ["draw"] spBlend := by
  refine F.ok sc_blend (fun vs H Q E h => ?_) (fun cdv A outer s H vs Q E hr h => ?_)
  · obtain ⟨d, g, c, rfl, _⟩ := h
    rfl
  · obtain ⟨d, g, c, rfl, D, k⟩ := h
    have hu := hu_of hr
    have nd := sc_blend.nd
    refine ⟨_, pss_cons (ps_set (i := 1) nd rfl (.inl rfl) (pe_op op_add (pe_dget hu (pv 0) pe_str (fun _ _ => rfl)) pe_int))
      (pss_cons (ps_dput hu (pv 0) pe_str (pv 1) rfl)
      (pss_cons (ps_set (i := 2) nd rfl (.inl rfl) pe_int)
      (pss_cons (ps_for PassesOwn.never rfl (pi_list (pe_lst (pa_cons pe_int (pa_cons pe_int (pa_cons pe_int (pa_cons pe_int pa_nil)))))) (pg_name (i := 3) nd rfl (.inl rfl))
        (pss_cons (ps_set (i := 4) nd rfl (.inl rfl) (pe_op op_mod (pe_callTy call_int1 (by rfl) mInt boot_int (pa_cons (pe_op op_add (pe_op op_mul (pv 1) pe_int) (pe_op op_fdiv (pv 3) pe_int)) pa_nil)) (pv 3)))
        (pss_cons (ps_for PassesOwn.never rfl (pi_list (pe_dget hu (pv 0) pe_str (fun _ _ => rfl))) (pg_name (i := 5) nd rfl (.inl rfl))
          (pss_one (ps_set (i := 4) nd rfl (.inl rfl) (pe_op op_mod (pe_callTy call_int1 (by rfl) mInt boot_int (pa_cons (pe_op op_add (pe_op op_mul (pv 4) pe_int) (pv 5)) pa_nil)) (pv 3)))))
        (pss_one (ps_set (i := 2) nd rfl (.inl rfl) (pe_op op_add (pe_op op_mul (pv 2) pe_int) (pe_op op_mod (pe_callTy call_int1 (by rfl) mInt boot_int (pa_cons (pe_op op_pow (pv 4) pe_int) pa_nil)) (pv 3))))))))
      (pss_one (ps_ret (pv 2)))))), ?_⟩
    obtain ⟨⟨r, t, hd⟩, ⟨gs, hg⟩, ⟨cs, hc⟩, ncg⟩ := id D
    have ndg : d ≠ g := ne_of hd hg (by intro z; cases z)
    have ndc : d ≠ c := ne_of hd hc (by intro z; cases z)
    -- turn = draw['turn'] + 1
    refine ⟨.ref d, rfl, d, _, rfl, by have := DGet.k (k := Sum.inr "turn") hd; rw [dkv_turn] at this; exact this, t, 1, rfl, rfl, ?_⟩
    -- draw['turn'] = turn
    refine ⟨_, rfl, _, rfl, d, _, rfl, DPut.k (k := Sum.inr "turn") hd (by show 4 < sizeLine; decide), ?_⟩
    rw [dkv_put_turn]
    have hc1 : SqL K (upd H d (.dK (dkv g c r (t + 1)))) c (cs.map V.int) := .inl (.inl (by rw [upd_ne ndc.symm]; exact hc))
    have hd1 : (upd H d (.dK (dkv g c r (t + 1)))) d = some (.dK (dkv g c r (t + 1))) := upd_same
    generalize hH1 : upd H d (.dK (dkv g c r (t + 1))) = H1 at hc1 hd1 ⊢
    have kp : ∀ a o, H a = some o → a ≠ d → H1 a = some o := fun a o e ne => by rw [← hH1, upd_ne ne]; exact e
    -- found = 0; the primes
    refine ⟨by show 4 ≤ sizeLine; decide, fun p hp => ?_⟩
    have npd : d ≠ p := ne_of_none hd1 hp
    have hp2 : (upd H1 p (.lst ([2147483629, 2147483587, 2147483579, 2147483563].map V.int))) p = some (.lst ([2147483629, 2147483587, 2147483579, 2147483563].map V.int)) := upd_same
    have hd2 : (upd H1 p (.lst ([2147483629, 2147483587, 2147483579, 2147483563].map V.int))) d = some (.dK (dkv g c r (t + 1))) := by rw [upd_ne npd]; exact hd1
    have s12 : Same H1 (upd H1 p (.lst ([2147483629, 2147483587, 2147483579, 2147483563].map V.int))) := fun b o e => by rw [upd_ne (ne_of_none e hp)]; exact e
    refine ⟨p, rfl, ⟨_, .inl (.inl hp2)⟩, for_list (K := K) (a := p) (xs := [2147483629, 2147483587, 2147483579, 2147483563].map V.int)
      (fun i σ H2 => H2 = upd H1 p (.lst ([2147483629, 2147483587, 2147483579, 2147483563].map V.int)) ∧ ∃ (fo : Int) (x3 x4 x5 : Option V), σ = [some (.ref d), some (.int (t + 1)), some (.int fo), x3, x4, x5])
      ⟨rfl, 0, none, none, none, rfl⟩ (fun i σ H2 _ h => h.1 ▸ .inl (.inl hp2)) ?_ ?_⟩
    · rintro i x σ H2 hi ⟨rfl, fo, x3, x4, x5, rfl⟩
      obtain ⟨q, rfl, hq0, hq1⟩ : ∃ q : Int, x = .int q ∧ 0 < q ∧ q < 2147483648 := by
        match i, hi with
        | 0, hi => exact ⟨_, (Option.some.inj hi).symm, by decide, by decide⟩
        | 1, hi => exact ⟨_, (Option.some.inj hi).symm, by decide, by decide⟩
        | 2, hi => exact ⟨_, (Option.some.inj hi).symm, by decide, by decide⟩
        | 3, hi => exact ⟨_, (Option.some.inj hi).symm, by decide, by decide⟩
        | n + 4, hi => exact absurd hi (by simp)
      refine ⟨_, rfl, t + 1, 69621, rfl, rfl, .inr ⟨by decide, by decide⟩, _, rfl, q, 7, rfl, rfl, ⟨by decide, by decide⟩, _, _, rfl, rfl, .inl ⟨_, rfl, ?_⟩⟩
      refine ⟨_, rfl, _, q, rfl, rfl, hq0, ?_⟩
      -- the cells
      refine ⟨.ref d, rfl, d, _, rfl, by have := DGet.k (k := Sum.inr "cells") hd2; rw [dkv_cells] at this; exact this, c, rfl, ⟨_, s12.seq hc1⟩, for_list (K := K) (a := c) (xs := cs.map V.int)
        (fun j σ H3 => H3 = upd H1 p (.lst ([2147483629, 2147483587, 2147483579, 2147483563].map V.int)) ∧ ∃ (bl : Int) (x5 : Option V), 0 ≤ bl ∧ bl < q ∧ σ = [some (.ref d), some (.int (t + 1)), some (.int fo), some (.int q), some (.int bl), x5])
        ⟨rfl, _, x5, Int.emod_nonneg _ (by omega), Int.emod_lt_of_pos _ hq0, rfl⟩ (fun j σ H3 _ h => h.1 ▸ s12.seq hc1) ?_ ?_⟩
      · rintro j y σ H3 hj ⟨rfl, bl, x5', hb0, hb1, rfl⟩
        obtain ⟨z, rfl⟩ : ∃ z, y = V.int z := by
          rw [List.getElem?_map] at hj
          cases e : cs[j]? with
          | none => rw [e] at hj; cases hj
          | some z => rw [e] at hj; exact ⟨z, (Option.some.inj hj).symm⟩
        refine ⟨_, rfl, bl, 48271, rfl, rfl, .inr ⟨by decide, by decide⟩, _, rfl, _, z, rfl, rfl, .inl ⟨_, rfl, ?_⟩⟩
        refine ⟨_, rfl, _, q, rfl, rfl, hq0, ?_⟩
        exact ⟨rfl, _, _, Int.emod_nonneg _ (by omega), Int.emod_lt_of_pos _ hq0, rfl⟩
      · rintro σ H3 ⟨rfl, bl, x5', hb0, hb1, rfl⟩
        refine ⟨_, rfl, fo, 2147483647, rfl, rfl, .inr ⟨by decide, by decide⟩, _, rfl, bl, 5, rfl, rfl, ⟨by decide, by decide, by omega⟩, .inl ⟨_, rfl, ?_⟩⟩
        refine ⟨_, rfl, _, q, rfl, rfl, hq0, _, _, rfl, rfl, ?_⟩
        exact ⟨rfl, _, _, _, _, rfl⟩
    · rintro σ H2 ⟨rfl, fo, x3, x4, x5, rfl⟩
      refine ⟨_, rfl, k fo _ ⟨⟨r, t + 1, hd2⟩, ⟨gs, s12 _ _ (kp _ _ hg ndg.symm)⟩, ⟨cs, s12 _ _ (kp _ _ hc ndc.symm)⟩, ncg⟩ (fun a o e n1 _ => s12 _ _ (kp a o e n1))⟩
theorem sc_take : FnScope ["draw", "size", "found"] ["draw", "size"] (defScope s_take) := ⟨rfl, rfl, rfl, by decide +kernel, rfl, by decide +kernel, by decide +kernel⟩
theorem ok_take {f fB : Addr} {fd fdB : FuncData} (F : Fun K "_law_take" "_law_take" s_take f fd) (FB : Fun K "_law_blend" "_law_blend" s_blend fB fdB) (bB : Binds K fdB ["draw"] []) (gB : mg "_law_blend" = some (.ref fB)) (mInt : mg "int" = none) :
    FnOk P w K mg base CX0 2 f fd ["draw", "size"] spTake := by
  have GB : FnOk P w K mg base CX0 1 fB fdB ["draw"] spBlend := ok_blend FB mInt
  refine F.ok sc_take (fun vs H Q E h => ?_) (fun cdv A outer s H vs Q E hr h => ?_)
  · obtain ⟨d, g, c, n, rfl, _⟩ := h
    rfl
  · obtain ⟨d, g, c, n, rfl, hn0, hn1, D, k⟩ := h
    have hu := hu_of hr
    have nd := sc_take.nd
    refine ⟨_, C8.pss_cut (ps_if (PW.pt (pw_and (pt_cmpR op_eq (pe_dget hu (pv 0) pe_str (fun _ _ => rfl)) pe_int (nomark _)) (pw_and1 (pt_cmpR (op_neD hr.units) (pe_dget hu (pv 0) pe_str (fun _ _ => rfl)) (pe_lst pa_nil) (nomark _)))))
        (pss_one (ps_dput hu (pv 0) pe_str (pe_bm PySem.F.plainAttrs_list PySem.F.slot_list_pop PySem.F.type_list_pop mt_popAt (pe_dget hu (pv 0) pe_str (fun _ _ => rfl)) (pa_cons pe_int pa_nil)) rfl)) pss_nil)
      (C8.pss_cut (ps_if (pt_cmpR op_eq (pe_dget hu (pv 0) pe_str (fun _ _ => rfl)) pe_int (nomark _))
        (pss_one (ps_dput hu (pv 0) pe_str (pe_call GB hr rfl gB FB.kp bB .nil pass0 (pa_cons (pv 0) pa_nil)) rfl)) pss_nil)
      (pss_cons (ps_set (i := 2) nd rfl (.inl rfl) (pe_op op_mod (pe_callTy call_int1 (by rfl) mInt boot_int (pa_cons (pe_dget hu (pv 0) pe_str (fun _ _ => rfl)) pa_nil)) (pv 1)))
      (pss_cons (ps_dput hu (pv 0) pe_str (pe_op op_fdiv (pe_dget hu (pv 0) pe_str (fun _ _ => rfl)) (pv 1)) rfl)
      (pss_one (ps_ret (pv 2)))))), ?_⟩
    have gr : ∀ {H1 : Hp} {r t : Int}, H1 d = some (.dK (dkv g c r t)) → DGet H1 d (.str "rest") (some (.int r)) := fun {H1 r t} e => by
      have := DGet.k (k := Sum.inr "rest") e
      rw [dkv_rest] at this
      exact this
    have gg : ∀ {H1 : Hp} {r t : Int}, H1 d = some (.dK (dkv g c r t)) → DGet H1 d (.str "great") (some (.ref g)) := fun {H1 r t} e => by
      have := DGet.k (k := Sum.inr "great") e
      rw [dkv_great] at this
      exact this
    have pr : ∀ {H1 : Hp} {r t : Int} (x : Int), H1 d = some (.dK (dkv g c r t)) → DPut H1 d (.str "rest") (.int x) (upd H1 d (.dK (dkv g c x t))) := fun {H1 r t} x e => by
      have := DPut.k (k := Sum.inr "rest") (v := .int x) e (by show 4 < sizeLine; decide)
      rw [dkv_put_rest] at this
      exact this
    -- what is stored at d leaves the draws
    have st : ∀ {H1 : Hp} {r t : Int}, DrawAt H1 d g c → SameD d g H H1 → DrawAt (upd H1 d (.dK (dkv g c r t))) d g c ∧ SameD d g H (upd H1 d (.dK (dkv g c r t))) := fun {H1 r t} D1 S1 => by
      obtain ⟨⟨r', t', hd'⟩, ⟨gs', hg'⟩, ⟨cs', hc'⟩, ncg'⟩ := D1
      exact ⟨⟨⟨r, t, upd_same⟩, ⟨gs', by rw [upd_ne (ne_of hd' hg' (by intro z; cases z)).symm]; exact hg'⟩, ⟨cs', by rw [upd_ne (ne_of hd' hc' (by intro z; cases z)).symm]; exact hc'⟩, ncg'⟩, fun a o e n1 n2 => by rw [upd_ne n1]; exact S1 a o e n1 n2⟩
    have s0 : SameD d g H H := fun a o e _ _ => e
    obtain ⟨⟨r, t, hd⟩, ⟨gs, hg⟩, ⟨cs, hc⟩, ncg⟩ := id D
    have ndg : d ≠ g := ne_of hd hg (by intro z; cases z)
    -- if draw['rest'] == 0 and draw['great'] != []
    refine ⟨fun σ' H' => σ' = [some (.ref d), some (.int n), none] ∧ DrawAt H' d g c ∧ SameD d g H H', ?_, ?_⟩
    · refine ⟨.ref d, rfl, d, _, rfl, gr hd, rfl, _, rfl, ite2 (fun _ => ?_) (fun _ => ?_)⟩
      · refine ⟨.ref d, rfl, d, _, rfl, gg hd, Nat.zero_le _, fun p hp => ?_⟩
        have npg : g ≠ p := ne_of_none hg hp
        have npd : d ≠ p := ne_of_none hd hp
        have hg1 : (upd H p (.lst [])) g = some (.lst (gs.map V.int)) := by rw [upd_ne npg]; exact hg
        have hd1 : (upd H p (.lst [])) d = some (.dK (dkv g c r t)) := by rw [upd_ne npd]; exact hd
        have hc1 : (upd H p (.lst [])) c = some (.lst (cs.map V.int)) := by rw [upd_ne (ne_of_none hc hp)]; exact hc
        have S1 : SameD d g H (upd H p (.lst [])) := fun a o e _ _ => by rw [upd_ne (ne_of_none e hp)]; exact e
        have D1 : DrawAt (upd H p (.lst [])) d g c := ⟨⟨r, t, hd1⟩, ⟨gs, hg1⟩, ⟨cs, hc1⟩, ncg⟩
        refine ⟨_, _, .lst (.inl (.inl hg1)) (dp_ints gs), .lst (.inl (.inl upd_same)) .nil, shaped_ints gs, shaped_ints [], _, rfl, ?_⟩
        rw [eqv_nil]
        cases gs with
        | nil => exact ⟨rfl, D1, S1⟩
        | cons x gs =>
          refine iteT ?_
          generalize upd H p (.lst []) = H1 at hg1 hd1 hc1 S1 D1
          refine ⟨.ref d, rfl, d, _, rfl, gg hd1, .inl ⟨rfl, _, .inl (.inl hg1)⟩, g, _, 0, 0, .int x, rfl, rfl, hg1, by decide, by decide, ?_, rfl, .ref d, rfl, d, _, rfl, pr x (r := r) (t := t) (by rw [upd_ne ndg]; exact hd1), ?_⟩
          · simp [seqIndex?]
          · have D2 : DrawAt (upd H1 g (.lst (((x :: gs).map V.int).eraseIdx 0))) d g c := ⟨⟨r, t, by rw [upd_ne ndg]; exact hd1⟩, ⟨gs, upd_same⟩, ⟨cs, by
              rw [upd_ne (show c ≠ g from fun z => ncg z)]
              exact hc1⟩, ncg⟩
            have S2 : SameD d g H (upd H1 g (.lst (((x :: gs).map V.int).eraseIdx 0))) := fun a o e n1 n2 => by rw [upd_ne n2]; exact S1 a o e n1 n2
            have z := st (r := x) (t := t) D2 S2
            exact ⟨rfl, z.1, z.2⟩
      · exact ⟨rfl, D, s0⟩
    · rintro σ' H' ⟨rfl, D1, S1⟩
      obtain ⟨⟨r1, t1, hd1⟩, _, _⟩ := id D1
      -- if draw['rest'] == 0
      refine ⟨fun σ' H' => σ' = [some (.ref d), some (.int n), none] ∧ DrawAt H' d g c ∧ SameD d g H H', ?_, ?_⟩
      · refine ⟨.ref d, rfl, d, _, rfl, gr hd1, rfl, _, rfl, ite2 (fun _ => ?_) (fun _ => ⟨rfl, D1, S1⟩)⟩
        refine ⟨.ref d, rfl, d, g, c, rfl, D1, fun x H2 D2 S2 => ?_⟩
        obtain ⟨⟨r2, t2, hd2⟩, _, _⟩ := id D2
        have S3 : SameD d g H H2 := fun a o e n1 n2 => S2 a o (S1 a o e n1 n2) n1 n2
        have z := st (r := x) (t := t2) D2 S3
        exact ⟨.ref d, rfl, d, _, rfl, pr x hd2, rfl, z.1, z.2⟩
      · rintro σ' H2 ⟨rfl, D2, S2⟩
        obtain ⟨⟨r2, t2, hd2⟩, _, _⟩ := id D2
        refine ⟨.ref d, rfl, d, _, rfl, gr hd2, .inl ⟨r2, rfl, _, rfl, r2, n, rfl, rfl, hn0, ?_⟩⟩
        refine ⟨.ref d, rfl, d, _, rfl, gr hd2, _, rfl, r2, n, rfl, rfl, ⟨hn0, hn1⟩, .ref d, rfl, d, _, rfl, pr _ hd2, _, rfl, ?_⟩
        have z := st (r := r2 / n) (t := t2) D2 S2
        exact k _ _ (Int.emod_nonneg _ (by omega)) (Int.emod_lt_of_pos _ hn0) z.1 (off_same z.2)
theorem sc_pick : FnScope ["draw", "some"] ["draw", "some"] (defScope s_pick) := ⟨rfl, rfl, rfl, by decide +kernel, rfl, by decide +kernel, by decide +kernel⟩
theorem ok_pickL {f fT : Addr} {fd fdT : FuncData} (F : Fun K "_law_pick" "_law_pick" s_pick f fd) (T : FnOk P w K mg base CX0 2 fT fdT ["draw", "size"] spTake) (kT : PySem.W.keepIn K (.ref fT) = true) (bT : Binds K fdT ["draw", "size"] []) (gT : mg "_law_take" = some (.ref fT)) (mLen : mg "len" = none) :
    FnOk P w K mg base CX0 3 f fd ["draw", "some"] (spPickL K) := by
  refine F.ok sc_pick (fun vs H Q E h => ?_) (fun cdv A outer s H vs Q E hr h => ?_)
  · obtain ⟨d, g, c, a, xs, rfl, _⟩ := h
    rfl
  · obtain ⟨d, g, c, a, xs, rfl, D, hS, h0, h1, k⟩ := h
    refine ⟨_, pss_one (ps_ret (pe_ix ix_list (pv 1) (pe_call T hr rfl gT kT bT .nil pass0 (pa_cons (pv 0) (pa_cons (pe_callB call_len (by rfl) mLen PySem.boot_len (pa_cons (pv 1) pa_nil)) pa_nil))) (fun _ _ => rfl))), ?_⟩
    refine ⟨.ref a, rfl, .ref d, rfl, .ref a, rfl, .ref a, xs.length, rfl, .inl ⟨xs, Evl.ex_l (ex_off d g H) hS, rfl⟩, ?_⟩
    refine ⟨d, g, c, (xs.length : Int), rfl, by omega, by omega, D, fun i H1 i0 i1 D1 e1 => ?_⟩
    have hi : i.toNat < xs.length := by omega
    have ei : xs[i.toNat]? = some xs[i.toNat] := List.getElem?_eq_getElem hi
    refine ⟨a, xs, i, xs[i.toNat], rfl, rfl, Evl.ex_l ((e1).trans (ex_off d g H1)) hS, ?_, k i.toNat _ H1 ei D1 e1⟩
    have z := atI_nat ei
    rw [show ((i.toNat : Nat) : Int) = i by omega] at z
    exact z
theorem ok_pickS {f fT : Addr} {fd fdT : FuncData} (F : Fun K "_law_pick" "_law_pick" s_pick f fd) (T : FnOk P w K mg base CX0 2 fT fdT ["draw", "size"] spTake) (kT : PySem.W.keepIn K (.ref fT) = true) (bT : Binds K fdT ["draw", "size"] []) (gT : mg "_law_take" = some (.ref fT)) (mLen : mg "len" = none) :
    FnOk P w K mg base CX0 3 f fd ["draw", "some"] spPickS := by
  refine F.ok sc_pick (fun vs H Q E h => ?_) (fun cdv A outer s H vs Q E hr h => ?_)
  · obtain ⟨d, g, c, z, rfl, _⟩ := h
    rfl
  · obtain ⟨d, g, c, z, rfl, D, h0, h1, k⟩ := h
    refine ⟨_, pss_one (ps_ret (pe_ix ix_str (pv 1) (pe_call T hr rfl gT kT bT .nil pass0 (pa_cons (pv 0) (pa_cons (pe_callB call_len (by rfl) mLen PySem.boot_len (pa_cons (pv 1) pa_nil)) pa_nil))) (fun _ _ => rfl))), ?_⟩
    refine ⟨.str z, rfl, .ref d, rfl, .str z, rfl, .str z, z.length, rfl, ⟨Nat.le_of_lt (small1000 h1), rfl⟩, ?_⟩
    refine ⟨d, g, c, (z.length : Int), rfl, by omega, by omega, D, fun i H1 i0 i1 D1 e1 => ?_⟩
    have hz : z.length = z.cps.toList.length := rfl
    have hi : i.toNat < z.cps.toList.length := by omega
    have ei : z.cps.toList[i.toNat]? = some z.cps.toList[i.toNat] := List.getElem?_eq_getElem hi
    refine ⟨z, i, z.cps.toList[i.toNat], rfl, rfl, Nat.le_of_lt (small1000 h1), ?_, k i.toNat _ H1 ei D1 e1⟩
    have y := atI_nat ei
    rw [show ((i.toNat : Nat) : Int) = i by omega] at y
    exact y
end
end Rw
end T_D1

section T_B9
set_option Elab.async false
set_option linter.all false
set_option maxRecDepth 100000
set_option maxHeartbeats 4000000
namespace Rw
open PySem L2 PyProof.Rows
section
variable {P : Program} {w : World} {K : PySem.W.Frag} {mg : Str → Option Value} {base : Heap}
theorem cut_take (xs : List V) (n : Nat) : cutV xs none (some (n : Int)) = xs.take n := by
  unfold cutV
  rw [show HT.sIx xs.length 0 none = 0 from rfl, HT.sIx_nat, List.drop_zero, Nat.sub_zero]
  by_cases h : n ≤ xs.length
  · rw [Nat.min_eq_left h]
  · rw [Nat.min_eq_right (by omega), List.take_length, List.take_of_length_le (by omega)]
theorem cut_drop (xs : List V) (n : Nat) : cutV xs (some (n : Int)) none = xs.drop n := by
  unfold cutV
  rw [HT.sIx_nat, HT.sIx_none]
  by_cases h : n ≤ xs.length
  · rw [Nat.min_eq_left h]
    exact List.take_of_length_le (by rw [List.length_drop]; exact Nat.le_refl _)
  · rw [Nat.min_eq_right (by omega), Nat.sub_self, List.take_zero, List.drop_of_length_le (by omega)]
abbrev nModel : List Str := ["draw", "ends", "most", "many", "size", "names", "dots", "rows", "end", "begins", "stops"]
theorem sc_model : FnScope nModel ["draw", "ends", "most"] (defScope s_model) := ⟨rfl, rfl, rfl, by decide +kernel, rfl, by decide +kernel, by decide +kernel⟩
theorem ok_model {f fT fP fM fW fR : Addr} {fd fdT fdP fdM fdW fdR : FuncData} (F : Fun K "_law_model" "_law_model" s_model f fd)
    (T : FnOk P w K mg base CX0 2 fT fdT ["draw", "size"] spTake) (kT : PySem.W.keepIn K (.ref fT) = true) (bT : Binds K fdT ["draw", "size"] []) (gT : mg "_law_take" = some (.ref fT))
    (PL : FnOk P w K mg base CX0 3 fP fdP ["draw", "some"] (spPickL K)) (kP : PySem.W.keepIn K (.ref fP) = true) (bP : Binds K fdP ["draw", "some"] []) (gP : mg "_law_pick" = some (.ref fP))
    (M : FnOk P w K mg base CX0 3 fM fdM ["draw", "some"] (spMixed K)) (kM : PySem.W.keepIn K (.ref fM) = true) (bM : Binds K fdM ["draw", "some"] []) (gM : mg "_law_mixed" = some (.ref fM))
    (W : FnOk P w K mg base CX0 4 fW fdW ["draw", "count"] (spWords K)) (kW : PySem.W.keepIn K (.ref fW) = true) (bW : Binds K fdW ["draw", "count"] []) (gW : mg "_law_words" = some (.ref fW))
    (R : FnOk P w K mg base CX0 5 fR fdR ["draw", "some", "end"] (spPair K)) (kR : PySem.W.keepIn K (.ref fR) = true) (bR : Binds K fdR ["draw", "some", "end"] []) (gR : mg "_law_pair" = some (.ref fR))
    (mSorted : mg "sorted" = none) (mMin : mg "min" = none) :
    FnOk P w K mg base CX0 6 f fd ["draw", "ends", "most"] spModel := by
  refine F.ok sc_model (fun vs H Q E h => ?_) (fun cdv A outer s H vs Q E hr h => ?_)
  · obtain ⟨d, g, c, e, n, rfl, _⟩ := h
    rfl
  · obtain ⟨d, g, c, e, n, rfl, D, e0, e1, n0, n1, k⟩ := h
    have nd := sc_model.nd
    have hu := hu_of hr
    have hr2 : Room 2 _ := hr.mono (by decide)
    have hr3 : Room 3 _ := hr.mono (by decide)
    have hr4 : Room 4 _ := hr.mono (by decide)
    refine ⟨_, pss_cons (ps_par (i := 3) (j := 4) (by rfl) nd rfl rfl (by decide) rfl rfl (pa_cons (pe_op op_add pe_int (pe_call T hr2 rfl gT kT bT .nil pass0 (pa_cons (pv 0) (pa_cons (pv 1) pa_nil)))) (pa_cons (pe_op op_add pe_int (pe_call T hr2 rfl gT kT bT .nil pass0 (pa_cons (pv 0) (pa_cons (pv 2) pa_nil)))) pa_nil)) (by rfl))
      (pss_cons (ps_set (i := 5) nd rfl (.inl rfl) (pe_call W hr4 rfl gW kW bW .nil pass0 (pa_cons (pv 0) (pa_cons (pe_op op_add (pv 3) (pv 4)) pa_nil))))
      (pss_cons (ps_par (i := 6) (j := 7) (by rfl) nd rfl rfl (by decide) rfl rfl (pa_cons (pe_callB cr_sortedS (by rfl) mSorted (by decide +kernel) (pa_cons (pe_slice sl_list (pv 5) (po_some (pv 3)) po_none) pa_nil)) (pa_cons pe_dnewK pa_nil)) (by rfl))
      (pss_cons (ps_for PassesOwn.never rfl (pi_list (pe_callB cr_sortedS (by rfl) mSorted (by decide +kernel) (pa_cons (pe_slice sl_list (pv 5) po_none (po_some (pv 3))) pa_nil))) (pg_name (i := 8) nd rfl (.inl rfl))
        (pss_one (ps_dput hu (pv 7) (pv 8) (pe_call R hr rfl gR kR bR .nil pass0 (pa_cons (pv 0) (pa_cons (pv 6) (pa_cons (pv 8) pa_nil)))) rfl)))
      (pss_cons (ps_set (i := 9) nd rfl (.inl rfl) (pe_callB cr_sortedS (by rfl) mSorted (by decide +kernel) (pa_cons (pe_slice sl_list (pe_call M hr3 rfl gM kM bM .nil pass0 (pa_cons (pv 0) (pa_cons (pv 6) pa_nil))) po_none
          (po_some (pe_call T hr2 rfl gT kT bT .nil pass0 (pa_cons (pv 0) (pa_cons (pe_op op_add (pe_callB (call_min2 rfl) (by rfl) mMin (by decide +kernel) (pa_cons pe_int (pa_cons (pv 4) pa_nil))) pe_int) pa_nil))))) pa_nil)))
      (pss_cons (ps_set (i := 10) nd rfl (.inl rfl) (pe_slice sl_list (pe_call M hr3 rfl gM kM bM .nil pass0 (pa_cons (pv 0) (pa_cons (pv 6) pa_nil))) po_none
          (po_some (pe_call PL hr3 rfl gP kP bP .nil pass0 (pa_cons (pv 0) (pa_cons (pe_lst (pa_cons pe_int (pa_cons pe_int (pa_cons pe_int (pa_cons pe_int (pa_cons pe_int pa_nil)))))) pa_nil))))))
      (pss_one (ps_ret (pe_disp (pps_cons pe_str (pv 7) (pps_cons pe_str (pv 6) (pps_cons pe_str (pv 9) (pps_cons pe_str (pv 10) pps_nil)))) (by rfl) (by rfl) (fun z => by cases z) (by decide))))))))), ?_⟩
    -- many, size
    refine ⟨.ref d, rfl, .int e, rfl, d, g, c, e, rfl, e0, by omega, D, fun a H1 a0 a1 D1 x1 => ⟨1, a, rfl, rfl, .ref d, rfl, .int n, rfl, d, g, c, n, rfl, n0, by omega, D1, fun b H2 b0 b1 D2 x2 => ⟨1, b, rfl, rfl, _, _, rfl, ?_⟩⟩⟩
    obtain ⟨a', rfl⟩ := Int.eq_ofNat_of_zero_le a0
    obtain ⟨b', rfl⟩ := Int.eq_ofNat_of_zero_le b0
    have eN : (1 + (a' : Int) + (1 + (b' : Int))) = ((1 + a' + (1 + b') : Nat) : Int) := by omega
    have eM : (1 + (a' : Int)) = ((1 + a' : Nat) : Int) := by omega
    -- names
    refine ⟨.ref d, rfl, .int (1 + (a' : Int)), rfl, .int (1 + (b' : Int)), rfl, _, _, rfl, rfl, d, g, c, 1 + a' + (1 + b'), by rw [← eN]; rfl, D2, by omega, fun nm zs H3 zl znd znm D3 x3 _ hnm => ?_⟩
    have hnm' := off_some hnm
    -- dots, rows = (sorted(names[many:]), {})
    refine ⟨.ref nm, rfl, .int (1 + (a' : Int)), rfl, _, rfl, nm, _, rfl, Evl.sq_of hnm'.2.2, fun sl hsl => ?_⟩
    rw [eM, cut_drop, ← List.map_drop]
    refine ⟨sl, zs.drop (1 + a'), rfl, Evl.sq_of upd_same, by rw [List.length_drop]; omega, fun dots db dperm dsort hdb tb htb => ⟨_, _, rfl, ?_⟩⟩
    have x4 : Evl.Ex H3 (upd (upd (upd H3 sl (.lst ((zs.drop (1 + a')).map V.str))) db (.lst (dots.map V.str))) tb (.dK [])) := ((Evl.Ex.new hsl).trans (Evl.Ex.new hdb)).trans (Evl.Ex.new htb)
    have D4 := D3.ext x4
    have ndb := (D3.new hsl).ned hdb
    have ntb := ((D3.new hsl).new hdb).ned htb
    have q1 : off d g (upd (upd (upd H3 sl (.lst ((zs.drop (1 + a')).map V.str))) db (.lst (dots.map V.str))) tb (.dK [])) db = some (.lst (dots.map V.str)) := off_of (Evl.Ex.new htb _ _ upd_same) ndb.1 ndb.2.1
    have q2 : (upd (upd (upd H3 sl (.lst ((zs.drop (1 + a')).map V.str))) db (.lst (dots.map V.str))) tb (.dK [])) tb = some (.dK (tkv [])) := upd_same
    have q3 := off_ex (d := d) (g := g) x4 _ _ hnm
    have y4 := (x1.trans x2).trans (x3.trans (off_ex (d := d) (g := g) x4))
    have tb0 : H tb = none := by
      refine ex_free (((x1.trans x2).trans x3).trans (off_ex (d := d) (g := g) ((Evl.Ex.new hsl).trans (Evl.Ex.new hdb)))) ntb.1 ntb.2.1 htb
    generalize upd (upd (upd H3 sl (.lst ((zs.drop (1 + a')).map V.str))) db (.lst (dots.map V.str))) tb (.dK []) = H4 at D4 q1 q2 q3 y4
    have dl : dots.length = 1 + b' := by rw [dperm.length_eq, List.length_drop]; omega
    have dnd : dots.Nodup := dperm.nodup_iff.mpr (znd.sublist (List.drop_sublist _ _))
    have dnm : ∀ z ∈ dots, Nm z := fun z hz => znm z (List.mem_of_mem_drop (dperm.subset hz))
    have q3' := off_some q3
    -- for end in sorted(names[:many])
    refine ⟨.ref nm, rfl, .int (1 + (a' : Int)), rfl, _, rfl, nm, _, rfl, Evl.sq_of q3'.2.2, fun s2 hs2 => ?_⟩
    rw [eM, cut_take, ← List.map_take]
    refine ⟨s2, zs.take (1 + a'), rfl, Evl.sq_of upd_same, by rw [List.length_take]; omega, fun ends eb eperm esort heb => ?_⟩
    have x5 : Evl.Ex H4 (upd (upd H4 s2 (.lst ((zs.take (1 + a')).map V.str))) eb (.lst (ends.map V.str))) := (Evl.Ex.new hs2).trans (Evl.Ex.new heb)
    have D5 := D4.ext x5
    have neb := (D4.new hs2).ned heb
    have r1 := off_ex (d := d) (g := g) x5 _ _ q1
    have r2 := x5 _ _ q2
    have r3 : off d g (upd (upd H4 s2 (.lst ((zs.take (1 + a')).map V.str))) eb (.lst (ends.map V.str))) eb = some (.lst (ends.map V.str)) := off_of upd_same neb.1 neb.2.1
    have y5 := y4.trans (off_ex (d := d) (g := g) x5)
    have nte : tb ≠ eb := ne_of_none (Evl.Ex.new hs2 _ _ q2) heb
    generalize upd (upd H4 s2 (.lst ((zs.take (1 + a')).map V.str))) eb (.lst (ends.map V.str)) = H5 at D5 r1 r2 r3 y5
    have el : ends.length = 1 + a' := by rw [eperm.length_eq, List.length_take]; omega
    have endd : ends.Nodup := eperm.nodup_iff.mpr (znd.sublist (List.take_sublist _ _))
    have ennm : ∀ z ∈ ends, Nm z := fun z hz => znm z (List.mem_of_mem_take (eperm.subset hz))
    have edis : ∀ z ∈ ends, z ∉ dots := fun z hz hd => by
      have h1 := eperm.subset hz
      have h2 := dperm.subset hd
      have h3 : (zs.take (1 + a') ++ zs.drop (1 + a')).Nodup := by rw [List.take_append_drop]; exact znd
      exact (List.nodup_append.mp h3).2.2 z h1 z h2 rfl
    have ntd : tb ≠ db := (ne_of_none (Evl.Ex.refl _ _ _ upd_same) htb).symm
    refine ⟨eb, rfl, ⟨_, Evl.sq_of (off_some r3).2.2⟩, for_list (K := K) (a := eb) (xs := ends.map V.str)
      (fun i σ H' => ∃ (x8 : Option V) (rows : List (Str × V)), σ = [some (.ref d), some (.int e), some (.int n), some (.int ((1 + a' : Nat) : Int)), some (.int (1 + (b' : Int))), some (.ref nm), some (.ref db), some (.ref tb), x8, none, none] ∧ rows.map (·.1) = ends.take i ∧
        (∀ q ∈ rows, ∃ (p po pn : Addr) (t1 t2 : List (Str × V)), q.2 = .ref p ∧ PairAt (off d g H') dots q.1 p po pn t1 t2 ∧ p ≠ tb ∧ po ≠ tb ∧ pn ≠ tb) ∧
        H' tb = some (.dK (tkv rows)) ∧ off d g H' db = some (.lst (dots.map V.str)) ∧ off d g H' eb = some (.lst (ends.map V.str)) ∧ DrawAt H' d g c ∧ Evl.Ex (off d g H) (off d g H'))
      ⟨none, [], by rw [← eM]; rfl, rfl, (fun q hq => by cases hq), r2, r1, r3, D5, y5⟩ (fun i σ H' _ ⟨_, _, _, _, _, _, _, h, _⟩ => Evl.sq_of (off_some h).2.2) ?_ ?_⟩
    · rintro i y σ H6 hi ⟨x8, rows, rfl, hk, hro, f1, f2, f3, D6, y6⟩
      obtain ⟨z, hz, rfl⟩ := str_at hi
      have hil : i < ends.length := (List.getElem?_eq_some_iff.mp hz).1
      have etake : ends.take (i + 1) = ends.take i ++ [z] := by rw [List.take_add_one, hz]; rfl
      have hzm := List.mem_of_getElem? hz
      have hzn : z ∉ ends.take i := fun hm => by
        have h1 : (ends.take (i + 1)).Nodup := endd.sublist (List.take_sublist _ _)
        rw [etake] at h1
        exact (List.nodup_append.mp h1).2.2 z hm z (List.mem_singleton.mpr rfl) rfl
      refine ⟨.ref d, rfl, .ref db, rfl, .str z, rfl, d, g, c, db, dots, z, rfl, D6, Evl.sq_of f2, dnd, dnm, ennm z hzm, edis z hzm, by omega, by omega, fun p po pn t1 t2 H7 D7 x7 hpa w1 w2 w3 => ?_⟩
      have g1 : H7 tb = some (.dK (tkv rows)) := ex_off d g H7 _ _ (x7 _ _ (off_of f1 ntb.1 ntb.2.1))
      have g2 := x7 _ _ f2
      have g3 := x7 _ _ f3
      have rl : rows.length ≤ 2 := by
        have := congrArg List.length hk
        rw [List.length_map, List.length_take] at this
        omega
      refine ⟨.ref tb, rfl, .str z, rfl, tb, _, rfl, DPut.k (k := Sum.inr z) g1 (by rw [tkv_len]; exact small1000 (by omega)), ?_⟩
      rw [tkv_new (by rw [hk]; exact hzn)]
      have keep : ∀ {a : Addr} {o : HO}, off d g H7 a = some o → a ≠ tb → off d g (upd H7 tb (.dK (tkv (rows ++ [(z, V.ref p)])))) a = some o := fun {a o} h ne => by
        have h' := off_some h
        exact off_of (by rw [upd_ne ne]; exact h'.2.2) h'.1 h'.2.1
      have mv : ∀ {zz : Str} {p po pn : Addr} {t1 t2 : List (Str × V)}, PairAt (off d g H7) dots zz p po pn t1 t2 → p ≠ tb → po ≠ tb → pn ≠ tb → PairAt (off d g (upd H7 tb (.dK (tkv (rows ++ [(z, V.ref p)])))) ) dots zz p po pn t1 t2 := fun {zz p po pn t1 t2} h n1 n2 n3 => by
        have q1 := off_some h.hp
        have q2 := off_some h.ho
        have q3 := off_some h.hn
        exact ⟨off_of (by rw [upd_ne n1]; exact q1.2.2) q1.1 q1.2.1, off_of (by rw [upd_ne n2]; exact q2.2.2) q2.1 q2.2.1, off_of (by rw [upd_ne n3]; exact q3.2.2) q3.1 q3.2.1, h.o1, h.o2⟩
      have mv2 : ∀ {zz : Str} {p' po pn : Addr} {t1 t2 : List (Str × V)}, PairAt (off d g H7) dots zz p' po pn t1 t2 → p' ≠ tb → po ≠ tb → pn ≠ tb → PairAt (off d g (upd H7 tb (.dK (tkv (rows ++ [(z, V.ref p)])))) ) dots zz p' po pn t1 t2 := fun {zz p' po pn t1 t2} h n1 n2 n3 =>
        ⟨keep h.hp n1, keep h.ho n2, keep h.hn n3, h.o1, h.o2⟩
      refine ⟨_, rows ++ [(z, .ref p)], rfl, ?_, ?_, upd_same, keep g2 ntd.symm, keep g3 nte.symm, D7.mut ntb.1 ntb.2.1 ntb.2.2, off_mut (y6.trans x7) (off_free tb0)⟩
      · rw [List.map_append, hk, etake]
        rfl
      · intro q hq
        rcases List.mem_append.mp hq with hq | hq
        · obtain ⟨p', po', pn', t1', t2', e', pa, n1, n2, n3⟩ := hro q hq
          exact ⟨p', po', pn', t1', t2', e', mv2 (pa.ex x7) n1 n2 n3, n1, n2, n3⟩
        · rw [List.mem_singleton.mp hq]
          have n1 : p ≠ tb := (ne_of_none f1 w1).symm
          have n2 : po ≠ tb := (ne_of_none f1 w2).symm
          have n3 : pn ≠ tb := (ne_of_none f1 w3).symm
          exact ⟨p, po, pn, t1, t2, rfl, mv2 hpa n1 n2 n3, n1, n2, n3⟩
    · rintro σ H6 ⟨x8, rows, rfl, hk, hro, f1, f2, f3, D6, y6⟩
      rw [List.length_map, List.take_length] at hk
      have hro' : RowsOk (off d g H6) dots rows := fun q hq => by
        obtain ⟨p', po', pn', t1', t2', e', pa, _⟩ := hro q hq
        exact ⟨p', po', pn', t1', t2', e', pa⟩
      have f1' : off d g H6 tb = some (.dK (tkv rows)) := off_of f1 ntb.1 ntb.2.1
      have ddat : ∀ {Hx : Hp}, ∀ v ∈ dots.map V.str, DataV K Hx v := fun {Hx} v hv => by
        obtain ⟨z, hz, rfl⟩ := List.mem_map.mp hv
        exact nm_data (dnm z hz)
      -- begins
      refine ⟨.ref d, rfl, .ref db, rfl, d, g, c, db, dots.map V.str, rfl, D6, .inl (Evl.sq_of f2), by rw [List.length_map]; omega, ddat, fun ml ys H7 mperm D7 x7 _ hml => ?_⟩
      obtain ⟨ws, rfl, hws⟩ := perm_strs mperm
      refine ⟨.ref d, rfl, .int (1 + (b' : Int)), rfl, 3, _, rfl, _, 1, rfl, rfl, d, g, c, _, rfl, ?_, ?_, D7, fun t H8 t0 t1 D8 x8' => ?_⟩
      · by_cases h : 1 + (b' : Int) < 3
        · rw [if_pos h]; omega
        · rw [if_neg h]; omega
      · by_cases h : 1 + (b' : Int) < 3
        · rw [if_pos h]; omega
        · rw [if_neg h]; omega
      obtain ⟨t', rfl⟩ := Int.eq_ofNat_of_zero_le t0
      have m8 := off_some (x8' _ _ hml)
      refine ⟨_, rfl, ml, _, rfl, Evl.sq_of m8.2.2, fun sl2 hsl2 => ?_⟩
      rw [cut_take, ← List.map_take]
      refine ⟨sl2, ws.take t', rfl, Evl.sq_of upd_same, by rw [List.length_take, hws.length_eq]; omega, fun ss sb sperm ssort hsb => ?_⟩
      have x9 : Evl.Ex H8 (upd (upd H8 sl2 (.lst ((ws.take t').map V.str))) sb (.lst (ss.map V.str))) := (Evl.Ex.new hsl2).trans (Evl.Ex.new hsb)
      have D9 := D8.ext x9
      have nsb := (D8.new hsl2).ned hsb
      have u1 : off d g (upd (upd H8 sl2 (.lst ((ws.take t').map V.str))) sb (.lst (ss.map V.str))) sb = some (.lst (ss.map V.str)) := off_of upd_same nsb.1 nsb.2.1
      have y9 := (x7.trans x8').trans (off_ex (d := d) (g := g) x9)
      generalize upd (upd H8 sl2 (.lst ((ws.take t').map V.str))) sb (.lst (ss.map V.str)) = H9 at D9 u1 y9
      -- stops
      refine ⟨.ref d, rfl, .ref db, rfl, d, g, c, db, dots.map V.str, rfl, D9, .inl (Evl.sq_of (y9 _ _ f2)), by rw [List.length_map]; omega, ddat, fun ml2 ys2 H10 mperm2 D10 x10 _ hml2 => ?_⟩
      obtain ⟨vs2, rfl, hvs⟩ := perm_strs mperm2
      refine ⟨.ref d, rfl, by show 5 ≤ sizeLine; decide, fun l5 hl5 => ?_⟩
      have n5 := D10.ned hl5
      refine ⟨d, g, c, l5, _, rfl, D10.new hl5, Evl.sq_of (off_of upd_same n5.1 n5.2.1), by decide, by decide, fun j v H11 hv D11 x11 => ?_⟩
      obtain ⟨t5, rfl, ht5⟩ : ∃ t5 : Nat, v = .int (t5 : Int) ∧ t5 ≤ 2 := by
        match j, hv with
        | 0, hv => exact ⟨0, (Option.some.inj hv).symm, by decide⟩
        | 1, hv => exact ⟨0, (Option.some.inj hv).symm, by decide⟩
        | 2, hv => exact ⟨1, (Option.some.inj hv).symm, by decide⟩
        | 3, hv => exact ⟨1, (Option.some.inj hv).symm, by decide⟩
        | 4, hv => exact ⟨2, (Option.some.inj hv).symm, by decide⟩
        | n + 5, hv => exact absurd hv (by simp)
      have x12 := (off_ex (d := d) (g := g) (Evl.Ex.new (o := .lst [.int 0, .int 0, .int 1, .int 1, .int 2]) hl5)).trans x11
      have m11 := off_some (x12 _ _ hml2)
      refine ⟨_, rfl, ml2, _, rfl, Evl.sq_of m11.2.2, fun pb hpb => ?_⟩
      rw [cut_take, ← List.map_take]
      have npb := D11.ned hpb
      have x13 := off_ex (d := d) (g := g) (Evl.Ex.new (o := .lst ((vs2.take t5).map V.str)) hpb)
      have D13 := D11.new (o := .lst ((vs2.take t5).map V.str)) hpb
      have u2 : off d g (upd H11 pb (.lst ((vs2.take t5).map V.str))) pb = some (.lst ((vs2.take t5).map V.str)) := off_of upd_same npb.1 npb.2.1
      have z13 := (x10.trans x12).trans x13
      generalize upd H11 pb (.lst ((vs2.take t5).map V.str)) = H13 at D13 u2 x13 z13
      -- the model
      intro m hm
      have nm' := D13.ned hm
      refine ⟨.ref tb, rfl, .ref db, rfl, .ref sb, rfl, .ref pb, rfl, upd_same, mkv tb db sb pb, rfl, by show 4 ≤ 15; decide, ?_⟩
      rw [upd_upd, show mergeK [] (mkv tb db sb pb) = mkv tb db sb pb by kernel_rfl]
      have x14 := off_ex (d := d) (g := g) (Evl.Ex.new (o := .dK (mkv tb db sb pb)) hm)
      have z14 := z13.trans x14
      have z15 := y9.trans z14
      refine k m tb db sb pb ends dots ss (vs2.take t5) rows _ (D13.new hm) (y6.trans z15) ⟨off_of upd_same nm'.1 nm'.2.1, z15 _ _ f1', z15 _ _ f2, z14 _ _ u1, x14 _ _ u2, hk, hro'.ex z15, ?_⟩
      have wnd : ws.Nodup := hws.nodup_iff.mpr dnd
      have vnd : vs2.Nodup := hvs.nodup_iff.mpr dnd
      exact { e0 := by omega, e2 := by omega, en := endd, es := esort, em := ennm, d0 := by omega, d6 := by omega, dn := dnd, ds := dsort, dm := dnm, ed := edis,
              sn := sperm.nodup_iff.mpr (wnd.sublist (List.take_sublist _ _)), sss := ssort, sd := fun z hz => hws.subset (List.mem_of_mem_take (sperm.subset hz)),
              pn := vnd.sublist (List.take_sublist _ _), p2 := by rw [List.length_take]; omega, pd := fun z hz => hvs.subset (List.mem_of_mem_take hz) }
end
end Rw
end T_B9

section T_X0
set_option Elab.async false
set_option linter.all false
set_option maxRecDepth 100000
set_option maxHeartbeats 4000000
namespace Rw
open PySem L2 PyProof.Rows
theorem rest_less {H Hb H' : Hp} (x : Evl.Ex H Hb) : Evl.Ex (rest Hb H') (rest H H') := fun a o h => by
  have h' := rest_ex Hb H' a o h
  refine rest_of ?_ h'
  cases q : H a with
  | none => rfl
  | some u =>
    have := x _ _ q
    unfold rest at h
    rw [this] at h
    cases h
theorem dget_of {H : Hp} {a : Addr} {kvs : List (Key × V)} {k : Key} {v : V} (h : H a = some (.dK kvs)) (hv : valV kvs k = some v) : DGet H a (kV k) (some v) := by
  have q := DGet.k (k := k) h
  rw [hv] at q
  exact q
section
variable {P : Program} {w : World} {K : PySem.W.Frag} {mg : Str → Option Value} {base : Heap}
/-! ### the law's net of a model -/
def spNet (C : Addr) : Sp := fun vs H Q _ => ∃ (m tb db sb pb : Addr) (ends dots ss ps : List Str) (rows : List (Str × V)) (o n : Str → List (Str × V)), vs = [.ref m] ∧ ModelAt H m tb db sb pb ends dots ss ps rows ∧ RowsAt H ends dots rows o n ∧
  ∀ x H', Evl.Ex H H' → H x = none → NetAt C (rest H H') x ends dots ss ps o n → Q (.ref x) H'
theorem sc_net : FnScope ["model"] ["model"] (defScope s_net) := ⟨rfl, rfl, rfl, by decide +kernel, rfl, by decide +kernel, by decide +kernel⟩
theorem ok_net {f C fi : Addr} {fd fdi : FuncData} (F : Fun K "_law_net" "_law_net" s_net f fd) (M : Mk K C fi) (I_ : FnOk P w K mg base CX0 4 fi fdi ["self", "tables", "sources", "posts"] (spInit C)) (bi : Binds K fdi ["self", "tables", "sources", "posts"] []) (mNet : mg "Net" = some (.ref C)) :
    FnOk P w K mg base CX0 6 f fd ["model"] (spNet C) := by
  refine F.ok sc_net (fun vs H Q E h => ?_) (fun cdv A outer s H vs Q E hr h => ?_)
  · obtain ⟨m, tb, db, sb, pb, ends, dots, ss, ps, rows, o, n, rfl, _⟩ := h
    rfl
  · obtain ⟨m, tb, db, sb, pb, ends, dots, ss, ps, rows, o, n, rfl, MA, ro, k⟩ := h
    have hu := hu_of hr
    refine ⟨_, pss_one (ps_ret (pe_make M I_ hr rfl mNet bi .nil pass0 (pa_cons (pe_dget hu (pv 0) pe_str (fun _ _ => rfl)) (pa_cons (pe_dget hu (pv 0) pe_str (fun _ _ => rfl)) (pa_cons (pe_dget hu (pv 0) pe_str (fun _ _ => rfl)) pa_nil))))), ?_⟩
    refine ⟨.ref m, rfl, m, _, rfl, dget_of MA.hm (mkv_tables _ _ _ _), .ref m, rfl, m, _, rfl, dget_of MA.hm (mkv_sources _ _ _ _), .ref m, rfl, m, _, rfl, dget_of MA.hm (mkv_posts _ _ _ _), fun x dx hx hdx ne => ?_⟩
    have nb : (upd H dx (.own x)) x = none := by rw [upd_ne ne.symm]; exact hx
    have xb : Evl.Ex H (upd H dx (.own x)) := Evl.Ex.new hdx
    refine ⟨upd H dx (.own x), x, dx, tb, sb, pb, ends, dots, ss, ps, rows, o, n, rfl, nb, Evl.Ex.new nb, upd_same, xb _ _ MA.ht, .of_eq MA.rk, MA.ro.ex xb, ro.ex xb, .inl (xb _ _ MA.hs), .inl (xb _ _ MA.hp), MA.ok, fun H' x' N => ⟨rfl, ?_⟩⟩
    exact k x H' (xb.trans x') hx (N _ (rest_less xb) fun z => by rw [xb _ _ MA.hp] at z; cases z)
end
end Rw
end T_X0

section T_X1
set_option Elab.async false
set_option linter.all false
set_option maxRecDepth 100000
set_option maxHeartbeats 4000000
namespace Rw
open PySem L2 PyProof.Rows
theorem model_ne {H : Hp} {m tb db sb pb : Addr} {ends dots ss ps : List Str} {rows : List (Str × V)} (MA : ModelAt H m tb db sb pb ends dots ss ps rows) : m ≠ tb := fun e => by
  subst e
  have h1 := MA.hm.symm.trans MA.ht
  have h2 : mkv m db sb pb = tkv rows := HO.dK.inj (Option.some.inj h1)
  cases hr : rows with
  | nil => rw [hr] at h2; cases h2
  | cons q r =>
    rw [hr] at h2
    have h3 : ((Sum.inr "tables" : Key), V.ref m) = (Sum.inr q.1, q.2) := (List.cons.inj h2).1
    obtain ⟨p, _, _, _, _, e2, pa⟩ := MA.ro q (by rw [hr]; exact List.mem_cons_self)
    have h4 : V.ref m = q.2 := congrArg Prod.snd h3
    rw [e2] at h4
    have h5 : m = p := V.ref.inj h4
    subst h5
    have := pa.hp.symm.trans MA.ht
    cases this
section
variable {P : Program} {w : World} {K : PySem.W.Frag} {mg : Str → Option Value} {base : Heap}
/-! ### the law's list of nodes that change -/
def spMoves : Sp := fun vs H Q _ => ∃ (m tb db sb pb : Addr) (ends dots ss ps : List Str) (rows : List (Str × V)) (o n : Str → List (Str × V)), vs = [.ref m] ∧ ModelAt H m tb db sb pb ends dots ss ps rows ∧ RowsAt H ends dots rows o n ∧
  ∀ p H', Evl.Ex H H' → H p = none → H' p = some (.lst ((moving ends dots o n).map V.str)) → Q (.ref p) H'
abbrev nMoves : List Str := ["model", "found", "dot", "old", "new"]
theorem sc_moves : FnScope nMoves ["model"] (defScope s_moving_dots) := ⟨rfl, rfl, rfl, by decide +kernel, rfl, by decide +kernel, by decide +kernel⟩
theorem ok_moves {f : Addr} {fd : FuncData} (F : Fun K "_law_moving_dots" "_law_moving_dots" s_moving_dots f fd) : FnOk P w K mg base CX0 1 f fd ["model"] spMoves := by
  refine F.ok sc_moves (fun vs H Q E h => ?_) (fun cdv A outer s H vs Q E hr h => ?_)
  · obtain ⟨m, tb, db, sb, pb, ends, dots, ss, ps, rows, o, n, rfl, _⟩ := h
    rfl
  · obtain ⟨m, tb, db, sb, pb, ends, dots, ss, ps, rows, o, n, rfl, MA, ro, k⟩ := h
    have nd := sc_moves.nd
    have hu := hu_of hr
    refine ⟨_, pss_cons (ps_set (i := 1) nd rfl (.inl rfl) (pe_lst pa_nil))
      (pss_cons (ps_for PassesOwn.never rfl (pi_list (pe_dget hu (pv 0) pe_str (fun _ _ => rfl))) (pg_name (i := 2) nd rfl (.inr rfl))
        (pss_one (ps_if (pt_cmpR (op_neD hr.units) (pe_lock (pe_lc (own := [("old", 3), ("new", 4)]) (g := gTup K 2 (gCons (gName 3) (gCons (gName 4) gNil))) rfl nd (pi_values (pe_dget hu (pv 0) pe_str (fun _ _ => rfl))) (blkOk_by (own := [("old", 3), ("new", 4)]) (N := nMoves) (sc := defScope s_moving_dots) (by decide +kernel))
            (fun _ _ _ _ _ => pg_tup rfl (pgs_cons (pg_name (i := 3) nd rfl (Or.inl rfl)) (pgs_cons (pg_name (i := 4) nd rfl (Or.inl rfl)) pgs_nil)))
            (fun _ _ _ _ _ => pts_one (pt_cmpR op_ne (pe_dget hu (pv 3) (pv 2) (fun _ _ => rfl)) (pe_dget hu (pv 4) (pv 2) (fun _ _ => rfl)) (nomark _))) (fun _ _ _ _ _ => pe_int))) (pe_lst pa_nil) (nomark _))
          (pss_one (ps_expr (pe_bm PySem.F.plainAttrs_list PySem.F.slot_list_append PySem.F.type_list_append mt_append (pv 1) (pa_cons (pv 2) pa_nil)))) pss_nil)))
      (pss_one (ps_ret (pv 1)))), ?_⟩
    have ok := MA.ok
    have e2 := ok.e2
    have d6 := ok.d6
    have hk := MA.rk
    have rl : rows.length = ends.length := by rw [← hk, List.length_map]
    have rne : rows ≠ [] := fun z => by
      have := ok.e0
      rw [z] at rl
      simp at rl
      omega
    have nmt := model_ne MA
    refine ⟨Nat.zero_le _, fun f hf => ?_⟩
    have x0 : Evl.Ex H (upd H f (.lst [])) := Evl.Ex.new hf
    have f0 : (upd H f (.lst [])) f = some (.lst []) := upd_same
    generalize upd H f (.lst []) = H0 at x0 f0
    refine ⟨.ref m, rfl, m, _, rfl, dget_of (x0 _ _ MA.hm) (mkv_dots _ _ _ _), db, rfl, ⟨_, Evl.sq_of (x0 _ _ MA.hd)⟩, for_list (K := K) (a := db) (xs := dots.map V.str)
      (fun i σ H' => ∃ (x2 : Option V), σ = [some (.ref m), some (.ref f), x2, none, none] ∧ i ≤ dots.length ∧ Evl.Ex H H' ∧ H' f = some (.lst ((moving ends (dots.take i) o n).map V.str)))
      ⟨none, rfl, Nat.zero_le _, x0, f0⟩ (fun i σ H' _ ⟨_, _, _, h, _⟩ => Evl.sq_of (h _ _ MA.hd)) ?_ ?_⟩
    · rintro i y σ H3 hi ⟨x2, rfl, _, x3, f3⟩
      obtain ⟨z, hz, rfl⟩ := str_at hi
      have hil : i < dots.length := (List.getElem?_eq_some_iff.mp hz).1
      have zd := List.mem_of_getElem? hz
      have et : moving ends (dots.take (i + 1)) o n = moving ends (dots.take i) o n ++ if (diffB ends o n z).any id then [z] else [] := by
        unfold moving
        rw [List.take_add_one, hz, List.filter_append]
        show _ ++ List.filter _ [z] = _
        rw [List.filter_cons]
        rfl
      have dl : (moving ends (dots.take i) o n).length ≤ 100 := Nat.le_trans (List.length_filter_le _ _) (by rw [List.length_take]; omega)
      refine ⟨tb, .dK (tkv rows), x3 _ _ MA.ht, trivial, fun od => ?_⟩
      have locked : (upd H3 tb (.frz od (.dK (tkv rows)))) tb = some (.frz od (.dK (tkv rows))) := upd_same
      have up : ∀ {a : Addr} {u : HO}, H a = some u → a ≠ tb → (upd H3 tb (.frz od (.dK (tkv rows)))) a = some u := fun {a u} h ne => by rw [upd_ne ne]; exact x3 _ _ h
      have nft : f ≠ tb := (ne_of_none MA.ht hf).symm
      have fL : (upd H3 tb (.frz od (.dK (tkv rows)))) f = some (.lst ((moving ends (dots.take i) o n).map V.str)) := by rw [upd_ne nft]; exact f3
      have back : ∀ {H4 : Hp}, Evl.Ex (upd H3 tb (.frz od (.dK (tkv rows)))) H4 → Evl.Ex H3 (upd H4 tb (.dK (tkv rows))) := fun {H4} e a u h => by
        by_cases q : a = tb
        · subst q
          rw [upd_same, ← x3 _ _ MA.ht, h]
        · rw [upd_ne q]
          exact e _ _ (by rw [upd_ne q]; exact h)
      generalize upd H3 tb (.frz od (.dK (tkv rows))) = HL at locked up fL back
      refine ⟨.ref m, rfl, m, _, rfl, dget_of (up MA.hm nmt) (mkv_tables _ _ _ _), tb, od, _, rfl, locked, fun D hD => lc_it walk_values
        (fun j H' => j ≤ ends.length ∧ Evl.Ex HL H' ∧ ∃ ns : List Int, H' D = some (.lst (ns.map V.int)) ∧ ns.length ≤ j ∧ ns.isEmpty = !(diffB (ends.take j) o n z).any id) ⟨Nat.zero_le _, Evl.Ex.new hD, [], upd_same, Nat.le_refl _, rfl⟩ (fun j H' _ h => h.2.1 _ _ locked) ?_ ?_⟩
      · rintro j x H4 H4' hj ⟨_, x4, ns, d4, nl, ne4⟩ ⟨rfl, kk, hkk⟩
        rw [tkv_len, rl] at hj
        have gj : ends[j]? = some ends[j] := List.getElem?_eq_getElem hj
        obtain ⟨p, po, pn, hv, pa⟩ := ro ends[j] (List.getElem_mem hj)
        have ex : x = .ref p := by
          have h1 := tkv_at hk ok.en gj hv
          rw [List.getElem?_map, hkk] at h1
          exact Option.some.inj h1
        subst ex
        have n1 : p ≠ tb := ne_of pa.hp MA.ht (by intro z; cases z)
        have n2 : po ≠ tb := tab_ne MA.ht MA.ro rne pa.ho pa.o1
        have n3 : pn ≠ tb := tab_ne MA.ht MA.ro rne pa.hn pa.o2
        have c1 := look_ok pa.o1 zd
        have c2 := look_ok pa.o2 zd
        have g1 : DGet H4' po (.str z) (some (look (o ends[j]) z)) := dget_of (k := Sum.inr z) (x4 _ _ (up pa.ho n2)) c1.2
        have g2 : DGet H4' pn (.str z) (some (look (n ends[j]) z)) := dget_of (k := Sum.inr z) (x4 _ _ (up pa.hn n3)) c2.2
        have et2 : diffB (ends.take (j + 1)) o n z = diffB (ends.take j) o n z ++ [!decide (look (o ends[j]) z = look (n ends[j]) z)] := by
          rw [List.take_add_one, gj]
          exact diffB_snoc _ _ _ _ _
        refine ⟨p, _, rfl, Evl.st_of (x4 _ _ (up pa.hp n1)), rfl, _, _, rfl, _, [], rfl, rfl, rfl, ?_⟩
        refine ⟨.ref po, rfl, .str z, rfl, po, _, rfl, g1, .ref pn, rfl, .str z, rfl, pn, _, rfl, g2, scal_place c1.1 c2.1, _, rfl, ?_⟩
        by_cases q : look (o ends[j]) z = look (n ends[j]) z
        · rw [decide_eq_true q] at et2 ⊢
          refine iteF ⟨hj, x4, ns, d4, by omega, ?_⟩
          rw [et2, ne4, List.any_append]
          simp
        · rw [decide_eq_false q] at et2 ⊢
          refine iteT ⟨_, d4, by rw [List.length_map]; exact small1000 (by omega), hj, x4.mut hD, ns ++ [1], ?_, by simp; omega, ?_⟩
          · rw [upd_same, List.map_append]
            rfl
          · rw [et2, List.any_append]
            simp
      · rintro H4 ⟨_, x4, ns, d4, nl, ne4⟩
        rw [tkv_len, rl, List.take_length] at ne4
        rw [tkv_len, rl] at nl
        refine ⟨x4 _ _ locked, ?_⟩
        have nDt : D ≠ tb := (ne_of_none locked hD).symm
        have x5 := back x4
        have d5 : (upd H4 tb (.dK (tkv rows))) D = some (.lst (ns.map V.int)) := by rw [upd_ne nDt]; exact d4
        generalize upd H4 tb (.dK (tkv rows)) = H5 at x5 d5
        refine ⟨Nat.zero_le _, fun p hp => ?_⟩
        have x6 : Evl.Ex H5 (upd H5 p (.lst [])) := Evl.Ex.new hp
        obtain ⟨dd, g1, g2, g3⟩ := data_list (K := K) (Evl.sq_of (x6 _ _ d5)) fun v hv => by
          obtain ⟨i, _, rfl⟩ := List.mem_map.mp hv
          exact ⟨.int i, .int i, rfl, Nat.zero_le _⟩
        refine ⟨dd, .list [], g1, .lst (Evl.sq_of upd_same) .nil, g2, by rfl, _, rfl, ?_⟩
        rw [g3, show (ns.map V.int).isEmpty = ns.isEmpty by cases ns <;> rfl, ne4, Bool.not_not]
        have x7 := x5.trans x6
        have f7 := x7 _ _ f3
        generalize upd H5 p (.lst []) = H7 at x7 f7
        by_cases q : (diffB ends o n z).any id = true
        · rw [q] at et ⊢
          refine iteT ?_
          refine ⟨.ref f, rfl, .inl ⟨rfl, _, Evl.sq_of f7⟩, .str z, rfl, f, _, _, rfl, rfl, f7, by rw [List.length_map]; exact small1000 (by omega), ?_⟩
          refine ⟨_, rfl, hil, (x3.trans x7).mut hf, ?_⟩
          rw [upd_same, et, List.map_append]
          rfl
        · have q' : (diffB ends o n z).any id = false := by cases h : (diffB ends o n z).any id with | true => exact absurd h q | false => rfl
          rw [q'] at et ⊢
          refine iteF ?_
          refine ⟨_, rfl, hil, x3.trans x7, ?_⟩
          rw [f7, et]
          simp
    · rintro σ H3 ⟨x2, rfl, _, x3, f3⟩
      rw [List.length_map, List.take_length] at f3
      exact ⟨.ref f, rfl, k f H3 x3 hf f3⟩
end
end Rw
end T_X1

section T_X4
set_option Elab.async false
set_option linter.all false
set_option maxRecDepth 100000
set_option maxHeartbeats 4000000
namespace Rw
open PySem L2 PyProof.Rows
section
variable {P : Program} {w : World} {K : PySem.W.Frag} {mg : Str → Option Value} {base : Heap}
/-! ### the law's lot and round -/
def spLots : Sp := fun vs H Q _ => ∃ (d g c m tb db sb pb : Addr) (ends dots ss ps : List Str) (rows : List (Str × V)) (o n : Str → List (Str × V)), vs = [.ref d, .ref m] ∧ DrawAt H d g c ∧ ModelAt (off d g H) m tb db sb pb ends dots ss ps rows ∧ RowsAt (off d g H) ends dots rows o n ∧
  ∀ (p a b : Addr) (zs ys : List Str) (H' : Hp), DrawAt H' d g c → Evl.Ex (off d g H) (off d g H') → off d g H' p = some (.tup [.ref a, .ref b]) → LotAt (off d g H') a zs (moving ends dots o n) → LotAt (off d g H') b ys (moving ends dots o n) → (∀ y ∈ ys, y ∉ zs) → Q (.ref p) H'
abbrev nLots : List Str := ["draw", "model", "some", "at", "rest", "size"]
theorem sc_lots : FnScope nLots ["draw", "model"] (defScope s_round) := ⟨rfl, rfl, rfl, by decide +kernel, rfl, by decide +kernel, by decide +kernel⟩
theorem ok_lots {f : Addr} {fd : FuncData} (F : Fun K "_law_round" "_law_round" s_round f fd) (CT : Cal P w K mg base 2 "_law_take" ["draw", "size"] spTake) (CP : Cal P w K mg base 3 "_law_pick" ["draw", "some"] (spPickL K)) (CM : Cal P w K mg base 3 "_law_mixed" ["draw", "some"] (spMixed K)) (CV : Cal P w K mg base 1 "_law_moving_dots" ["model"] spMoves)
    (mLen : mg "len" = none) (mTup : mg "tuple" = none) (mSorted : mg "sorted" = none) : FnOk P w K mg base CX0 4 f fd ["draw", "model"] spLots := by
  obtain ⟨fT, fdT, T, kT, bT, gT⟩ := CT.ex
  obtain ⟨fP, fdP, PL, kP, bP, gP⟩ := CP.ex
  obtain ⟨fM, fdM, M, kM, bM, gM⟩ := CM.ex
  obtain ⟨fV, fdV, MV, kV', bV, gV⟩ := CV.ex
  refine F.ok sc_lots (fun vs H Q E h => ?_) (fun cdv A outer s H vs Q E hr h => ?_)
  · obtain ⟨d, g, c, m, tb, db, sb, pb, ends, dots, ss, ps, rows, o, n, rfl, _⟩ := h
    rfl
  · obtain ⟨d, g, c, m, tb, db, sb, pb, ends, dots, ss, ps, rows, o, n, rfl, D, MA, ro, k⟩ := h
    have nd := sc_lots.nd
    have hr2 : Room 2 _ := hr.mono (by decide)
    have hr1 : Room 1 _ := hr.mono (by decide)
    refine ⟨_, pss_cons (ps_set (i := 2) nd rfl (.inl rfl) (pe_call M hr rfl gM kM bM .nil pass0 (pa_cons (pv 0) (pa_cons (pe_call MV hr1 rfl gV kV' bV .nil pass0 (pa_cons (pv 1) pa_nil)) pa_nil))))
      (pss_cons (ps_set (i := 3) nd rfl (.inl rfl) (pe_call T hr2 rfl gT kT bT .nil pass0 (pa_cons (pv 0) (pa_cons (pe_op op_add (pe_callB call_len (by rfl) mLen PySem.boot_len (pa_cons (pv 2) pa_nil)) pe_int) pa_nil))))
      (pss_cons (ps_set (i := 4) nd rfl (.inl rfl) (pe_slice sl_list (pv 2) (po_some (pv 3)) po_none))
      (pss_cons (ps_set (i := 5) nd rfl (.inl rfl) (pe_call PL hr rfl gP kP bP .nil pass0 (pa_cons (pv 0) (pa_cons (pe_lst (pa_cons (pe_callB call_len (by rfl) mLen PySem.boot_len (pa_cons (pv 4) pa_nil))
          (pa_cons (pe_call T hr2 rfl gT kT bT .nil pass0 (pa_cons (pv 0) (pa_cons (pe_op op_add (pe_callB call_len (by rfl) mLen PySem.boot_len (pa_cons (pv 4) pa_nil)) pe_int) pa_nil))) pa_nil))) pa_nil))))
      (pss_one (ps_ret (pe_tup (pa_cons (pe_callTy call_tuple_of (by rfl) mTup (by decide +kernel) (pa_cons (pe_callB cr_sortedS (by rfl) mSorted (by decide +kernel) (pa_cons (pe_slice sl_list (pv 2) po_none (po_some (pv 3))) pa_nil)) pa_nil))
        (pa_cons (pe_callTy call_tuple_of (by rfl) mTup (by decide +kernel) (pa_cons (pe_callB cr_sortedS (by rfl) mSorted (by decide +kernel) (pa_cons (pe_slice sl_list (pv 4) po_none (po_some (pv 5))) pa_nil)) pa_nil)) pa_nil)))))))), ?_⟩
    have ok := MA.ok
    have d6 := ok.d6
    have mvl : (moving ends dots o n).length ≤ 6 := Nat.le_trans (List.length_filter_le _ _) d6
    have mvd : ∀ z ∈ moving ends dots o n, z ∈ dots := fun z hz => (List.mem_filter.mp hz).1
    have mvn : (moving ends dots o n).Nodup := ok.dn.sublist List.filter_sublist
    -- some
    refine ⟨.ref d, rfl, .ref m, rfl, m, tb, db, sb, pb, ends, dots, ss, ps, rows, o, n, rfl, MA.ex (ex_off d g H), ro.ex (ex_off d g H), fun p H1 x1 hp hp1 => ?_⟩
    have D1 := D.ext x1
    have np := D.ned hp
    refine ⟨d, g, c, p, _, rfl, D1, .inl (Evl.sq_of (off_of hp1 np.1 np.2.1)), by rw [List.length_map]; omega, fun v hv => ?_, fun l vs H2 perm D2 x2 hl hl2 => ?_⟩
    · obtain ⟨z, hz, rfl⟩ := List.mem_map.mp hv
      exact nm_data (ok.dm z (mvd z hz))
    obtain ⟨ws, rfl, wp⟩ := perm_strs perm
    have wl : ws.length ≤ 6 := by rw [wp.length_eq]; exact mvl
    have wn : ws.Nodup := wp.nodup_iff.mpr mvn
    have x02 := (off_ex (d := d) (g := g) x1).trans x2
    -- at
    refine ⟨.ref d, rfl, .ref l, rfl, .ref l, (ws.map V.str).length, rfl, .inl ⟨_, Evl.sq_of (off_some hl2).2.2, rfl⟩, _, 1, rfl, rfl, ?_⟩
    rw [List.length_map]
    refine ⟨d, g, c, _, rfl, by omega, by omega, D2, fun at_ H3 a0 a1 D3 x3 => ?_⟩
    obtain ⟨a', rfl⟩ := Int.eq_ofNat_of_zero_le a0
    have hl3 := x3 _ _ hl2
    -- rest
    refine ⟨.ref l, rfl, .int (a' : Int), rfl, _, rfl, l, _, rfl, Evl.sq_of (off_some hl3).2.2, fun r hr0 => ?_⟩
    rw [cut_drop, ← List.map_drop]
    have D4 := D3.new (o := .lst ((ws.drop a').map V.str)) hr0
    have nr := D3.ned hr0
    have x4 : Evl.Ex H3 (upd H3 r (.lst ((ws.drop a').map V.str))) := Evl.Ex.new hr0
    have r4 : off d g (upd H3 r (.lst ((ws.drop a').map V.str))) r = some (.lst ((ws.drop a').map V.str)) := off_of upd_same nr.1 nr.2.1
    generalize upd H3 r (.lst ((ws.drop a').map V.str)) = H4 at D4 x4 r4
    have l4 := off_ex (d := d) (g := g) x4 _ _ hl3
    have dl : (ws.drop a').length ≤ 6 := by rw [List.length_drop]; omega
    -- size
    refine ⟨.ref d, rfl, .ref r, rfl, .ref r, ((ws.drop a').map V.str).length, rfl, .inl ⟨_, Evl.sq_of (off_some r4).2.2, rfl⟩, .ref d, rfl, .ref r, rfl, .ref r, ((ws.drop a').map V.str).length, rfl, .inl ⟨_, Evl.sq_of (off_some r4).2.2, rfl⟩, _, 1, rfl, rfl, ?_⟩
    rw [List.length_map]
    refine ⟨d, g, c, _, rfl, by omega, by omega, D4, fun b_ H5 b0 b1 D5 x5 => ?_⟩
    obtain ⟨b', rfl⟩ := Int.eq_ofNat_of_zero_le b0
    refine ⟨by show 2 ≤ sizeLine; decide, fun t ht => ?_⟩
    have nt := D5.ned ht
    have D6 := D5.new (o := .lst [.int ((ws.drop a').length : Int), .int (b' : Int)]) ht
    have x6 : Evl.Ex H5 (upd H5 t (.lst [.int ((ws.drop a').length : Int), .int (b' : Int)])) := Evl.Ex.new ht
    have t6 : off d g (upd H5 t (.lst [.int ((ws.drop a').length : Int), .int (b' : Int)])) t = some (.lst [.int ((ws.drop a').length : Int), .int (b' : Int)]) := off_of upd_same nt.1 nt.2.1
    generalize upd H5 t (.lst [.int ((ws.drop a').length : Int), .int (b' : Int)]) = H6 at D6 x6 t6
    refine ⟨d, g, c, t, _, rfl, D6, Evl.sq_of t6, by show 0 < 2; decide, by show 2 < 2 ^ 30; decide, fun i v H7 hi D7 x7 => ?_⟩
    obtain ⟨s', rfl⟩ : ∃ s' : Nat, v = .int (s' : Int) := by
      match i, hi with
      | 0, hi => exact ⟨_, (Option.some.inj hi).symm⟩
      | 1, hi => exact ⟨_, (Option.some.inj hi).symm⟩
      | (j + 2), hi => cases hi
    have x47 : Evl.Ex (off d g H4) (off d g H7) := x5.trans ((off_ex x6).trans x7)
    have l7 := x47 _ _ l4
    have r7 := x47 _ _ r4
    -- (tuple(sorted(some[:at])), tuple(sorted(rest[:size])))
    refine ⟨.ref l, rfl, _, rfl, _, rfl, l, _, rfl, Evl.sq_of (off_some l7).2.2, fun q1 hq1 => ?_⟩
    rw [cut_take, ← List.map_take]
    refine ⟨q1, ws.take a', rfl, Evl.sq_of upd_same, by rw [List.length_take]; omega, fun us q2 up us_s hq2 => ⟨q2, us.map V.str, rfl, .inl ⟨Evl.sq_of upd_same, fun q3 hq3 => ?_⟩⟩⟩
    have y1 : Evl.Ex H7 (upd (upd (upd H7 q1 (.lst ((ws.take a').map V.str))) q2 (.lst (us.map V.str))) q3 (.tup (us.map V.str))) := (Evl.Ex.new hq1).trans ((Evl.Ex.new hq2).trans (Evl.Ex.new hq3))
    have e3 : (upd (upd (upd H7 q1 (.lst ((ws.take a').map V.str))) q2 (.lst (us.map V.str))) q3 (.tup (us.map V.str))) q3 = some (.tup (us.map V.str)) := upd_same
    have D8 := D7.ext y1
    have n3 := ((D7.new (o := .lst ((ws.take a').map V.str)) hq1).new (o := .lst (us.map V.str)) hq2).ned hq3
    generalize upd (upd (upd H7 q1 (.lst ((ws.take a').map V.str))) q2 (.lst (us.map V.str))) q3 (.tup (us.map V.str)) = H8 at y1 e3 D8
    have r8 := off_ex (d := d) (g := g) y1 _ _ r7
    refine ⟨.ref r, rfl, _, rfl, _, rfl, r, _, rfl, Evl.sq_of (off_some r8).2.2, fun q4 hq4 => ?_⟩
    rw [cut_take, ← List.map_take]
    refine ⟨q4, (ws.drop a').take s', rfl, Evl.sq_of upd_same, by rw [List.length_take]; omega, fun vs' q5 vp vs_s hq5 => ⟨q5, vs'.map V.str, rfl, .inl ⟨Evl.sq_of upd_same, fun q6 hq6 => ?_⟩⟩⟩
    have y2 : Evl.Ex H8 (upd (upd (upd H8 q4 (.lst (((ws.drop a').take s').map V.str))) q5 (.lst (vs'.map V.str))) q6 (.tup (vs'.map V.str))) := (Evl.Ex.new hq4).trans ((Evl.Ex.new hq5).trans (Evl.Ex.new hq6))
    have e6 : (upd (upd (upd H8 q4 (.lst (((ws.drop a').take s').map V.str))) q5 (.lst (vs'.map V.str))) q6 (.tup (vs'.map V.str))) q6 = some (.tup (vs'.map V.str)) := upd_same
    have D9 := D8.ext y2
    have n6 := ((D8.new (o := .lst (((ws.drop a').take s').map V.str)) hq4).new (o := .lst (vs'.map V.str)) hq5).ned hq6
    generalize upd (upd (upd H8 q4 (.lst (((ws.drop a').take s').map V.str))) q5 (.lst (vs'.map V.str))) q6 (.tup (vs'.map V.str)) = H9 at y2 e6 D9
    refine ⟨by show 2 ≤ sizeLine; decide, fun q7 hq7 => ?_⟩
    have n7 := D9.ned hq7
    have y3 : Evl.Ex H9 (upd H9 q7 (.tup [.ref q3, .ref q6])) := Evl.Ex.new hq7
    have whole : Evl.Ex (off d g H) (off d g (upd H9 q7 (.tup [.ref q3, .ref q6]))) :=
      x02.trans (x3.trans ((off_ex x4).trans (x47.trans (off_ex (y1.trans (y2.trans y3))))))
    have tsub : ∀ z ∈ ws.take a', z ∈ moving ends dots o n := fun z hz => wp.subset (List.mem_of_mem_take hz)
    have dsub : ∀ z ∈ (ws.drop a').take s', z ∈ ws.drop a' := fun z hz => List.mem_of_mem_take hz
    have dsub2 : ∀ z ∈ (ws.drop a').take s', z ∈ moving ends dots o n := fun z hz => wp.subset (List.mem_of_mem_drop (dsub z hz))
    have dis : ∀ z ∈ ws.take a', z ∉ ws.drop a' := fun z h1 h2 => by
      have h3 : (ws.take a' ++ ws.drop a').Nodup := by rw [List.take_append_drop]; exact wn
      exact (List.nodup_append.mp h3).2.2 z h1 z h2 rfl
    refine k q7 q3 q6 us vs' _ (D9.new hq7) whole (off_of upd_same n7.1 n7.2.1) ?_ ?_ ?_
    · refine ⟨off_of ((y2.trans y3) _ _ e3) n3.1 n3.2.1, fun z hz => tsub z (up.subset hz), up.nodup_iff.mpr (wn.sublist (List.take_sublist _ _)), us_s, fun z hz => ok.dm z (mvd z (tsub z (up.subset hz))), ?_⟩
      rw [up.length_eq, List.length_take]
      omega
    · refine ⟨off_of (y3 _ _ e6) n6.1 n6.2.1, fun z hz => dsub2 z (vp.subset hz), vp.nodup_iff.mpr ((wn.sublist (List.drop_sublist _ _)).sublist (List.take_sublist _ _)), vs_s, fun z hz => ok.dm z (mvd z (dsub2 z (vp.subset hz))), ?_⟩
      rw [vp.length_eq, List.length_take]
      omega
    · exact fun y hy hz => dis y (up.subset hz) (dsub y (vp.subset hy))
end
end Rw
end T_X4

section T_G0
set_option Elab.async false
set_option linter.all false
set_option maxRecDepth 100000
set_option maxHeartbeats 2000000
namespace Rw
open PySem PySem.Spec L2 PyProof.Rows
/-! ### repr of data -/
def rRepr (K : PySem.W.Frag) : List V → Hp → VK → Prop := fun xs H Q => ∃ (a : Addr) (d : PyData), xs = [.ref a] ∧ Dp K H (.ref a) d ∧ d.showable = true ∧ d.hasDict = false ∧ d.depth ≤ 64 ∧ d.shown.length ≤ sizeLine ∧ Q (.str d.shown) H
theorem call_reprD {X : Cx} (hg : X.A.guards = some []) (hu : X.A.units + 70 < cLine) : CallR X (.builtin "repr") (rRepr X.K) := by
  intro pins s σ H xs us Q I r h
  obtain ⟨a, d, rfl, hd, h1, h2, h3, h4, q⟩ := h
  obtain ⟨u, rfl, ru⟩ := vals1 r
  obtain ⟨as, rd⟩ := Dp.reads I d (.ref a) u hd ru
  cases ru
  refine repr_of_reads' rd h1 (fun z => by rw [h2] at z; cases z) hg (by omega) (fun _ _ e => e) (fun h' v tk keep => ?_) h4
  exact ⟨.str d.shown, H, Inv.kept I keep, ⟨_, rfl⟩, q⟩
/-! ### defs that are called where no repr is under way -/
structure FnG (P : Program) (w : World) (K : PySem.W.Frag) (mg : Str → Option Value) (base : Heap) (CX : CXT) (k : Nat) (f : Addr) (fd : FuncData) (ps : List Str) (sp : Sp) : Prop where
  many : ∀ vs H Q E, sp vs H Q E → vs.length = ps.length
  goes : ∀ (A : Around) (outer : List Env) (s : Shared) (H : Hp) (args : Args) (us : List Value) (vs : List V) (Q : VK) (E : XK), A.guards = some [] → Room k A → Env0 P w K mg base A outer s H →
    BindsTo s fd args (ps.zip us) → Vals vs us → sp vs H Q E → codeAny (model P w) A (.call (.ref f) args) (CR CX outer P w H s Q E) s
section
variable {P : Program} {w : World} {K : PySem.W.Frag} {mg : Str → Option Value} {base : Heap} {CX : CXT} {k : Nat} {f : Addr} {fd : FuncData} {ps : List Str} {sp : Sp}
theorem FnG.of (F : FnOk P w K mg base CX k f fd ps sp) : FnG P w K mg base CX k f fd ps sp :=
  ⟨F.len, fun A o s H ar us vs Q E _ => F.run A o s H ar us vs Q E⟩
/-- a def by its body -/
theorem Fun.okG {x qual : Str} {st : Stmt} {N : List Str} (F : Fun K x qual st f fd) (S : FnScope N ps (defScope st)) (len : ∀ vs H Q E, sp vs H Q E → vs.length = ps.length)
    (body : ∀ (cv : Value) (A : Around) (outer : List Env) (s : Shared) (H : Hp) (vs : List V) (Q : VK) (E : XK), (A.deeper (envOfC qual (defScope st) s.heap.objs.size f cv)).guards = some [] →
      Room k (A.deeper (envOfC qual (defScope st) s.heap.objs.size f cv)) → sp vs H Q E →
      ∃ t, PSs (cxOf CX P w K mg base N qual (defScope st) f cv A outer s H E) (defBody st) t ∧ t { nx := fun _ H' => Q .non H', rt := Q } (L2.start N vs) H) : FnG P w K mg base CX (k + 1) f fd ps sp := by
  obtain ⟨_, _, _, _, _, _, cv, _, _, rfl, at_f, code_f⟩ := F.ex
  constructor
  · exact len
  · intro A outer s H ar us vs Q E guard room here bound rel prom
    have n_of := len _ _ _ _ prom
    have known : K.In s.heap := here.mod.kin.keeps fun b o e => (here.bs b o e).1
    have nolim : s.heap.NoLimit := here.mod.nolimit.keeps fun b o e => (here.bs b o e).1
    have slots : ∀ y ∈ ps.zip us, (defScope st).names.lookup y.1 = some .local ∨ ((defScope st).names.lookup y.1 = some .cell ∧ ((cellsFrom (s.heap.objs.size + 1) (defScope st).names []).lookup y.1).isSome = true) := by
      rintro ⟨m, u⟩ hy
      cases S.par m (List.of_mem_zip hy).1 with
      | inl q => exact .inl q
      | inr q => exact .inr ⟨q, PySem.W.cellsFrom_some _ _ _ (.inl q)⟩
    refine codeAny_call_function room.depth (known _ _ at_f) rfl S.co S.gen rfl (PySem.W.codeRec_of known code_f)
      (bound _ _ _ _ ?_)
    refine wpAny_newFunctionEnv_cells S.kind slots fun env isEnv s1 made => ?_
    subst isEnv
    refine ⟨nolim.keeps made.toInCall.keep, codeAny_func ?_⟩
    obtain ⟨t, term, reading⟩ := body cv A outer s H vs Q E guard (room.deeper _) prom
    have inv := inv_start (CX := CX) (E := E) S room.hd here n_of rel made
    refine wpAny_mono (term.run [] s1 (L2.start N vs) H _ inv reading) (fun out s' got => ?_) fun _ _ got => got
    cases out with
    | brk =>
      obtain ⟨_, _, _, no⟩ := got
      exact no.elim
    | cont =>
      obtain ⟨_, _, _, no⟩ := got
      exact no.elim
    | next =>
      obtain ⟨_, H', J, q⟩ := got
      exact ⟨V.non, H', J.os, J.bare, J.base, J.hok, rfl, q⟩
    | ret u =>
      obtain ⟨v, _, H', J, rv, q⟩ := got
      exact ⟨v, H', J.os, J.bare, J.base, J.hok, rv, q⟩
end
section
variable {X : Cx} {CX : CXT} {k : Nat} {f : Addr} {fd : FuncData} {ps : List Str} {sp : Sp} {dvs : List V} {ds : List Value} {E : XK} {x : Str} {p pos : Pos} {e : Expr} {es : List Expr} {t : TA}
/-- f(e, ..), f such a def -/
theorem pe_callG (guard : X.A.guards = some []) (F : FnG X.prog X.w X.K X.mg X.base CX k f fd ps sp) (room : Room k X.A) (glob : Gl X x) (at_x : X.mg x = some (.ref f)) (kept : PySem.W.keepIn X.K (.ref f) = true) (bind : Binds X.K fd ps ds) (dflt : Vals dvs ds) (pass : Passes CX X E)
    (args : PA X (e :: es) t) (nodebug : (x == ("__debug__" : Str)) = false := by decide) (first : starEach (e :: es) X.env = (false, eval e X.env) :: starEach es X.env := by rfl) (plain : (backTo pos (starEach es X.env)).any (·.1) = false := by rfl) :
    PE X (.Call (.Name x p) (e :: es) [] pos) (tCall sp dvs E t) := by
  constructor
  intro pins s σ H Q I reading
  refine wpAny_Call_Name_kw (ld_glob I glob at_x ?_ nodebug)
  refine PySem.W.callWith_K (h₀ := X.base) I.ok.mod.kin kept (thn (args.run pos pins s σ H _ I reading) ?_) first plain
  rintro us s1 ⟨vs, H1, I1, rel, prom⟩
  refine ⟨I1.kIn, ?_⟩
  have rel2 : Vals (vs ++ dvs) (us ++ ds) := rel.append dflt
  have n_of : (us ++ ds).length = ps.length := rel2.length.symm.trans (F.many _ _ _ _ prom)
  have ran := F.goes X.A X.stack s1 H1 ⟨us, []⟩ (us ++ ds) (vs ++ dvs) Q E guard room I1.env0 (bind s1 us I1.kIn n_of) rel2 prom
  refine wpAny_call (codeAny_mono ran fun out s2 got => ?_)
  match out, got with
  | .error e, got => exact pass pins σ H1 s1 e s2 I1 got
  | .ok (.ret u), got => exact I1.after got
  | .ok .next, got => exact got.elim
  | .ok .brk, got => exact got.elim
  | .ok .cont, got => exact got.elim
end
end Rw
end T_G0

section T_X5
set_option Elab.async false
set_option linter.all false
set_option maxRecDepth 100000
set_option maxHeartbeats 4000000
namespace Rw
open PySem L2 PyProof.Rows
/-! ### rows of places are shown -/
theorem spots_data : ∀ W : List V, (∀ v ∈ W, Spot v) → ∃ ds : List PyData, (∀ (K : PySem.W.Frag) (H : Hp), DpAll K H W ds) ∧ PyData.canLayAll0 ds = true ∧ PyData.depthAll ds = 0 ∧ PyData.weightAll ds ≤ 7 * W.length ∧ PyData.intsShortAll 13 ds = true ∧ PyData.showableAll ds = true
  | [], _ => ⟨[], fun _ _ => .nil, rfl, rfl, Nat.zero_le _, rfl, rfl⟩
  | v :: W, h => by
    obtain ⟨ds, g1, g2, g3, g4, g5, g6⟩ := spots_data W fun u hu => h u (List.mem_cons_of_mem _ hu)
    rcases h v List.mem_cons_self with rfl | ⟨z, rfl, hz⟩
    · refine ⟨.none :: ds, fun K H => .cons .non (g1 K H), ?_, ?_, ?_, ?_, ?_⟩
      · show (true && PyData.canLayAll0 ds) = true
        rw [g2]
        rfl
      · show max 0 (PyData.depthAll ds) = 0
        rw [g3]
        rfl
      · show 0 + 1 + PyData.weightAll ds ≤ 7 * (W.length + 1)
        omega
      · show (PyData.intsShort 13 .none && PyData.intsShortAll 13 ds) = true
        rw [g5]
        rfl
      · show (true && PyData.showableAll ds) = true
        rw [g6]
        rfl
    · have zl := nm_len hz
      refine ⟨.str z :: ds, fun K H => .cons (.str z) (g1 K H), ?_, ?_, ?_, ?_, ?_⟩
      · show (PyData.strOk z && PyData.canLayAll0 ds) = true
        rw [g2, nm_ok hz]
        rfl
      · show max 0 (PyData.depthAll ds) = 0
        rw [g3]
        rfl
      · show z.cps.size + 1 + PyData.weightAll ds ≤ 7 * (W.length + 1)
        have : z.cps.size ≤ 6 := zl
        omega
      · show (PyData.intsShort 13 (.str z) && PyData.intsShortAll 13 ds) = true
        rw [g5]
        rfl
      · show (true && PyData.showableAll ds) = true
        rw [g6]
        rfl
theorem spots_repr (W : List V) (h : ∀ v ∈ W, Spot v) (few : W.length ≤ 1000) : ∃ d : PyData, (∀ {K : PySem.W.Frag} {H : Hp} {a : Addr}, H a = some (.lst W) → Dp K H (.ref a) d) ∧ d.showable = true ∧ d.hasDict = false ∧ d.depth ≤ 64 ∧ d.shown.length ≤ sizeLine := by
  obtain ⟨ds, g1, g2, g3, g4, g5, g6⟩ := spots_data W h
  have lay : PyData.canLay0 (.list ds) = true := g2
  have dep : PyData.depth (.list ds) = 1 := by rw [show PyData.depth (.list ds) = PyData.depthAll ds + 1 from rfl, g3]
  refine ⟨.list ds, fun {K H a} ha => .lst (Evl.sq_of ha) (g1 K H), g6, PyData.hasDict_of_canLay _ lay, by rw [dep]; decide, ?_⟩
  refine PyData.shown_fits_of_layable0 (B := 13) (by decide) (by decide) ?_ g5
  show (PyData.canLay0 (.list ds) && decide (PyData.depth (.list ds) ≤ 64) && decide (PyData.weight (.list ds) ≤ 2 ^ 20)) = true
  rw [lay, dep, decide_eq_true (show PyData.weight (.list ds) ≤ 2 ^ 20 from Nat.le_trans (show PyData.weightAll ds ≤ 7 * W.length from g4) (by omega))]
  rfl
/-! ### calls by names alone -/
/-- f(k = v, ..), all by names: gV puts the values in the parameters' order -/
structure KwAll (K : PySem.W.Frag) (fd : FuncData) (ps ks : List Str) (g : List Value → List Value) (gV : List V → List V) : Prop where
  to : ∀ (s : Shared) (ws : List Value), K.In s.heap → (g ws).length = ps.length → BindsTo s fd ⟨[], ks.zip ws⟩ (ps.zip (g ws))
  rel : ∀ {zs : List V} {ws : List Value}, Vals zs ws → Vals (gV zs) (g ws)
def tCallA (sp : Sp) (gV : List V → List V) (E : XK) (tk : TA) : TE := fun σ H Q => tk σ H fun zs H1 => sp (gV zs) H1 Q E
theorem Vals.rev {zs : List V} {ws : List Value} (r : Vals zs ws) : Vals zs.reverse ws.reverse := by
  induction r with
  | nil => exact .nil
  | cons h _ ih =>
    rw [List.reverse_cons, List.reverse_cons]
    exact ih.append (.cons h .nil)
section
variable {X : Cx} {CX : CXT} {k : Nat} {f : Addr} {fd : FuncData} {ps ks : List Str} {sp : Sp} {E : XK} {x : Str} {p pos : Pos} {kws : List Keyword} {tk : TA} {g : List Value → List Value} {gV : List V → List V}
theorem pe_callA (F : FnOk X.prog X.w X.K X.mg X.base CX k f fd ps sp) (room : Room k X.A) (glob : Gl X x) (at_x : X.mg x = some (.ref f)) (kept : PySem.W.keepIn X.K (.ref f) = true) (bind : KwAll X.K fd ps ks g gV) (pass : Passes CX X E) (named : PK X kws tk)
    (hall : (backToKw pos (keywordEach kws X.env)).all (·.1.isSome) = true := by rfl) (hks : (backToKw pos (keywordEach kws X.env)).filterMap (·.1) = ks := by rfl) (nodebug : (x == ("__debug__" : Str)) = false := by decide)
    (plain : ((backTo pos (starEach [] X.env)).any (·.1) || (backToKw pos (keywordEach kws X.env)).any (·.1.isNone)) = false := by rfl) :
    PE X (.Call (.Name x p) [] kws pos) (tCallA sp gV E tk) := by
  constructor
  intro pins s σ H Q I reading
  refine wpAny_Call_Name_kw (ld_glob I glob at_x ?_ nodebug)
  refine PySem.W.callWith_KW0 (h₀ := X.base) I.ok.mod.kin kept hall ?_ plain
  refine thn (named.run pos pins s σ H _ I reading) ?_
  rintro ws s2 ⟨zs, H2, I2, rel, prom⟩
  refine ⟨I2.kIn, ?_⟩
  rw [hks]
  have rel2 := bind.rel rel
  have n_of : (g ws).length = ps.length := rel2.length.symm.trans (F.len _ _ _ _ prom)
  have ran := F.run X.A X.stack s2 H2 ⟨[], ks.zip ws⟩ (g ws) (gV zs) Q E room I2.env0 (bind.to s2 ws I2.kIn n_of) rel2 prom
  refine wpAny_call (codeAny_mono ran fun out s3 got => ?_)
  match out, got with
  | .error e, got => exact pass pins σ H2 s2 e s3 I2 got
  | .ok (.ret u), got => exact I2.after got
  | .ok .next, got => exact got.elim
  | .ok .brk, got => exact got.elim
  | .ok .cont, got => exact got.elim
end
end Rw
end T_X5

section T_Y1
set_option Elab.async false
set_option linter.all false
set_option maxRecDepth 100000
set_option maxHeartbeats 4000000
namespace Rw
open PySem L2 PyProof.Rows
/-- the places of z in the mixture of a round -/
def spotsOf (o n : List (Str × V)) (zs ys : List Str) (z : Str) : List V := if z ∈ zs then [look n z] else if (decide (z ∈ ys) && !decide (look o z = look n z)) = true then [look o z, look n z] else [look o z]
/-- a new dict of new lists -/
structure MixAt (H0 H : Hp) (D : Addr) (dots : List Str) (f : Str → List V) : Prop where
  ex : ∃ rs : List (Str × V), H D = some (.dK (tkv rs)) ∧ rs.map (·.1) = dots ∧ ∀ q ∈ rs, ∃ a : Addr, q.2 = .ref a ∧ H0 a = none ∧ H a = some (.lst (f q.1))
section
variable {P : Program} {w : World} {K : PySem.W.Frag} {mg : Str → Option Value} {base : Heap}
def spMix (C : Addr) : Sp := fun vs H Q _ => ∃ (m a b : Addr) (e : Str) (zs ys ends dots ss ps : List Str) (o n : Str → List (Str × V)), vs = [.ref m, .ref a, .ref b, .str e] ∧ NetAt C H m ends dots ss ps o n ∧ ModelOk ends dots ss ps ∧ e ∈ ends ∧
  LotAt H a zs (moving ends dots o n) ∧ LotAt H b ys (moving ends dots o n) ∧ (∀ y ∈ ys, y ∉ zs) ∧ ∀ D H', Evl.Ex H H' → H D = none → MixAt H H' D dots (spotsOf (o e) (n e) zs ys) → Q (.ref D) H'
abbrev nMix : List Str := ["net", "done", "lot", "goal", "old", "new", "mixture", "node"]
theorem sc_mix : FnScope nMix ["net", "done", "lot", "goal"] (defScope p_ways) := ⟨rfl, rfl, rfl, by decide +kernel, rfl, by decide +kernel, by decide +kernel⟩
theorem ok_mix {f C : Addr} {fd : FuncData} (F : Fun K "ways" "ways" p_ways f fd) (T : NetTxt K C) (C1 : Cal P w K mg base 5 "check_round" ["net", "done", "lot", "part"] (spRound C)) (C2 : Cal P w K mg base 3 "check_goal" ["net", "goal"] (spCheckGoal C))
    (P1 : Prp P w K mg base C 1 "tables" (spTabs C)) (P2 : Prp P w K mg base C 1 "nodes" (spDots C)) : FnOk P w K mg base CX0 6 f fd ["net", "done", "lot", "goal"] (spMix C) := by
  obtain ⟨f1, fd1, F1, k1, b1, g1⟩ := C1.ex
  obtain ⟨f2, fd2, F2, k2, b2, g2⟩ := C2.ex
  obtain ⟨p3, g3, fd3, at3, F3, b3⟩ := P1.ex
  obtain ⟨p4, g4, fd4, at4, F4, b4⟩ := P2.ex
  refine F.ok sc_mix (fun vs H Q E h => ?_) (fun cdv A outer s H vs Q E hr h => ?_)
  · obtain ⟨m, a, b, e, zs, ys, ends, dots, ss, ps, o, n, rfl, _⟩ := h
    rfl
  · obtain ⟨m, a, b, e, zs, ys, ends, dots, ss, ps, o, n, rfl, N, ok, he, La, Lb, dis, k⟩ := h
    have nd := sc_mix.nd
    have hu := hu_of hr
    have hr3 : Room 3 _ := hr.mono (by decide)
    have hr2 : Room 2 _ := hr.mono (by decide)
    have e2 := ok.e2
    have d6 := ok.d6
    refine ⟨_, PSs.nox (pss_cons (ps_expr (pe_call F1 hr rfl g1 k1 b1 .nil pass0 (pa_cons (pv 0) (pa_cons (pv 1) (pa_cons (pv 2) (pa_cons pe_str pa_nil))))))
      (pss_cons (ps_expr (pe_call F2 hr3 rfl g2 k2 b2 .nil pass0 (pa_cons (pv 0) (pa_cons (pv 3) pa_nil))))
      (pss_cons (ps_asg (pe_dget hu (pe_prop (pv 0) T.cl at3 F3 hr2 b3 .nil pass0 rfl) (pv 3) (fun _ _ => rfl)) (pg_tup rfl (pgs_cons (pg_name (i := 4) nd rfl (.inl rfl)) (pgs_cons (pg_name (i := 5) nd rfl (.inl rfl)) pgs_nil))))
      (pss_cons (ps_set (i := 6) nd rfl (.inl rfl) pe_dnewK)
      (pss_cons (ps_for PassesOwn.never rfl (pi_tup (pe_prop (pv 0) T.cl at4 F4 hr2 b4 .nil pass0 rfl)) (pg_name (i := 7) nd rfl (.inl rfl))
        (pss_one (ps_if (pt_cmpR op_in_seq (pv 7) (pv 1) rfl) (pss_one (ps_dput hu (pv 6) (pv 7) (pe_lst (pa_cons (pe_dget hu (pv 5) (pv 7) (fun _ _ => rfl)) pa_nil)) rfl))
          (pss_one (ps_if (PW.pt (pw_and (pt_cmpR op_in_seq (pv 7) (pv 2) rfl) (pw_and1 (pt_cmpR op_ne (pe_dget hu (pv 4) (pv 7) (fun _ _ => rfl)) (pe_dget hu (pv 5) (pv 7) (fun _ _ => rfl)) (nomark _)))))
            (pss_one (ps_dput hu (pv 6) (pv 7) (pe_lst (pa_cons (pe_dget hu (pv 4) (pv 7) (fun _ _ => rfl)) (pa_cons (pe_dget hu (pv 5) (pv 7) (fun _ _ => rfl)) pa_nil))) rfl))
            (pss_one (ps_dput hu (pv 6) (pv 7) (pe_lst (pa_cons (pe_dget hu (pv 4) (pv 7) (fun _ _ => rfl)) pa_nil)) rfl)))))))
      (pss_one (ps_ret (pv 6)))))))), ?_⟩
    refine ⟨.ref m, rfl, .ref a, rfl, .ref b, rfl, m, a, b, _, zs, ys, ends, dots, ss, ps, o, n, rfl, N, by omega, by omega, ok.en, La, Lb, dis, fun H1 x1 => ?_⟩
    refine ⟨.ref m, rfl, .str e, rfl, m, e, ends, dots, ss, ps, o, n, rfl, N.to x1, by omega, he, fun H2 x2 => ?_⟩
    have x12 := x1.trans x2
    have N2 := N.to x12
    obtain ⟨dx, T', N', S, Po, rows0, h1, _⟩ := N2.ex
    refine ⟨.ref m, rfl, m, dx, _, rfl, h1, m, ends, dots, ss, ps, o, n, rfl, N2, ok.e0, by omega, ok.en, fun TD TT H3 x3 _ tabs => ?_⟩
    have hTD := tabs.hd
    have ra := tabs.rows ok.en
    have x13 := x12.trans x3
    obtain ⟨p, po, pn, hv, pa⟩ := ra e he
    refine ⟨.str e, rfl, TD, .ref p, rfl, dget_of (k := Sum.inr e) hTD hv, p, _, rfl, Evl.st_of pa.hp, rfl, _, _, rfl, _, [], rfl, rfl, ?_⟩
    refine fun D hD => ?_
    have x4 : Evl.Ex H3 (upd H3 D (.dK [])) := Evl.Ex.new hD
    have hD0 : H D = none := ex_none x13 hD
    have d4 : (upd H3 D (.dK [])) D = some (.dK (tkv [])) := upd_same
    generalize upd H3 D (.dK []) = H4 at x4 d4
    have x14 := x13.trans x4
    have pa4 := pa.ex x4
    have N4 := N.to x14
    refine ⟨.ref m, rfl, m, dx, _, rfl, (x3.trans x4) _ _ h1, m, ends, dots, ss, ps, o, n, rfl, N4, fun q hq => ⟨q, rfl, ⟨_, Evl.st_of hq⟩, for_tup (K := K) (a := q) (xs := dots.map V.str)
      (fun i σ H' => ∃ x7 : Option V, σ = [some (.ref m), some (.ref a), some (.ref b), some (.str e), some (.ref po), some (.ref pn), some (.ref D), x7] ∧ i ≤ dots.length ∧ Evl.Ex H H' ∧ H' q = some (.tup (dots.map V.str)) ∧ H' po = some (.dK (tkv (canon dots (o e)))) ∧ H' pn = some (.dK (tkv (canon dots (n e)))) ∧ po ≠ D ∧ pn ≠ D ∧
        ∃ rs : List (Str × V), H' D = some (.dK (tkv rs)) ∧ rs.map (·.1) = dots.take i ∧ ∀ q ∈ rs, ∃ l : Addr, q.2 = .ref l ∧ H l = none ∧ H' l = some (.lst (spotsOf (o e) (n e) zs ys q.1)))
      ⟨_, rfl, Nat.zero_le _, x14, hq, pa4.ho, pa4.hn, ne_of_none pa.ho hD, ne_of_none pa.hn hD, [], d4, rfl, fun q hq => by cases hq⟩ (fun i σ H' _ ⟨_, _, _, _, h, _⟩ => Evl.st_of h) ?_ ?_⟩⟩
    · rintro i y σ H5 hi ⟨x7, rfl, _, x5, q5, o5, n5, npo, npn, rs, d5, hks, hrs⟩
      obtain ⟨z, hz, rfl⟩ := str_at hi
      have hil : i < dots.length := (List.getElem?_eq_some_iff.mp hz).1
      have zd := List.mem_of_getElem? hz
      have et : dots.take (i + 1) = dots.take i ++ [z] := by rw [List.take_add_one, hz]; rfl
      have zn : z ∉ dots.take i := fun hm => by
        have q1 : (dots.take (i + 1)).Nodup := ok.dn.sublist (List.take_sublist _ _)
        rw [et] at q1
        exact (List.nodup_append.mp q1).2.2 z hm z (List.mem_singleton.mpr rfl) rfl
      have c1 := look_ok pa.o1 zd
      have c2 := look_ok pa.o2 zd
      have go : DGet H5 po (.str z) (some (look (o e) z)) := by
        have t := dget_of (k := Sum.inr z) o5 c1.2
        rw [look_canon zd] at t
        exact t
      have gn : DGet H5 pn (.str z) (some (look (n e) z)) := by
        have t := dget_of (k := Sum.inr z) n5 c2.2
        rw [look_canon zd] at t
        exact t
      have sc := scal_place c1.1 c2.1
      rw [look_canon zd, look_canon zd] at sc
      have rsl : rs.length ≤ 100 := by
        have := congrArg List.length hks
        rw [List.length_map, List.length_take] at this
        omega
      have small : (tkv rs).length < sizeLine := by rw [tkv_len]; exact small1000 (by omega)
      have dput : ∀ (us : List V) (l : Addr), H5 l = none → (upd H5 l (.lst us)) D = some (.dK (tkv rs)) := fun us l hl => Evl.Ex.new hl _ _ d5
      have fin : ∀ us : List V, us = spotsOf (o e) (n e) zs ys z → ∀ l, H5 l = none →
          ∃ x7 : Option V, [some (V.ref m), some (.ref a), some (.ref b), some (.str e), some (.ref po), some (.ref pn), some (.ref D), some (.str z)] = [some (.ref m), some (.ref a), some (.ref b), some (.str e), some (.ref po), some (.ref pn), some (.ref D), x7] ∧ i + 1 ≤ dots.length ∧ Evl.Ex H (upd (upd H5 l (.lst us)) D (.dK (putK (tkv rs) (Sum.inr z) (.ref l)))) ∧
            (upd (upd H5 l (.lst us)) D (.dK (putK (tkv rs) (Sum.inr z) (.ref l)))) q = some (.tup (dots.map V.str)) ∧ (upd (upd H5 l (.lst us)) D (.dK (putK (tkv rs) (Sum.inr z) (.ref l)))) po = some (.dK (tkv (canon dots (o e)))) ∧ (upd (upd H5 l (.lst us)) D (.dK (putK (tkv rs) (Sum.inr z) (.ref l)))) pn = some (.dK (tkv (canon dots (n e)))) ∧ po ≠ D ∧ pn ≠ D ∧
            ∃ rs' : List (Str × V), (upd (upd H5 l (.lst us)) D (.dK (putK (tkv rs) (Sum.inr z) (.ref l)))) D = some (.dK (tkv rs')) ∧ rs'.map (·.1) = dots.take (i + 1) ∧ ∀ q ∈ rs', ∃ l' : Addr, q.2 = .ref l' ∧ H l' = none ∧ (upd (upd H5 l (.lst us)) D (.dK (putK (tkv rs) (Sum.inr z) (.ref l)))) l' = some (.lst (spotsOf (o e) (n e) zs ys q.1)) := by
        rintro us rfl l hl
        have y1 : Evl.Ex H5 (upd H5 l (.lst (spotsOf (o e) (n e) zs ys z))) := Evl.Ex.new hl
        have l1 : (upd H5 l (.lst (spotsOf (o e) (n e) zs ys z))) l = some (.lst (spotsOf (o e) (n e) zs ys z)) := upd_same
        have d6' := y1 _ _ d5
        have nlD : l ≠ D := (ne_of_none d5 hl).symm
        refine ⟨_, rfl, hil, (x5.trans y1).mut hD0, by rw [upd_ne (ne_of (y1 _ _ q5) d6' (by intro t; cases t))]; exact y1 _ _ q5, by rw [upd_ne npo]; exact y1 _ _ o5, by rw [upd_ne npn]; exact y1 _ _ n5, npo, npn, rs ++ [(z, .ref l)], ?_, ?_, ?_⟩
        · rw [upd_same, tkv_new (by rw [hks]; exact zn)]
        · rw [List.map_append, hks, et]
          rfl
        · intro r hr'
          rcases List.mem_append.mp hr' with hr' | hr'
          · obtain ⟨l', t1, t2, t3⟩ := hrs r hr'
            exact ⟨l', t1, t2, by rw [upd_ne (ne_of (y1 _ _ t3) d6' (by intro t; cases t))]; exact y1 _ _ t3⟩
          · rw [List.mem_singleton.mp hr']
            exact ⟨l, rfl, ex_none x5 hl, by rw [upd_ne nlD]; exact l1⟩
      refine ⟨.str z, rfl, .ref a, rfl, a, zs.map V.str, rfl, .inr (Evl.st_of (x5 _ _ La.ha)), rfl, flat_strs zs, ?_⟩
      rw [inV_str]
      by_cases mz : z ∈ zs
      · rw [decide_eq_true mz]
        refine ⟨true, rfl, iteT ?_⟩
        refine ⟨.ref pn, rfl, .str z, rfl, pn, _, rfl, gn, by show 1 ≤ sizeLine; decide, fun l hl => ⟨.ref D, rfl, .str z, rfl, D, _, rfl, DPut.k (k := Sum.inr z) (dput _ l hl) small, fin _ ?_ l hl⟩⟩
        unfold spotsOf
        rw [if_pos mz]
      · rw [decide_eq_false mz]
        refine ⟨false, rfl, iteF ?_⟩
        refine ⟨.str z, rfl, .ref b, rfl, b, ys.map V.str, rfl, .inr (Evl.st_of (x5 _ _ Lb.ha)), rfl, flat_strs ys, ?_⟩
        rw [inV_str]
        have two : (decide (z ∈ ys) && !decide (look (o e) z = look (n e) z)) = true → spotsOf (o e) (n e) zs ys z = [look (o e) z, look (n e) z] := fun t => by unfold spotsOf; rw [if_neg mz, if_pos t]
        have one : (decide (z ∈ ys) && !decide (look (o e) z = look (n e) z)) = false → spotsOf (o e) (n e) zs ys z = [look (o e) z] := fun t => by unfold spotsOf; rw [if_neg mz, if_neg (by rw [t]; decide)]
        by_cases my : z ∈ ys
        · rw [decide_eq_true my] at two one ⊢
          refine ⟨true, rfl, iteT ?_⟩
          refine ⟨.ref po, rfl, .str z, rfl, po, _, rfl, go, .ref pn, rfl, .str z, rfl, pn, _, rfl, gn, sc, _, rfl, ?_⟩
          by_cases q : look (o e) z = look (n e) z
          · rw [decide_eq_true q] at one ⊢
            refine iteF ?_
            exact ⟨.ref po, rfl, .str z, rfl, po, _, rfl, go, by show 1 ≤ sizeLine; decide, fun l hl => ⟨.ref D, rfl, .str z, rfl, D, _, rfl, DPut.k (k := Sum.inr z) (dput _ l hl) small, fin _ (one rfl).symm l hl⟩⟩
          · rw [decide_eq_false q] at two ⊢
            refine iteT ?_
            exact ⟨.ref po, rfl, .str z, rfl, po, _, rfl, go, .ref pn, rfl, .str z, rfl, pn, _, rfl, gn, by show 2 ≤ sizeLine; decide, fun l hl => ⟨.ref D, rfl, .str z, rfl, D, _, rfl, DPut.k (k := Sum.inr z) (dput _ l hl) small, fin _ (two rfl).symm l hl⟩⟩
        · rw [decide_eq_false my] at one ⊢
          refine ⟨false, rfl, iteF ?_⟩
          refine iteF ?_
          exact ⟨.ref po, rfl, .str z, rfl, po, _, rfl, go, by show 1 ≤ sizeLine; decide, fun l hl => ⟨.ref D, rfl, .str z, rfl, D, _, rfl, DPut.k (k := Sum.inr z) (dput _ l hl) small, fin _ (one rfl).symm l hl⟩⟩
    · rintro σ H5 ⟨x7, rfl, _, x5, q5, o5, n5, npo, npn, rs, d5, hks, hrs⟩
      rw [List.length_map, List.take_length] at hks
      exact ⟨.ref D, rfl, k D H5 x5 hD0 ⟨rs, d5, hks, hrs⟩⟩
end
end Rw
end T_Y1

section T_Y2
set_option Elab.async false
set_option linter.all false
set_option maxRecDepth 100000
set_option maxHeartbeats 4000000
namespace Rw
open PySem L2 PyProof.Rows
theorem dget_rd {H : Hp} {a : Addr} {kvs : List (Key × V)} {k : Key} {v : V} (h : Rd H a (.dK kvs)) (hv : valV kvs k = some v) : DGet H a (kV k) (some v) := .inl ⟨kvs, k, h, rfl, hv.symm⟩
end Rw
end T_Y2

section T_S3
set_option Elab.async false
set_option linter.all false
set_option maxRecDepth 100000
set_option maxHeartbeats 4000000
namespace Rw
open PySem PySem.Spec PyProof.Rows
/-! ### rows of texts, one ahead of another -/
def lexS : List Str → List Str → Bool
  | [], [] => false
  | [], _ :: _ => true
  | _ :: _, [] => false
  | x :: r, y :: q => if x = y then lexS r q else decide (x.cps.toList < y.cps.toList)
theorem lexS_step (x y : Str) (r q : List Str) : lexS (x :: r) (y :: q) = if x = y then lexS r q else decide (x.cps.toList < y.cps.toList) := rfl
theorem txt_anti {x y : Str} (h1 : ¬ x.cps.toList < y.cps.toList) (h2 : ¬ y.cps.toList < x.cps.toList) : x = y := by
  have e : x.cps.toList = y.cps.toList := List.le_antisymm h2 h1
  cases x
  cases y
  exact congrArg Str.mk (Array.toList_inj.mp e)
theorem lexS_self : ∀ r : List Str, lexS r r = false
  | [] => rfl
  | x :: r => by rw [lexS_step, if_pos rfl]; exact lexS_self r
theorem lexS_no : ∀ {r q : List Str}, lexS r q = true → lexS q r = false
  | [], [], h => nomatch h
  | [], _ :: _, _ => rfl
  | _ :: _, [], h => nomatch h
  | x :: r, y :: q, h => by
    rw [lexS_step] at h ⊢
    by_cases e : x = y
    · rw [if_pos e] at h
      rw [if_pos e.symm]
      exact lexS_no h
    · rw [if_neg e, decide_eq_true_eq] at h
      rw [if_neg (fun z => e z.symm)]
      exact decide_eq_false fun z => List.lt_irrefl _ (List.lt_trans h z)
theorem lexS_tr : ∀ {r q p : List Str}, lexS q r = false → lexS p q = false → lexS p r = false
  | [], [], [], _, _ => rfl
  | [], [], _ :: _, _, _ => rfl
  | [], _ :: _, [], _, h => nomatch h
  | [], _ :: _, _ :: _, _, _ => rfl
  | _ :: _, [], _, h, _ => nomatch h
  | _ :: _, _ :: _, [], _, h => nomatch h
  | x :: r, y :: q, z :: p, h1, h2 => by
    rw [lexS_step] at h1 h2 ⊢
    by_cases e1 : y = x
    · subst e1
      rw [if_pos rfl] at h1
      by_cases e2 : z = y
      · subst e2
        rw [if_pos rfl] at h2 ⊢
        exact lexS_tr h1 h2
      · rw [if_neg e2] at h2 ⊢
        exact h2
    · rw [if_neg e1, decide_eq_false_iff_not] at h1
      by_cases e2 : z = y
      · subst e2
        rw [if_neg e1]
        exact decide_eq_false h1
      · rw [if_neg e2, decide_eq_false_iff_not] at h2
        by_cases e3 : z = x
        · subst e3
          exact absurd (txt_anti h1 h2) e1
        · rw [if_neg e3]
          exact decide_eq_false fun h3 => List.le_trans (show x.cps.toList ≤ y.cps.toList from h1) (show y.cps.toList ≤ z.cps.toList from h2) h3
theorem lexS_tot : ∀ {r q : List Str}, lexS r q = false → lexS q r = false → r = q
  | [], [], _, _ => rfl
  | [], _ :: _, h, _ => nomatch h
  | _ :: _, [], _, h => nomatch h
  | x :: r, y :: q, h1, h2 => by
    rw [lexS_step] at h1 h2
    by_cases e : x = y
    · subst e
      rw [if_pos rfl] at h1 h2
      rw [lexS_tot h1 h2]
    · rw [if_neg e, decide_eq_false_iff_not] at h1
      rw [if_neg (fun z => e z.symm), decide_eq_false_iff_not] at h2
      exact absurd (txt_anti h1 h2) e
/-- first by the number, then by the row -/
def numRow (p q : Int × List Str) : Bool := if p.1 = q.1 then lexS p.2 q.2 else decide (p.1 < q.1)
theorem numRow_swo {α : Type} (k : α → Int × List Str) : SrtO.Swo fun a b => numRow (k a) (k b) := by
  refine ⟨fun a b h => ?_, fun a b c h1 h2 => ?_⟩
  · unfold numRow at h ⊢
    by_cases e : (k a).1 = (k b).1
    · rw [if_pos e] at h
      rw [if_pos e.symm]
      exact lexS_no h
    · rw [if_neg e, decide_eq_true_eq] at h
      rw [if_neg (fun z => e z.symm)]
      exact decide_eq_false (by omega)
  · unfold numRow at h1 h2 ⊢
    by_cases e1 : (k b).1 = (k a).1
    · rw [if_pos e1] at h1
      by_cases e2 : (k c).1 = (k b).1
      · rw [if_pos e2] at h2
        rw [if_pos (e2.trans e1)]
        exact lexS_tr h1 h2
      · rw [if_neg e2, decide_eq_false_iff_not] at h2
        rw [if_neg (fun z => e2 (z.trans e1.symm))]
        exact decide_eq_false (by omega)
    · rw [if_neg e1, decide_eq_false_iff_not] at h1
      by_cases e2 : (k c).1 = (k b).1
      · rw [if_neg (fun z => e1 (e2.symm.trans z))]
        exact decide_eq_false (by omega)
      · rw [if_neg e2, decide_eq_false_iff_not] at h2
        rw [if_neg (by omega)]
        exact decide_eq_false (by omega)
/-! ### tuples of texts: < -/
section
open PySem.SeqAt
open PySem.AutoSeq1 (wpAny_loadPart')
open PySem.MeetsSeq PySem.MeetsSeq2 PySem.MeetsSeq3
theorem tupS_lt (p q : Addr) (us vs : Array Value) (k1 k2 : Nat) (d1 d2 : Option Addr) (z1 z2 : Array (Option Value)) (xs ys : List Str) (hx : StrsAre us.toList xs) (hy : StrsAre vs.toList ys) :
    Meets (Builtin.«tuple.__lt__» ⟨[.ref p, .ref q], []⟩)
      (fun _ R s => s.heap.get? p = some { cls := .type "tuple", dict := d1, data := .seq us k1, slots := z1 } ∧ s.heap.get? q = some { cls := .type "tuple", dict := d2, data := .seq vs k2, slots := z2 } ∧ R (.ok (.ret (.bool (lexS xs ys)))) s) :=
  .of_wp fun prog w A R s h => by
    obtain ⟨hp, gs, dr, tk, os⟩ := s
    obtain ⟨at_p, at_q, fin⟩ := h
    have sub := AutoSeq1.sub_tuple_tuple
    have l1 : us.size = xs.length := by rw [← hx.len_eq, Array.length_toList]
    have l2 : vs.size = ys.length := by rw [← hy.len_eq, Array.length_toList]
    wp_walk using wpAny_loadPart' at_p, wpAny_loadPart' at_q, wpAny_forIn_list _ (fun more b t => b.1 = none ∧ t = ⟨hp, gs, dr, tk, os⟩ ∧ ∃ (as bs : List Value) (xs' ys' : List Str), more = as.zip bs ∧
      StrsAre as xs' ∧ StrsAre bs ys' ∧ xs'.length + vs.size = ys'.length + us.size ∧ R (.ok (.ret (.bool (lexS xs' ys')))) ⟨hp, gs, dr, tk, os⟩) _
    case turn =>
      rintro ⟨u, v⟩ more b t ⟨b0, rfl, as, bs, xs', ys', em, ha, hb, hl, hR⟩
      cases ha with
      | nil => rw [List.zip_nil_left] at em; cases em
      | cons x t1 ha2 =>
        cases hb with
        | nil => rw [List.zip_nil_right] at em; cases em
        | cons y t2 hb2 =>
          rw [List.zip_cons_cons] at em
          injection em with e1 e2
          injection e1 with e3 e4
          subst e3 e4
          rw [lexS_step] at hR
          simp only [List.length_cons] at hl
          have same := SeqAt.EqAt.str_str (A := A.in1) (s := ⟨hp, gs, dr, tk, os⟩) x t1 y t2
          refine wpAny_bind (same prog w _ _ ?_)
          by_cases e : x = y
          · rw [show (x == y) = true from beq_iff_eq.mpr e]
            rw [if_pos e] at hR
            wp_walk
            exact ⟨rfl, rfl, _, _, _, _, e2, ha2, hb2, by omega, hR⟩
          · rw [show (x == y) = false from beq_eq_false_iff_ne.mpr e]
            rw [if_neg e] at hR
            have less := DT.rcLt_str A.in1 ⟨hp, gs, dr, tk, os⟩ x t1 y t2 prog w
            wp_walk using less
            exact ⟨_, rfl, by simpa using hR⟩
    case fin =>
      rintro ⟨c1, c2⟩ t ⟨b0, rfl, as, bs, xs', ys', em, ha, hb, hl, hR⟩
      simp only at b0
      subst b0
      have ev : lexS xs' ys' = decide (us.size < vs.size) := by
        cases ha with
        | nil =>
          cases hb with
          | nil =>
            simp only [List.length_nil] at hl
            exact (decide_eq_false (by omega)).symm
          | cons y t2 hb2 =>
            simp only [List.length_nil, List.length_cons] at hl
            exact (decide_eq_true (by omega)).symm
        | cons x t1 ha2 =>
          cases hb with
          | nil =>
            simp only [List.length_nil, List.length_cons] at hl
            exact (decide_eq_false (by omega)).symm
          | cons y t2 hb2 =>
            rw [List.zip_cons_cons] at em
            cases em
      rw [ev] at hR
      wp_walk
      exact ⟨_, rfl, by simpa [Builtin.Tuple.tupleCompareSizes] using hR⟩
    case h =>
      exact ⟨rfl, rfl, us.toList, vs.toList, xs, ys, rfl, hx, hy, by omega, fin⟩
end
section
variable {prog : Program} {w : World} {A : Around} {E : Value → Shared → Prop} {s : Shared}
theorem less_tupS {p q : Addr} {us vs : Array Value} {xs ys : List Str} {Q : Value → Shared → Prop} (hp : IsTup s.heap p us) (hq : IsTup s.heap q vs) (hx : StrsAre us.toList xs) (hy : StrsAre vs.toList ys) (room : A.units < cLine)
    (h : Q (.bool (lexS xs ys)) s) : wpAny (model prog w) A (compareOp .Lt (.ref p) (.ref q)) Q E s := by
  obtain ⟨⟨c1, e1, t1, z1⟩, at_p, x1, k1, y1⟩ := id hp
  obtain ⟨⟨c2, e2, t2, z2⟩, at_q, x2, k2, y2⟩ := id hq
  simp only at x1 y1 x2 y2
  subst x1 y1 x2 y2
  exact richCompare_meets_room (op := .Lt) ⟨_, at_p, rfl⟩ ⟨_, at_q, rfl⟩ PySem.F.slot_tuple_lt PySem.F.entry_tuple_lt (PySem.F.args_tuple_lt_2 _ _) (tupS_lt p q us vs k1 k2 e1 e2 z1 z2 xs ys hx hy)
    ⟨at_p, at_q, show Value.bool (lexS xs ys) ≠ Value.notImplemented ∧ Q (.bool (lexS xs ys)) s from ⟨(fun z => nomatch z), h⟩⟩ room
/-- a tuple of a number and a tuple of texts -/
def IsNR (h : Heap) (v : Value) (k : Int × List Str) : Prop := ∃ (a b : Addr) (t : Tok) (us : Array Value), v = .ref a ∧ IsTup h a #[.int k.1 t, .ref b] ∧ IsTup h b us ∧ StrsAre us.toList k.2
theorem IsNR.on {h h' : Heap} {v : Value} {k : Int × List Str} (x : IsNR h v k) (keep : ∀ b o, h.get? b = some o → o.cls = .type "tuple" → h'.get? b = some o) : IsNR h' v k := by
  obtain ⟨a, b, t, us, e, ⟨o, h1, h2, h3⟩, ⟨o2, g1, g2, g3⟩, r⟩ := x
  exact ⟨a, b, t, us, e, ⟨o, keep _ _ h1 h2, h2, h3⟩, ⟨o2, keep _ _ g1 g2, g2, g3⟩, r⟩
theorem key_row {h : Heap} {b : Addr} {us : Array Value} {xs : List Str} (hb : IsTup h b us) (hx : StrsAre us.toList xs) : IsTupleKey (L2.mixKind prog w) h (xs.map Sum.inr) b := by
  obtain ⟨o, h1, h2, n, h3⟩ := hb
  refine ⟨o, us, n, h1, h2, h3, ?_⟩
  have go : ∀ {vs : List Value} {zs : List Str}, StrsAre vs zs → ItemsAre (L2.mixKind prog w) (zs.map Sum.inr) vs := by
    intro vs zs q
    induction q with
    | nil => exact .nil
    | cons y t _ ih => exact .cons (L2.mixKind_str prog w y t) ih
  exact go hx
theorem nr_cmp {vs : List Value} {k : Value → Int × List Str} (room : A.units < cLine) (hp : ∀ v ∈ vs, IsNR s.heap v (k v)) : SrtO.Cmp prog w A s (tuples' true) (fun p => p.1 ∈ vs) (SrtO.lt2 fun v u => numRow (k v) (k u)) := by
  intro p q m1 m2
  have h1 := hp _ m1
  have h2 := hp _ m2
  show wpAny (model prog w) A (keyLt' (tuples' true) p.1 q.1) (fun r t => t = s ∧ r = numRow (k p.1) (k q.1)) (fun _ _ => False) s
  generalize k p.1 = kp at h1 ⊢
  generalize k q.1 = kq at h2 ⊢
  obtain ⟨i, xs⟩ := kp
  obtain ⟨j, ys⟩ := kq
  obtain ⟨a, b, t, us, ep, ⟨o, g1, g2, n, g3⟩, tb, rs⟩ := h1
  obtain ⟨a', b', t', us', eq, ⟨o', g1', g2', n', g3'⟩, tb', rs'⟩ := h2
  rw [ep, eq]
  refine PySem.W.kat_lt g1 g3 g1' g3' ?_
  show PySem.W.KatLex prog w A true (decide (2 < 2)) _ [(.int i t, .int j t'), (.ref b, .ref b')] 0 s
  refine PySem.W.kat_cons (SeqAt.EqAt.int_int i t j t' prog w _ _ ?_)
  refine PySem.W.kat_go (fun e1 => ?_) (fun e1 => ?_)
  · have ei : i = j := by simpa using e1
    refine PySem.W.kat_yes (PySem.W.kat_cons (wpAny_eqBool_tuple (knd := L2.mixKind prog w) room (key_row tb rs) (key_row tb' rs') ?_))
    have val : numRow (i, xs) (j, ys) = lexS xs ys := by unfold numRow; exact if_pos ei
    refine PySem.W.kat_go (fun e2 => ?_) (fun e2 => ?_)
    · have e3 : xs = ys := (List.map_inj_right (fun _ _ z => Sum.inr.inj z)).mp (of_decide_eq_true e2)
      exact PySem.W.kat_yes (PySem.W.kat_nil ⟨rfl, by rw [val, e3, lexS_self]; rfl⟩)
    · refine PySem.W.kat_no (PySem.W.kat_one _ _ (less_tupS tb tb' rs rs' room ?_))
      exact (show s = s ∧ lexS xs ys = numRow (i, xs) (j, ys) from ⟨rfl, val.symm⟩)
  · have ei : ¬ i = j := by simpa using e1
    have val : numRow (i, xs) (j, ys) = decide (i < j) := by unfold numRow; exact if_neg ei
    exact PySem.W.kat_no (oneLt_int ⟨rfl, val.symm⟩)
theorem nr_firsts {h : Heap} {k : Value → Int × List Str} : ∀ {vs : List Value}, (∀ v ∈ vs, IsNR h v (k v)) → ∃ fs : List Value, PySem.W.KatTups h vs fs ∧ fs.length = vs.length ∧ ∀ f ∈ fs, ∃ i t, f = Value.int i t
  | [], _ => ⟨[], PySem.W.KatTups.nil, rfl, fun _ z => nomatch z⟩
  | v :: vs, hp => by
    obtain ⟨fs, g1, g2, g3⟩ := nr_firsts (vs := vs) fun u hu => hp u (List.mem_cons_of_mem _ hu)
    obtain ⟨a, b, t, us, rfl, ⟨o, h1, h2, n, h3⟩, _⟩ := hp v List.mem_cons_self
    refine ⟨.int (k (.ref a)).1 t :: fs, PySem.W.KatTups.cons h1 h2 h3 rfl g1, congrArg (· + 1) g2, fun f hf => ?_⟩
    rcases List.mem_cons.mp hf with rfl | hf
    · exact ⟨_, t, rfl⟩
    · exact g3 f hf
theorem nr_sortable {a : Addr} {vs : List Value} {k : Value → Int × List Str} (room : A.units < cLine) (h0 : 0 < vs.length) (hp : ∀ v ∈ vs, IsNR s.heap v (k v)) (ha : ∀ o, s.heap.get? a = some o → o.cls ≠ .type "tuple") : SrtO.SortableO prog w A s a vs fun v u => numRow (k v) (k u) := by
  intro h' keep
  have hp' : ∀ v ∈ vs, IsNR h' v (k v) := fun v hv => (hp v hv).on fun b o e c => keep b o (fun z => by subst z; exact ha o e c) e
  obtain ⟨fs, g1, g2, g3⟩ := nr_firsts hp'
  refine ⟨tuples' true, fun Q E hq => ?_, nr_cmp (s := { s with heap := h' }) room hp'⟩
  refine PySem.W.kat_kind (T := .type "int") g1 (by omega) (fun f hf => ?_) (by rfl) ?_
  · obtain ⟨i, t, rfl⟩ := g3 f hf
    exact PySem.W.Looks.now
  · rw [show (Value.type "int" != Value.type "tuple") = true by first | decide +kernel | rfl]
    exact hq
end
end Rw
namespace L2
open PySem PySem.Spec PyProof.Rows
/-- sorted(xs), xs a list of tuples of a number and a tuple of texts: a new list, in order -/
def rSortNR (K : PySem.W.Frag) : List V → Hp → VK → Prop := fun vs H Q => ∃ (a : Addr) (xs : List V) (k : V → Int × List Str), vs = [V.ref a] ∧ SqL K H a xs ∧ (∀ x ∈ xs, ∃ t b, x = V.ref t ∧ H t = some (.tup [.int (k x).1, .ref b]) ∧ H b = some (.tup ((k x).2.map V.str))) ∧
  ∀ ys p, ys.Perm xs → SrtO.Srtd (fun x y => Rw.numRow (k x) (k y)) ys → H p = none → Q (.ref p) (upd H p (.lst ys))
theorem cr_sortNR {X : Cx} (room : X.A.units + 2 < cLine) : CallR X (.builtin "sorted") (rSortNR X.K) := by
  intro pins s σ H vs us Q I r h
  obtain ⟨a, xs, k, rfl, hs, hx, q⟩ := h
  obtain ⟨its, rv, hl, hz⟩ := I.list hs
  obtain ⟨u, rfl, ru⟩ := vals1 r
  obtain rfl : u = Value.ref a := ru
  obtain ⟨e1, e2⟩ := refs_back rv fun x m => by
    obtain ⟨t, _, e, _⟩ := hx x m
    exact ⟨t, e⟩
  have all : ∀ v ∈ its, Rw.IsNR s.heap v (k (backV v)) := fun v hv => by
    obtain ⟨t, rfl⟩ := e2 v hv
    have hm : V.ref t ∈ xs := by rw [e1]; exact List.mem_map.mpr ⟨_, hv, rfl⟩
    obtain ⟨t', b, e, ht, hb⟩ := hx _ hm
    cases e
    obtain ⟨_, i2, r2, o, ho, hc, n, hd⟩ := I.hok _ _ ht
    obtain ⟨u1, u2, rfl, ri, rj⟩ := vals2 r2
    obtain ⟨t1, rfl⟩ := ri
    cases rj
    obtain ⟨_, i3, r3, o3, ho3, hc3, n3, hd3⟩ := I.hok _ _ hb
    exact ⟨t, b, t1, i3.toArray, rfl, ⟨o, ho, hc, n, hd⟩, ⟨o3, ho3, hc3, n3, hd3⟩, Vals.strs r3⟩
  refine SrtO.sorted_ord (Rw.numRow_swo fun v => k (backV v)) hl.isList (by rw [← rv.length]; exact hz) (fun h2 h1 d hd kk => ?_) fun out hs1 hb1 => ?_
  · refine Rw.nr_sortable (s := { s with heap := h1 }) (by show X.A.units + 1 + 1 < cLine; omega) (by omega) (fun v hv => (all v hv).on fun b o e _ => (kk b o e).2) fun o e => ?_
    have e' : some o = some (seqObj "list" its.toArray 0) := e.symm.trans hd
    cases e'
    intro c
    exact absurd (Value.type.inj c) (by decide)
  · have h3 : ∀ u ∈ out, ∃ a, u = Value.ref a := fun u hu => e2 u (hb1.perm.mem_iff.mp hu)
    have hp : (out.map backV).Perm xs := by rw [e1]; exact hb1.perm.map _
    obtain ⟨n, hn⟩ := sortedAll_at s.heap its out.toArray
    refine ⟨.ref (s.heap.objs.size + 1), upd H (s.heap.objs.size + 1) (.lst (out.map backV)), I.laid (t' := s.toks) (fun b o e => sortedAll_old e) (Nat.le_succ _) ⟨?_, out, n, vals_back h3, hn⟩, rfl, q _ _ hp (SrtO.srtd_map (f := backV) (lt := fun x y => Rw.numRow (k x) (k y)) hs1) (I.hok.fresh (Nat.le_succ _))⟩
    rw [hp.length_eq]
    exact hz
end L2
end T_S3

section T_K0
set_option Elab.async false
set_option linter.all false
set_option maxRecDepth 100000
set_option maxHeartbeats 1000000
namespace Rw
open PySem PySem.Spec L2 PyProof.Rows
/-! ### rows of nodes in a mixture -/
def lastS : Str → List Str → Str
  | x, [] => x
  | _, y :: r => lastS y r
def Way (f : Str → List V) : Str → List Str → Prop
  | _, [] => True
  | x, y :: r => V.str y ∈ f x ∧ Way f y r
def lastP : List Str → Str
  | [] => Str.empty
  | x :: r => lastS x r
def IsWay (dots : List Str) (f : Str → List V) : List Str → Prop
  | [] => False
  | x :: r => Way f x r ∧ ∀ z ∈ x :: r, z ∈ dots
def Shut (f : Str → List V) : List Str → Prop
  | [] => False
  | x :: r => V.str x ∈ f (lastS x r)
def IsRing (dots : List Str) (f : Str → List V) (p : List Str) : Prop := IsWay dots f p ∧ Shut f p
def Best (dots : List Str) (f : Str → List V) (p : List Str) : Prop := IsRing dots f p ∧ ∀ q, IsRing dots f q → numRow ((q.length : Int), q) ((p.length : Int), p) = false
section
variable {dots : List Str} {f : Str → List V}
theorem lastS_mid : ∀ (x : Str) (s : List Str) (y : Str) (t : List Str), lastS x (s ++ y :: t) = lastS y t
  | _, [], _, _ => rfl
  | _, z :: s, y, t => lastS_mid z s y t
theorem way_mid : ∀ (x : Str) (s : List Str) (y : Str) (t : List Str), Way f x (s ++ y :: t) ↔ Way f x s ∧ V.str y ∈ f (lastS x s) ∧ Way f y t
  | x, [], y, t => ⟨fun h => ⟨trivial, h.1, h.2⟩, fun h => ⟨h.2.1, h.2.2⟩⟩
  | x, z :: s, y, t => by
    show (V.str z ∈ f x ∧ Way f z (s ++ y :: t)) ↔ (V.str z ∈ f x ∧ Way f z s) ∧ _
    rw [way_mid z s y t]
    exact ⟨fun h => ⟨⟨h.1, h.2.1⟩, h.2.2⟩, fun h => ⟨h.1.1, h.1.2, h.2⟩⟩
theorem isWay_ne {p : List Str} (h : IsWay dots f p) : p ≠ [] := fun e => by rw [e] at h; exact h
theorem isWay_dots {p : List Str} (h : IsWay dots f p) : ∀ z ∈ p, z ∈ dots := by
  cases p with
  | nil => exact h.elim
  | cons x r => exact h.2
theorem isWay_one {z : Str} (h : z ∈ dots) : IsWay dots f [z] := ⟨trivial, fun y hy => by rw [List.mem_singleton.mp hy]; exact h⟩
theorem isWay_snoc {p : List Str} {y : Str} (ne : p ≠ []) : IsWay dots f (p ++ [y]) ↔ IsWay dots f p ∧ V.str y ∈ f (lastP p) ∧ y ∈ dots := by
  cases p with
  | nil => exact absurd rfl ne
  | cons x r =>
    show (Way f x (r ++ [y]) ∧ ∀ z ∈ x :: (r ++ [y]), z ∈ dots) ↔ (Way f x r ∧ ∀ z ∈ x :: r, z ∈ dots) ∧ V.str y ∈ f (lastS x r) ∧ y ∈ dots
    rw [way_mid]
    refine ⟨fun h => ⟨⟨h.1.1, fun z hz => h.2 z (by rw [← List.cons_append]; exact List.mem_append_left _ hz)⟩, h.1.2.1, h.2 y (by rw [← List.cons_append]; exact List.mem_append_right _ List.mem_cons_self)⟩, fun h => ⟨⟨h.1.1, h.2.1, trivial⟩, fun z hz => ?_⟩⟩
    rw [← List.cons_append] at hz
    rcases List.mem_append.mp hz with hz | hz
    · exact h.1.2 z hz
    · rw [List.mem_singleton.mp hz]; exact h.2.2
theorem isWay_pre {p s : List Str} (ne : p ≠ []) (h : IsWay dots f (p ++ s)) : IsWay dots f p := by
  cases p with
  | nil => exact absurd rfl ne
  | cons x r =>
    cases s with
    | nil => rw [List.append_nil] at h; exact h
    | cons y t =>
      obtain ⟨h1, h2⟩ := (show Way f x (r ++ y :: t) ∧ ∀ z ∈ x :: (r ++ y :: t), z ∈ dots from h)
      exact ⟨((way_mid x r y t).mp h1).1, fun z hz => h2 z (by rw [← List.cons_append]; exact List.mem_append_left _ hz)⟩
/-- a row with a node twice has a shorter ring -/
theorem ring_of_twice : ∀ (r : List Str) (x : Str), IsWay dots f (x :: r) → ¬ (x :: r).Nodup → ∃ q, IsRing dots f q ∧ q.length < (x :: r).length
  | [], x, _, h => absurd (List.nodup_cons.mpr ⟨by simp, List.nodup_nil⟩) h
  | y :: r, x, h, hn => by
    by_cases hx : x ∈ y :: r
    · obtain ⟨s, t, e⟩ := List.append_of_mem hx
      obtain ⟨h1, h2⟩ := h
      rw [e] at h1 h2 ⊢
      have h3 := (way_mid x s x t).mp h1
      refine ⟨x :: s, ⟨⟨h3.1, fun z hz => h2 z (by rw [← List.cons_append]; exact List.mem_append_left _ hz)⟩, h3.2.1⟩, ?_⟩
      simp
    · have hr : ¬ (y :: r).Nodup := fun z => hn (List.nodup_cons.mpr ⟨hx, z⟩)
      obtain ⟨q, h1, h2⟩ := ring_of_twice r y ⟨h.1.2, fun z hz => h.2 z (List.mem_cons_of_mem _ hz)⟩ hr
      exact ⟨q, h1, Nat.lt_succ_of_lt h2⟩
theorem numRow_short {p q : List Str} (h : q.length < p.length) : numRow ((q.length : Int), q) ((p.length : Int), p) = true := by
  unfold numRow
  rw [if_neg (by show ¬ ((q.length : Int) = p.length); omega)]
  exact decide_eq_true (by show (q.length : Int) < p.length; omega)
theorem numRow_even {p q : List Str} (h : q.length = p.length) : numRow ((q.length : Int), q) ((p.length : Int), p) = lexS q p := by
  unfold numRow
  exact if_pos (by show (q.length : Int) = p.length; omega)
theorem best_nodup {p : List Str} (h : Best dots f p) : p.Nodup := by
  cases p with
  | nil => exact List.nodup_nil
  | cons x r =>
    by_cases n : (x :: r).Nodup
    · exact n
    · obtain ⟨q, h1, h2⟩ := ring_of_twice r x h.1.1 n
      have := h.2 q h1
      rw [numRow_short h2] at this
      cases this
theorem best_least {x : Str} {r : List Str} (h : Best dots f (x :: r)) : ∀ y ∈ r, x.cps.toList < y.cps.toList := by
  intro y hy
  have nd := best_nodup h
  obtain ⟨s, t, e⟩ := List.append_of_mem hy
  subst e
  obtain ⟨⟨⟨h1, h2⟩, h3⟩, h4⟩ := h
  have w := (way_mid x s y t).mp h1
  have sh : V.str x ∈ f (lastS y t) := by
    have q : V.str x ∈ f (lastS x (s ++ y :: t)) := h3
    rw [lastS_mid] at q
    exact q
  have c : IsRing dots f (y :: (t ++ x :: s)) := by
    refine ⟨⟨(way_mid y t x s).mpr ⟨w.2.2, sh, w.1⟩, fun z hz => h2 z ?_⟩, ?_⟩
    · simp only [List.mem_cons, List.mem_append] at hz ⊢
      rcases hz with rfl | hz | rfl | hz
      · exact .inr (.inr (.inl rfl))
      · exact .inr (.inr (.inr hz))
      · exact .inl rfl
      · exact .inr (.inl hz)
    · show V.str y ∈ f (lastS y (t ++ x :: s))
      rw [lastS_mid]
      exact w.2.1
  have k := h4 _ c
  have ne : x ≠ y := fun e => by
    subst e
    exact (List.nodup_cons.mp nd).1 (List.mem_append_right _ List.mem_cons_self)
  rw [numRow_even (by simp; omega), lexS_step, if_neg (fun z => ne z.symm), decide_eq_false_iff_not] at k
  by_cases g : x.cps.toList < y.cps.toList
  · exact g
  · exact absurd (txt_anti g k) ne
/-! ### the nodes behind one -/
def dotOf (dots : List Str) : V → Option Str
  | .str y => if y ∈ dots then some y else none
  | _ => none
def behind (dots : List Str) (f : Str → List V) (z : Str) : List Str := (f z).filterMap (dotOf dots)
theorem dotOf_some {v : V} {y : Str} : dotOf dots v = some y ↔ v = .str y ∧ y ∈ dots := by
  cases v with
  | str x =>
    show (if x ∈ dots then some x else none) = some y ↔ _
    by_cases h : x ∈ dots
    · rw [if_pos h]
      exact ⟨fun e => (by cases e; exact ⟨rfl, h⟩), fun e => (by cases e.1; rfl)⟩
    · rw [if_neg h]
      exact ⟨fun e => (by cases e), fun e => (by cases e.1; exact absurd e.2 h)⟩
  | _ => exact ⟨fun e => (by cases e), fun e => (by cases e.1)⟩
theorem mem_behind {z y : Str} : y ∈ behind dots f z ↔ V.str y ∈ f z ∧ y ∈ dots := by
  unfold behind
  rw [List.mem_filterMap]
  exact ⟨fun ⟨v, h1, h2⟩ => by obtain ⟨rfl, h3⟩ := dotOf_some.mp h2; exact ⟨h1, h3⟩, fun h => ⟨_, h.1, dotOf_some.mpr ⟨rfl, h.2⟩⟩⟩
theorem pick_nodup : ∀ {l : List V}, l.Nodup → (l.filterMap (dotOf dots)).Nodup
  | [], _ => List.nodup_nil
  | v :: l, h => by
    obtain ⟨h1, h2⟩ := List.nodup_cons.mp h
    rw [List.filterMap_cons]
    cases e : dotOf dots v with
    | none => exact pick_nodup h2
    | some y =>
      refine List.nodup_cons.mpr ⟨fun m => h1 ?_, pick_nodup h2⟩
      obtain ⟨u, g1, g2⟩ := List.mem_filterMap.mp m
      rw [(dotOf_some.mp e).1, ← (dotOf_some.mp g2).1]
      exact g1
/-- in order -/
noncomputable def srt (l : List Str) : List Str := by
  classical exact if h : ∃ ys : List Str, ys.Perm l ∧ sortedS ys = true then Classical.choose h else []
theorem srt_is {l ys : List Str} (h1 : ys.Perm l) (h2 : sortedS ys = true) : srt l = ys := by
  have h : ∃ ys : List Str, ys.Perm l ∧ sortedS ys = true := ⟨ys, h1, h2⟩
  have g := Classical.choose_spec h
  have e : srt l = Classical.choose h := by unfold srt; exact dif_pos h
  rw [e]
  exact sorted_uniq g.2 h2 (g.1.trans h1.symm)
/-! ### lexS over rows of one length -/
theorem lexS_more : ∀ {p q : List Str} (s t : List Str), p.length = q.length → lexS p q = true → lexS (p ++ s) (q ++ t) = true
  | [], [], _, _, _, h => nomatch h
  | [], _ :: _, _, _, e, _ => nomatch e
  | _ :: _, [], _, _, e, _ => nomatch e
  | x :: p, y :: q, s, t, e, h => by
    rw [List.cons_append, List.cons_append, lexS_step]
    rw [lexS_step] at h
    by_cases exy : x = y
    · rw [if_pos exy] at h ⊢
      exact lexS_more s t (Nat.succ.inj e) h
    · rw [if_neg exy] at h ⊢
      exact h
theorem lexS_tail : ∀ (p : List Str) {y z : Str}, y.cps.toList < z.cps.toList → lexS (p ++ [y]) (p ++ [z]) = true
  | [], y, z, h => by
    show lexS [y] [z] = true
    rw [lexS_step, if_neg (fun e => by rw [e] at h; exact List.lt_irrefl _ h)]
    exact decide_eq_true h
  | x :: p, y, z, h => by
    rw [List.cons_append, List.cons_append, lexS_step, if_pos rfl]
    exact lexS_tail p h
theorem strict_of {l : List Str} (h : sortedS l = true) (n : l.Nodup) : l.Pairwise fun a b => a.cps.toList < b.cps.toList := by
  refine List.Pairwise.imp_of_mem (R := fun a b => TLe a b ∧ a ≠ b) (fun {a b} _ _ h => ?_) ?_
  · by_cases g : a.cps.toList < b.cps.toList
    · exact g
    · exact absurd (txt_anti g h.1) h.2
  · exact List.pairwise_and_iff.mpr ⟨sorted_pair h, n⟩
/-! ### the rows of one length, in order -/
noncomputable def nexts (dots : List Str) (f : Str → List V) (p : List Str) : List (List Str) := (srt (behind dots f (lastP p))).map fun y => p ++ [y]
structure Lay (dots : List Str) (f : Str → List V) (k : Nat) (L : List (List Str)) : Prop where
  all : ∀ p, p ∈ L ↔ IsWay dots f p ∧ p.length = k + 1
  asc : L.Pairwise fun p q => lexS p q = true
  non : ∀ p, IsRing dots f p → k < p.length
  few : L.length ≤ dots.length * 2 ^ k
theorem lay_start (ds : sortedS dots = true) (dn : dots.Nodup) : Lay dots f 0 (dots.map fun z => [z]) := by
  refine ⟨fun p => ⟨fun h => ?_, fun h => ?_⟩, ?_, fun p h => ?_, by rw [List.length_map]; omega⟩
  · obtain ⟨z, hz, rfl⟩ := List.mem_map.mp h
    exact ⟨isWay_one hz, rfl⟩
  · match p, h with
    | [z], h => exact List.mem_map.mpr ⟨z, h.1.2 z List.mem_cons_self, rfl⟩
  · rw [List.pairwise_map]
    exact (strict_of ds dn).imp fun h => lexS_tail [] h
  · exact List.length_pos_iff.mpr (isWay_ne h.1)
theorem lay_hit {k : Nat} {A B : List (List Str)} {p : List Str} (h : Lay dots f k (A ++ p :: B)) (hA : ∀ q ∈ A, ¬ Shut f q) (hp : Shut f p) : Best dots f p := by
  have wp := (h.all p).mp (List.mem_append_right _ List.mem_cons_self)
  refine ⟨⟨wp.1, hp⟩, fun q hq => ?_⟩
  have lq := h.non q hq
  by_cases e : q.length = p.length
  · rw [numRow_even e]
    have mq : q ∈ A ++ p :: B := (h.all q).mpr ⟨hq.1, by rw [e]; exact wp.2⟩
    have as := h.asc
    rcases List.mem_append.mp mq with mq | mq
    · exact absurd hq.2 (hA q mq)
    · rcases List.mem_cons.mp mq with rfl | mq
      · exact lexS_self _
      · exact lexS_no ((List.pairwise_cons.mp (List.pairwise_append.mp as).2.1).1 q mq)
  · unfold numRow
    rw [if_neg (by show ¬ ((q.length : Int) = p.length); omega)]
    exact decide_eq_false (by show ¬ ((q.length : Int) < p.length); omega)
theorem lay_end {k : Nat} (h : Lay dots f k []) (p : List Str) : ¬ IsRing dots f p := fun hp => by
  have l := h.non p hp
  have e : p = p.take (k + 1) ++ p.drop (k + 1) := (List.take_append_drop _ _).symm
  have ne : p.take (k + 1) ≠ [] := fun z => by
    have := congrArg List.length z
    rw [List.length_take, List.length_nil] at this
    omega
  have w : IsWay dots f (p.take (k + 1)) := isWay_pre ne (by rw [← e]; exact hp.1)
  have := (h.all _).mpr ⟨w, by rw [List.length_take]; omega⟩
  cases this
theorem lay_len {k : Nat} {p : List Str} {L : List (List Str)} (h : Lay dots f k (p :: L)) (dn : dots.Nodup) : k + 1 ≤ dots.length := by
  have wp := (h.all p).mp List.mem_cons_self
  by_cases n : p.Nodup
  · rw [← wp.2]
    exact nodup_le p dots n (isWay_dots wp.1)
  · cases p with
    | nil => exact absurd List.nodup_nil n
    | cons x r =>
      obtain ⟨q, h1, h2⟩ := ring_of_twice r x wp.1 n
      have := h.non q h1
      have := wp.2
      omega
theorem lay_next {k : Nat} {L : List (List Str)} (h : Lay dots f k L) (hn : ∀ p ∈ L, ¬ Shut f p) (fn : ∀ z ∈ dots, (f z).Nodup ∧ (f z).length ≤ 2) (ex : ∀ p ∈ L, ∃ ys : List Str, ys.Perm (behind dots f (lastP p)) ∧ sortedS ys = true) : Lay dots f (k + 1) (L.flatMap (nexts dots f)) := by
  have lp : ∀ p ∈ L, p ≠ [] ∧ lastP p ∈ dots := fun p hp => by
    have w := ((h.all p).mp hp).1
    refine ⟨isWay_ne w, ?_⟩
    cases p with
    | nil => exact w.elim
    | cons x r =>
      have go : ∀ (r : List Str) (x : Str), lastS x r ∈ x :: r := fun r => by
        induction r with
        | nil => intro x; exact List.mem_cons_self
        | cons y r ih => intro x; exact List.mem_cons_of_mem _ (ih y)
      exact w.2 _ (go r x)
  have sp : ∀ p ∈ L, (srt (behind dots f (lastP p))).Perm (behind dots f (lastP p)) ∧ sortedS (srt (behind dots f (lastP p))) = true := fun p hp => by
    obtain ⟨ys, h1, h2⟩ := ex p hp
    rw [srt_is h1 h2]
    exact ⟨h1, h2⟩
  refine ⟨fun q => ⟨fun hq => ?_, fun hq => ?_⟩, ?_, fun q hq => ?_, ?_⟩
  · obtain ⟨p, hp, hq⟩ := List.mem_flatMap.mp hq
    obtain ⟨y, hy, rfl⟩ := List.mem_map.mp hq
    obtain ⟨w, l⟩ := (h.all p).mp hp
    have b := mem_behind.mp ((sp p hp).1.mem_iff.mp hy)
    exact ⟨(isWay_snoc (lp p hp).1).mpr ⟨w, b.1, b.2⟩, by rw [List.length_append, l]; rfl⟩
  · obtain ⟨w, l⟩ := hq
    have ne : q ≠ [] := isWay_ne w
    obtain ⟨p, y, rfl⟩ : ∃ p y, q = p ++ [y] := ⟨q.dropLast, q.getLast ne, (List.dropLast_concat_getLast ne).symm⟩
    rw [List.length_append] at l
    have l' : p.length = k + 1 := by simpa using l
    have pne : p ≠ [] := fun z => by rw [z] at l'; cases l'
    obtain ⟨w1, w2, w3⟩ := (isWay_snoc pne).mp w
    have hp := (h.all p).mpr ⟨w1, l'⟩
    exact List.mem_flatMap.mpr ⟨p, hp, List.mem_map.mpr ⟨y, (sp p hp).1.mem_iff.mpr (mem_behind.mpr ⟨w2, w3⟩), rfl⟩⟩
  · rw [List.pairwise_flatMap]
    refine ⟨fun p hp => ?_, List.Pairwise.imp_of_mem (fun {p q} hp hq pq => ?_) h.asc⟩
    · unfold nexts
      rw [List.pairwise_map]
      have nb : (srt (behind dots f (lastP p))).Nodup := (sp p hp).1.nodup_iff.mpr (pick_nodup (fn _ (lp p hp).2).1)
      exact (strict_of (sp p hp).2 nb).imp fun g => lexS_tail p g
    · intro a ha b hb
      obtain ⟨y, _, rfl⟩ := List.mem_map.mp ha
      obtain ⟨z, _, rfl⟩ := List.mem_map.mp hb
      exact lexS_more _ _ (by rw [((h.all p).mp hp).2, ((h.all q).mp hq).2]) pq
  · have l := h.non q hq
    by_cases e : q.length = k + 1
    · exact absurd hq.2 (hn q ((h.all q).mpr ⟨hq.1, e⟩))
    · omega
  · have go : ∀ M : List (List Str), (∀ p ∈ M, p ∈ L) → (M.flatMap (nexts dots f)).length ≤ 2 * M.length := fun M => by
      induction M with
      | nil => intro _; exact Nat.zero_le _
      | cons p M ih =>
        intro hM
        rw [List.flatMap_cons, List.length_append, List.length_cons]
        have i := ih fun q hq => hM q (List.mem_cons_of_mem _ hq)
        have hp := hM p List.mem_cons_self
        have j : (nexts dots f p).length ≤ 2 := by
          unfold nexts
          rw [List.length_map, (sp p hp).1.length_eq]
          exact Nat.le_trans (List.length_filterMap_le _ _) (fn _ (lp p hp).2).2
        omega
    have := go L fun p hp => hp
    have := h.few
    rw [Nat.pow_succ]
    have e : dots.length * (2 ^ k * 2) = 2 * (dots.length * 2 ^ k) := by rw [← Nat.mul_assoc, Nat.mul_comm _ 2]
    omega
end
end Rw
end T_K0

section T_K1
set_option Elab.async false
set_option linter.all false
set_option maxRecDepth 100000
set_option maxHeartbeats 4000000
namespace Rw
open PySem L2 PyProof.Rows
/-- a mixture that is read, locked or not -/
structure MixR (H : Hp) (D : Addr) (dots : List Str) (f : Str → List V) : Prop where
  ex : ∃ rs : List (Str × V), Rd H D (.dK (tkv rs)) ∧ rs.map (·.1) = dots ∧ ∀ q ∈ rs, ∃ a : Addr, q.2 = .ref a ∧ H a = some (.lst (f q.1))
theorem MixAt.r {H0 H : Hp} {D : Addr} {dots : List Str} {f : Str → List V} (M : MixAt H0 H D dots f) : MixR H D dots f := by
  obtain ⟨rs, h1, h2, h3⟩ := M.ex
  exact ⟨rs, .inl h1, h2, fun q hq => let ⟨a, e, _, h⟩ := h3 q hq; ⟨a, e, h⟩⟩
theorem rd_ex {H H' : Hp} {a : Addr} {u : HO} (x : Evl.Ex H H') (h : Rd H a u) : Rd H' a u := h.elim (fun q => .inl (x _ _ q)) fun ⟨o, q⟩ => .inr ⟨o, x _ _ q⟩
theorem MixR.to {H H' : Hp} {D : Addr} {dots : List Str} {f : Str → List V} (M : MixR H D dots f) (x : Evl.Ex H H') : MixR H' D dots f := by
  obtain ⟨rs, h1, h2, h3⟩ := M.ex
  exact ⟨rs, rd_ex x h1, h2, fun q hq => let ⟨a, e, h⟩ := h3 q hq; ⟨a, e, x _ _ h⟩⟩
/-- the list of z's places -/
theorem MixR.get {H : Hp} {D : Addr} {dots : List Str} {f : Str → List V} (M : MixR H D dots f) {z : Str} (hz : z ∈ dots) : ∃ l, DGet H D (.str z) (some (.ref l)) ∧ H l = some (.lst (f z)) := by
  obtain ⟨rs, h1, h2, h3⟩ := M.ex
  obtain ⟨v, hv, hm⟩ := tkv_some (tb := rs) (z := z) (by rw [h2]; exact hz)
  obtain ⟨a, e, h⟩ := h3 _ hm
  have e' : v = .ref a := e
  subst e'
  exact ⟨a, dget_rd (k := Sum.inr z) h1 hv, h⟩
theorem MixR.has {H : Hp} {D : Addr} {dots : List Str} {f : Str → List V} (M : MixR H D dots f) (y : Str) : ∃ r : Option V, DGet H D (.str y) r ∧ r.isSome = decide (y ∈ dots) := by
  obtain ⟨rs, h1, h2, _⟩ := M.ex
  refine ⟨valV (tkv rs) (Sum.inr y), .inl ⟨_, Sum.inr y, h1, rfl, rfl⟩, ?_⟩
  by_cases h : y ∈ dots
  · obtain ⟨v, hv, _⟩ := tkv_some (tb := rs) (z := y) (by rw [h2]; exact h)
    rw [hv, decide_eq_true h]
    rfl
  · rw [tkv_none (by rw [h2]; exact h), decide_eq_false h]
    rfl
/-- tuples of names, by their addresses -/
def TupsAt (H : Hp) (L : List (Addr × List Str)) : Prop := ∀ q ∈ L, H q.1 = some (.tup (q.2.map V.str))
theorem TupsAt.to {H H' : Hp} {L : List (Addr × List Str)} (h : TupsAt H L) (x : Evl.Ex H H') : TupsAt H' L := fun q hq => x _ _ (h q hq)
/-- what a mixture has at each node -/
structure Webs (dots : List Str) (f : Str → List V) : Prop where
  sp : ∀ z ∈ dots, ∀ v ∈ f z, Spot v
  two : ∀ z ∈ dots, (f z).length ≤ 2
  nd : ∀ z ∈ dots, (f z).Nodup
section
variable {P : Program} {w : World} {K : PySem.W.Frag} {mg : Str → Option Value} {base : Heap}
def spBehind : Sp := fun vs H Q _ => ∃ (D : Addr) (z : Str) (dots : List Str) (f : Str → List V), vs = [.ref D, .str z] ∧ MixR H D dots f ∧ z ∈ dots ∧ Webs dots f ∧
  ∀ p H', Evl.Ex H H' → H p = none → H' p = some (.lst ((behind dots f z).map V.str)) → Q (.ref p) H'
abbrev nBehind : List Str := ["mixture", "node", "place"]
theorem sc_behind : FnScope nBehind ["mixture", "node"] (defScope p_nodes_behind) := ⟨rfl, rfl, rfl, by decide +kernel, rfl, by decide +kernel, by decide +kernel⟩
theorem ok_behind {f : Addr} {fd : FuncData} (F : Fun K "nodes_behind" "nodes_behind" p_nodes_behind f fd) : FnOk P w K mg base CX0 1 f fd ["mixture", "node"] spBehind := by
  refine F.ok sc_behind (fun vs H Q E h => ?_) (fun cdv A outer s H vs Q E hr h => ?_)
  · obtain ⟨D, z, dots, f, rfl, _⟩ := h
    rfl
  · obtain ⟨D, z, dots, f, rfl, M, hz, W, k⟩ := h
    have nd := sc_behind.nd
    have hu := hu_of hr
    refine ⟨_, pss_one (ps_ret (pe_lc (own := [("place", 2)]) (g := gName 2) (tt := tB (tDInN (tVar 2) (tVar 0))) (te := tVar 2) rfl nd (pi_list (pe_dget hu (pv 0) (pv 1) (fun _ _ => rfl))) (blkOk_by (own := [("place", 2)]) (N := nBehind) (sc := defScope p_nodes_behind) (by decide +kernel))
        (fun _ _ _ _ _ => pg_name (i := 2) nd rfl (Or.inl rfl)) (fun _ _ _ _ _ => pts_one (pt_cmp (pc_dinN hu (pv 2) (pv 0)) rfl)) (fun _ _ _ _ _ => pv 2))), ?_⟩
    obtain ⟨l, gl, hl⟩ := M.get hz
    have two := W.two z hz
    refine ⟨.ref D, rfl, .str z, rfl, D, .ref l, rfl, gl, l, rfl, ⟨_, Evl.sq_of hl⟩, fun R hR => lc_list (K := K) (a := l) (xs := f z) (fun i H' => Evl.Ex H H' ∧ H' R = some (.lst ((((f z).take i).filterMap (dotOf dots)).map V.str)))
      ⟨Evl.Ex.new hR, upd_same⟩ (fun i H' _ h => Evl.sq_of (h.1 _ _ hl)) ?_ ?_⟩
    · rintro i v H1 hi ⟨x1, r1⟩
      have hil : i < (f z).length := (List.getElem?_eq_some_iff.mp hi).1
      have et : ((f z).take (i + 1)).filterMap (dotOf dots) = ((f z).take i).filterMap (dotOf dots) ++ (dotOf dots v).toList := by
        rw [List.take_add_one, hi, List.filterMap_append]
        show _ ++ List.filterMap _ [v] = _
        rw [List.filterMap_cons]
        cases dotOf dots v <;> rfl
      have sl : (((f z).take i).filterMap (dotOf dots)).length ≤ 2 := Nat.le_trans (List.length_filterMap_le _ _) (by rw [List.length_take]; omega)
      refine ⟨rfl, ?_⟩
      rcases W.sp z hz v (List.mem_of_getElem? hi) with rfl | ⟨y, rfl, _⟩
      · obtain ⟨rs, h1, _, _⟩ := (M.to x1).ex
        refine ⟨.non, rfl, .ref D, rfl, .inr ⟨D, _, rfl, rfl, h1, false, rfl, iteF ⟨x1, ?_⟩⟩⟩
        rw [r1, et]
        show some (HO.lst _) = some (HO.lst ((_ ++ []).map V.str))
        rw [List.append_nil]
      · obtain ⟨r, g, e⟩ := (M.to x1).has y
        refine ⟨.str y, rfl, .ref D, rfl, .inl ⟨D, r, rfl, g, _, rfl, ?_⟩⟩
        rw [e]
        by_cases m : y ∈ dots
        · rw [decide_eq_true m]
          refine iteT ⟨.str y, rfl, _, r1, by rw [List.length_map]; exact small1000 (by omega), x1.mut hR, ?_⟩
          rw [upd_same, et, show dotOf dots (.str y) = some y from dotOf_some.mpr ⟨rfl, m⟩, List.map_append]
          rfl
        · rw [decide_eq_false m]
          refine iteF ⟨x1, ?_⟩
          rw [r1, et, show dotOf dots (.str y) = none from if_neg m]
          show some (HO.lst _) = some (HO.lst ((_ ++ []).map V.str))
          rw [List.append_nil]
    · rintro H1 ⟨x1, r1⟩
      rw [List.take_length] at r1
      exact k R H1 x1 hR r1
theorem spotsOf_nd {o n : List (Str × V)} {zs ys : List Str} {z : Str} : (spotsOf o n zs ys z).Nodup := by
  unfold spotsOf
  split
  · exact List.nodup_cons.mpr ⟨by simp, List.nodup_nil⟩
  · split
    · rename_i h
      rw [Bool.and_eq_true] at h
      refine List.nodup_cons.mpr ⟨fun m => ?_, List.nodup_cons.mpr ⟨by simp, List.nodup_nil⟩⟩
      have e := List.mem_singleton.mp m
      have := h.2
      rw [decide_eq_true e] at this
      cases this
    · exact List.nodup_cons.mpr ⟨by simp, List.nodup_nil⟩
end
end Rw
end T_K1

section T_G2
set_option Elab.async false
set_option linter.all false
set_option maxRecDepth 100000
set_option maxHeartbeats 2000000
namespace Rw
open PySem PySem.Spec L2 PyProof.Rows
/-! ### data with dicts -/
def kD : Key → PyData
  | .inl i => .int i
  | .inr x => .str x
mutual
inductive Dq (K : PySem.W.Frag) (H : Hp) : V → PyData → Prop
  | non : Dq K H .non .none
  | bl (b : Bool) : Dq K H (.bl b) (.bool b)
  | int (i : Int) : Dq K H (.int i) (.int i)
  | str (x : Str) : Dq K H (.str x) (.str x)
  | lst {a : Addr} {xs : List V} {ds : List PyData} : SqL K H a xs → DqAll K H xs ds → Dq K H (.ref a) (.list ds)
  | tup {a : Addr} {xs : List V} {ds : List PyData} : SqT K H a xs → DqAll K H xs ds → Dq K H (.ref a) (.tuple ds)
  | dic {a : Addr} {kvs : List (Key × V)} {ds : List (PyData × PyData)} : Rd H a (.dK kvs) → DqKv K H kvs ds → Dq K H (.ref a) (.dict ds)
inductive DqAll (K : PySem.W.Frag) (H : Hp) : List V → List PyData → Prop
  | nil : DqAll K H [] []
  | cons {v : V} {vs : List V} {d : PyData} {ds : List PyData} : Dq K H v d → DqAll K H vs ds → DqAll K H (v :: vs) (d :: ds)
inductive DqKv (K : PySem.W.Frag) (H : Hp) : List (Key × V) → List (PyData × PyData) → Prop
  | nil : DqKv K H [] []
  | cons {k : Key} {v : V} {kvs : List (Key × V)} {d : PyData} {ds : List (PyData × PyData)} : Dq K H v d → DqKv K H kvs ds → DqKv K H ((k, v) :: kvs) ((kD k, d) :: ds)
end
section
variable {X : Cx} {pins : List (Addr × Obj)} {σ : L2.St} {H : Hp} {s : Shared}
/-- sys.modules is a dict -/
def SysDict (h : Heap) : Prop := ∃ o es ep, h.get? sysModules = some o ∧ o.data = .dict es ep
theorem SysDict.ne {h : Heap} {a : Addr} {o : Obj} {its : Array Value} {n : Nat} (hs : SysDict h) (ha : h.get? a = some o) (hd : o.data = .seq its n) : a ≠ sysModules := fun e => by
  obtain ⟨u, es, ep, hu, hq⟩ := hs
  subst e
  rw [ha] at hu
  cases hu
  rw [hd] at hq
  cases hq
mutual
theorem Dq.reads (I : Inv X pins σ H s) (hs : SysDict s.heap) : ∀ (d : PyData) (v : V) (u : Value), Dq X.K H v d → RelV v u → ∃ as, Reads s.heap u d as ∧ sysModules ∉ as
  | .none, _, _, h, r => by
    cases h
    cases r
    exact ⟨_, Reads.none, by simp⟩
  | .bool b, _, _, h, r => by
    cases h
    cases r
    exact ⟨_, Reads.bool b, by simp⟩
  | .int i, _, _, h, r => by
    cases h
    obtain ⟨t, rfl⟩ := r
    exact ⟨_, Reads.int i t, by simp⟩
  | .str x, _, _, h, r => by
    cases h
    obtain ⟨t, rfl⟩ := r
    exact ⟨_, Reads.str x t, by simp⟩
  | .list ds, _, _, h, r => by
    cases h with
    | lst hq ha =>
      cases r
      obtain ⟨its, rv, ⟨o, n, ho, hc, _, hd⟩, _⟩ := I.list hq
      obtain ⟨as, hr, no⟩ := Dq.readsAll I hs ds _ its ha rv
      refine ⟨_, Reads.list ho hc hd hr, fun m => ?_⟩
      rcases List.mem_cons.mp m with e | m
      · exact hs.ne ho hd e.symm
      · exact no m
  | .tuple ds, _, _, h, r => by
    cases h with
    | tup hq ha =>
      cases r
      obtain ⟨its, rv, ⟨o, ho, hc, n, hd⟩, _⟩ := I.tuple hq
      obtain ⟨as, hr, no⟩ := Dq.readsAll I hs ds _ its ha rv
      exact ⟨_, Reads.tuple ho hc hd hr, no⟩
  | .dict ds, _, _, h, r => by
    cases h with
    | dic hq ha =>
      cases r
      obtain ⟨_, low, vs, pairs, o, es, ep, ho, exact_, hdat, _, prs, _⟩ := dk_rd I.hok hq
      obtain ⟨as, bs, h1, h2, n1, n2⟩ := Dq.readsKv I hs ds _ vs es.toList ha pairs prs
      refine ⟨_, Reads.dict ho exact_.1 hdat h1 h2, fun m => ?_⟩
      rcases List.mem_append.mp m with m | m
      · rcases List.mem_cons.mp m with e | m
        · exact absurd e.symm (by simpa using low)
        · exact n1 m
      · exact n2 m
theorem Dq.readsAll (I : Inv X pins σ H s) (hs : SysDict s.heap) : ∀ (ds : List PyData) (vs : List V) (us : List Value), DqAll X.K H vs ds → Vals vs us → ∃ as, ReadsAll s.heap us ds as ∧ sysModules ∉ as
  | [], _, _, h, r => by
    cases h
    cases r
    exact ⟨_, ReadsAll.nil, by simp⟩
  | d :: ds, _, _, h, r => by
    cases h with
    | cons h1 h2 =>
      cases r with
      | cons r1 r2 =>
        obtain ⟨as, q1, n1⟩ := Dq.reads I hs d _ _ h1 r1
        obtain ⟨bs, q2, n2⟩ := Dq.readsAll I hs ds _ _ h2 r2
        exact ⟨_, ReadsAll.cons q1 q2, fun m => (List.mem_append.mp m).elim n1 n2⟩
theorem Dq.readsKv (I : Inv X pins σ H s) (hs : SysDict s.heap) : ∀ (ds : List (PyData × PyData)) (kvs : List (Key × V)) (vs : List (Key × Value)) (es : List DictEntry), DqKv X.K H kvs ds → KV kvs vs → Pairs (mixKind X.prog X.w) es vs →
    ∃ as bs, ReadsAll s.heap (es.map (·.key)) (ds.map (·.1)) as ∧ ReadsAll s.heap (es.map (·.val)) (ds.map (·.2)) bs ∧ sysModules ∉ as ∧ sysModules ∉ bs
  | [], _, _, _, h, r, p => by
    cases h
    cases r
    cases p
    exact ⟨_, _, ReadsAll.nil, ReadsAll.nil, by simp, by simp⟩
  | (k0, d) :: ds, _, _, _, h, r, p => by
    cases h with
    | @cons k v kvs _ _ h1 h2 =>
      cases r with
      | @cons _ q _ vs r1 r2 =>
        obtain ⟨k1, u⟩ := q
        obtain ⟨ek, rv⟩ := r1
        have ek' : k = k1 := ek
        subst ek'
        cases p with
        | @cons e _ es _ p1 p2 p3 =>
          obtain ⟨as, bs, q1, q2, n1, n2⟩ := Dq.readsKv I hs ds kvs vs es h2 r2 p3
          obtain ⟨cs, q3, n3⟩ := Dq.reads I hs d v u h1 rv
          have key : Reads s.heap e.key (kD k) [] := by
            rcases keyIs_shape (show keyIs k e.key = true from p1) with ⟨i, t, rfl, ev⟩ | ⟨x, t, rfl, ev⟩
            · rw [ev]
              exact Reads.int i t
            · rw [ev]
              exact Reads.str x t
          have val : e.val = u := p2
          refine ⟨[] ++ as, cs ++ bs, ReadsAll.cons key q1, ?_, n1, fun m => (List.mem_append.mp m).elim n3 n2⟩
          show ReadsAll s.heap (e.val :: es.map (·.val)) (d :: ds.map (·.2)) (cs ++ bs)
          rw [val]
          exact ReadsAll.cons q3 q2
end
end
def rReprQ (K : PySem.W.Frag) : List V → Hp → VK → Prop := fun xs H Q => ∃ (a : Addr) (d : PyData), xs = [.ref a] ∧ Dq K H (.ref a) d ∧ d.showable = true ∧ d.depth ≤ 64 ∧ d.shown.length ≤ sizeLine ∧ Q (.str d.shown) H
theorem call_reprQ {X : Cx} (hg : X.A.guards = some []) (hu : X.A.units + 70 < cLine) (sys : SysDict X.base) : CallR X (.builtin "repr") (rReprQ X.K) := by
  intro pins s σ H xs us Q I r h
  obtain ⟨a, d, rfl, hd, h1, h3, h4, q⟩ := h
  obtain ⟨u, rfl, ru⟩ := vals1 r
  obtain ⟨as, rd, no⟩ := Dq.reads I (let ⟨o, es, ep, h1, h2⟩ := sys; ⟨o, es, ep, I.bk _ _ h1, h2⟩) d (.ref a) u hd ru
  cases ru
  refine repr_of_reads' rd h1 (fun _ => no) hg (by omega) (fun _ _ e => e) (fun h' v tk keep => ?_) h4
  exact ⟨.str d.shown, H, Inv.kept I keep, ⟨_, rfl⟩, q⟩
end Rw
end T_G2

section T_Y3
set_option Elab.async false
set_option linter.all false
set_option maxRecDepth 100000
set_option maxHeartbeats 4000000
namespace Rw
open PySem L2 PyProof.Rows
/-! ### mixtures are shown -/
theorem nm_short {z : Str} (h : Nm z) : PyData.leavesShort 13 (.str z) = true := PyData.leavesShort_of_canLay0 13 (.str z) (nm_ok h) rfl
theorem spots_q : ∀ W : List V, (∀ v ∈ W, Spot v) → ∃ ds : List PyData, (∀ (K : PySem.W.Frag) (H : Hp), DqAll K H W ds) ∧ PyData.leavesShortAll 13 ds = true ∧ PyData.depthAll ds = 0 ∧ PyData.weightAll ds ≤ 7 * W.length ∧ PyData.showableAll ds = true
  | [], _ => ⟨[], fun _ _ => .nil, rfl, rfl, Nat.zero_le _, rfl⟩
  | v :: W, h => by
    obtain ⟨ds, g1, g2, g3, g4, g6⟩ := spots_q W fun u hu => h u (List.mem_cons_of_mem _ hu)
    rcases h v List.mem_cons_self with rfl | ⟨z, rfl, hz⟩
    · refine ⟨.none :: ds, fun K H => .cons .non (g1 K H), ?_, ?_, ?_, ?_⟩
      · show (true && PyData.leavesShortAll 13 ds) = true
        rw [g2]
        rfl
      · show max 0 (PyData.depthAll ds) = 0
        rw [g3]
        rfl
      · show 0 + 1 + PyData.weightAll ds ≤ 7 * (W.length + 1)
        omega
      · show (true && PyData.showableAll ds) = true
        rw [g6]
        rfl
    · have zl := nm_len hz
      refine ⟨.str z :: ds, fun K H => .cons (.str z) (g1 K H), ?_, ?_, ?_, ?_⟩
      · show (PyData.leavesShort 13 (.str z) && PyData.leavesShortAll 13 ds) = true
        rw [g2, nm_short hz]
        rfl
      · show max 0 (PyData.depthAll ds) = 0
        rw [g3]
        rfl
      · show z.cps.size + 1 + PyData.weightAll ds ≤ 7 * (W.length + 1)
        have : z.cps.size ≤ 6 := zl
        omega
      · show (true && PyData.showableAll ds) = true
        rw [g6]
        rfl
theorem mix_kvs (f : Str → List V) : ∀ dots : List Str, (∀ z ∈ dots, Nm z ∧ (∀ v ∈ f z, Spot v) ∧ (f z).length ≤ 2) → ∃ kvs : List (PyData × PyData),
    (∀ (K : PySem.W.Frag) (H : Hp) (rs : List (Str × V)), rs.map (·.1) = dots → (∀ q ∈ rs, ∃ l : Addr, q.2 = .ref l ∧ H l = some (.lst (f q.1))) → DqKv K H (tkv rs) kvs) ∧ PyData.leavesShortKv 13 kvs = true ∧ PyData.depthKv kvs ≤ 1 ∧ PyData.weightKv kvs ≤ 30 * dots.length ∧ PyData.showableKv kvs = true
  | [], _ => by
    refine ⟨[], fun K H rs h _ => ?_, rfl, Nat.zero_le _, Nat.zero_le _, rfl⟩
    cases rs with
    | nil => exact .nil
    | cons _ _ => cases h
  | z :: r, h => by
    obtain ⟨kvs, g1, g2, g3, g4, g5⟩ := mix_kvs f r fun y hy => h y (List.mem_cons_of_mem _ hy)
    obtain ⟨hz, hs, hl⟩ := h z List.mem_cons_self
    obtain ⟨ds, k1, k2, k3, k4, k5⟩ := spots_q (f z) hs
    have zl : z.cps.size ≤ 6 := nm_len hz
    refine ⟨(.str z, .list ds) :: kvs, fun K H rs hk hq => ?_, ?_, ?_, ?_, ?_⟩
    · cases rs with
      | nil => cases hk
      | cons q rs =>
        have e1 : q.1 = z := (List.cons.inj hk).1
        have e2 : rs.map (·.1) = r := (List.cons.inj hk).2
        obtain ⟨l, l1, l2⟩ := hq q List.mem_cons_self
        obtain ⟨q1, q2⟩ := q
        cases e1
        cases l1
        exact .cons (k := Sum.inr q1) (.lst (Evl.sq_of l2) (k1 K H)) (g1 K H rs e2 fun t ht => hq t (List.mem_cons_of_mem _ ht))
    · show (PyData.leavesShort 13 (.str z) && PyData.leavesShortAll 13 ds && PyData.leavesShortKv 13 kvs) = true
      rw [nm_short hz, k2, g2]
      rfl
    · show max (max 0 (PyData.depthAll ds + 1)) (PyData.depthKv kvs) ≤ 1
      omega
    · show z.cps.size + PyData.weightAll ds + 2 + PyData.weightKv kvs ≤ 30 * (r.length + 1)
      omega
    · show (true && PyData.showableAll ds && PyData.showableKv kvs) = true
      rw [k5, g5]
      rfl
theorem mix_repr (f : Str → List V) (dots : List Str) (h : ∀ z ∈ dots, Nm z ∧ (∀ v ∈ f z, Spot v) ∧ (f z).length ≤ 2) (few : dots.length ≤ 100) : ∃ d : PyData, (∀ {K : PySem.W.Frag} {H0 H : Hp} {D : Addr}, MixAt H0 H D dots f → Dq K H (.ref D) d) ∧ d.showable = true ∧ d.depth ≤ 64 ∧ d.shown.length ≤ sizeLine := by
  obtain ⟨kvs, g1, g2, g3, g4, g5⟩ := mix_kvs f dots h
  refine ⟨.dict kvs, fun {K H0 H D} M => ?_, g5, ?_, ?_⟩
  · obtain ⟨rs, h1, h2, h3⟩ := M.ex
    refine .dic (.inl h1) (g1 K H rs h2 fun q hq => ?_)
    obtain ⟨l, l1, _, l3⟩ := h3 q hq
    exact ⟨l, l1, l3⟩
  · show PyData.depthKv kvs + 1 ≤ 64
    omega
  · exact PyData.shown_fits (B := 13) (by decide) (by decide) g2 (Nat.le_trans (show PyData.weightKv kvs ≤ 30 * dots.length from g4) (by omega))
theorem spotsOf_ok {dots : List Str} {e z : Str} {o n : List (Str × V)} {zs ys : List Str} (h1 : TabOk dots e o) (h2 : TabOk dots e n) (hz : ∀ y ∈ dots, Nm y) (he : Nm e) (zd : z ∈ dots) : (∀ v ∈ spotsOf o n zs ys z, Spot v) ∧ (spotsOf o n zs ys z).length ≤ 2 := by
  have a := place_spot (look_ok h1 zd).1 hz he
  have b := place_spot (look_ok h2 zd).1 hz he
  unfold spotsOf
  split
  · exact ⟨fun v hv => by rw [List.mem_singleton.mp hv]; exact b, by show 1 ≤ 2; decide⟩
  · split
    · refine ⟨fun v hv => ?_, by show 2 ≤ 2; decide⟩
      rcases List.mem_cons.mp hv with rfl | hv
      · exact a
      · rw [List.mem_singleton.mp hv]; exact b
    · exact ⟨fun v hv => by rw [List.mem_singleton.mp hv]; exact a, by show 1 ≤ 2; decide⟩
end Rw
end T_Y3

section T_K2
set_option Elab.async false
set_option linter.all false
set_option maxRecDepth 100000
set_option maxHeartbeats 4000000
namespace Rw
open PySem L2 PyProof.Rows
/-! ### comprehensions with two for -/
theorem lc2_out {J : It} {n : Nat} {G : Hp → Prop} {Y : Nat → Hp → V → Hp → Prop} (wk : Walk J n G Y) {g g1 : TG} {tt tt1 : TT} {te : TE} {wi1 : TI} {vs vs1 : List Nat} {σ : L2.St} {H1 : Hp} {D : Addr} {Qd : Hp → Prop} (Pv : Nat → Hp → Prop) (start : Pv 0 (upd H1 D (.lst []))) (hG : ∀ i H, i ≤ n → Pv i H → G H)
    (turn : ∀ i x H H', i < n → Pv i H → Y i H x H' → g x (wipe σ vs) H' fun σ2 H2 => wipe σ2 vs = wipe σ vs ∧ tt σ2 H2 fun b H3 => if b = true then wi1 σ2 H3 fun J1 H4 => ∃ W1 : Nat → Nat → Hp → Prop, (∃ m, W1 0 m H4) ∧ ∀ j k H, W1 j k H →
      (J1.stop j H ∧ Pv (i + 1) H) ∨ (J1.go j H ∧ ∃ Nx1 : Hp → Prop, (∀ H', Nx1 H' → ∃ k', k' < k ∧ W1 (j + 1) k' H') ∧ ∀ x H', J1.yld j H x H' → g1 x (wipe σ2 vs1) H' fun σ3 H5 => wipe σ3 vs1 = wipe σ2 vs1 ∧ tt1 σ3 H5 fun b H6 =>
        if b = true then te σ3 H6 fun y H7 => ∃ acc, H7 D = some (.lst acc) ∧ acc.length < sizeLine ∧ Nx1 (upd H7 D (.lst (acc ++ [y]))) else Nx1 H6) else Pv (i + 1) H3) (fin : ∀ H, Pv n H → Qd H) :
    ∃ W : Nat → Nat → Hp → Prop, (∃ m, W 0 m (upd H1 D (.lst []))) ∧ ∀ i m H, W i m H →
      (J.stop i H ∧ Qd H) ∨ (J.go i H ∧ ∃ Nx : Hp → Prop, (∀ H', Nx H' → ∃ m', m' < m ∧ W (i + 1) m' H') ∧ ∀ x H', J.yld i H x H' → g x (wipe σ vs) H' fun σ2 H2 => wipe σ2 vs = wipe σ vs ∧ tt σ2 H2 fun b H3 =>
        if b = true then wi1 σ2 H3 fun J1 H4 => ∃ W1 : Nat → Nat → Hp → Prop, (∃ m, W1 0 m H4) ∧ ∀ j k H, W1 j k H →
          (J1.stop j H ∧ Nx H) ∨ (J1.go j H ∧ ∃ Nx1 : Hp → Prop, (∀ H', Nx1 H' → ∃ k', k' < k ∧ W1 (j + 1) k' H') ∧ ∀ x H', J1.yld j H x H' → g1 x (wipe σ2 vs1) H' fun σ3 H5 => wipe σ3 vs1 = wipe σ2 vs1 ∧ tt1 σ3 H5 fun b H6 =>
            if b = true then te σ3 H6 fun y H7 => ∃ acc, H7 D = some (.lst acc) ∧ acc.length < sizeLine ∧ Nx1 (upd H7 D (.lst (acc ++ [y]))) else Nx1 H6)
        else Nx H3) := by
  refine ⟨fun i m H => m = n - i ∧ i ≤ n ∧ Pv i H, ⟨n, by simp, Nat.zero_le _, start⟩, ?_⟩
  rintro i m H ⟨rfl, hi, p⟩
  by_cases lt : i < n
  · exact .inr ⟨wk.goes i H lt (hG i H hi p), Pv (i + 1), fun H' p' => ⟨n - (i + 1), by omega, rfl, lt, p'⟩, fun x H' y => turn i x H H' lt p (wk.yields i H x H' lt (hG i H hi p) y)⟩
  · have e : i = n := by omega
    subst e
    exact .inl ⟨wk.stops H (hG _ H hi p), fin H p⟩
theorem lc2_in {J : It} {n : Nat} {G : Hp → Prop} {Y : Nat → Hp → V → Hp → Prop} (wk : Walk J n G Y) {g1 : TG} {tt1 : TT} {te : TE} {vs1 : List Nat} {σ : L2.St} {H4 : Hp} {D : Addr} {Nx : Hp → Prop} (Pv : Nat → Hp → Prop) (start : Pv 0 H4) (hG : ∀ i H, i ≤ n → Pv i H → G H)
    (turn : ∀ j x H H', j < n → Pv j H → Y j H x H' → g1 x (wipe σ vs1) H' fun σ3 H5 => wipe σ3 vs1 = wipe σ vs1 ∧ tt1 σ3 H5 fun b H6 =>
      if b = true then te σ3 H6 fun y H7 => ∃ acc, H7 D = some (.lst acc) ∧ acc.length < sizeLine ∧ Pv (j + 1) (upd H7 D (.lst (acc ++ [y]))) else Pv (j + 1) H6) (fin : ∀ H, Pv n H → Nx H) :
    ∃ W1 : Nat → Nat → Hp → Prop, (∃ m, W1 0 m H4) ∧ ∀ j k H, W1 j k H →
      (J.stop j H ∧ Nx H) ∨ (J.go j H ∧ ∃ Nx1 : Hp → Prop, (∀ H', Nx1 H' → ∃ k', k' < k ∧ W1 (j + 1) k' H') ∧ ∀ x H', J.yld j H x H' → g1 x (wipe σ vs1) H' fun σ3 H5 => wipe σ3 vs1 = wipe σ vs1 ∧ tt1 σ3 H5 fun b H6 =>
        if b = true then te σ3 H6 fun y H7 => ∃ acc, H7 D = some (.lst acc) ∧ acc.length < sizeLine ∧ Nx1 (upd H7 D (.lst (acc ++ [y]))) else Nx1 H6) := by
  refine ⟨fun j k H => k = n - j ∧ j ≤ n ∧ Pv j H, ⟨n, by simp, Nat.zero_le _, start⟩, ?_⟩
  rintro j k H ⟨rfl, hj, p⟩
  by_cases lt : j < n
  · exact .inr ⟨wk.goes j H lt (hG j H hj p), Pv (j + 1), fun H' p' => ⟨n - (j + 1), by omega, rfl, lt, p'⟩, fun x H' y => turn j x H H' lt p (wk.yields j H x H' lt (hG j H hj p) y)⟩
  · have e : j = n := by omega
    subst e
    exact .inl ⟨wk.stops H (hG _ H hj p), fin H p⟩
theorem flat_spots : ∀ {l : List V}, (∀ v ∈ l, Spot v) → l.all flatV = true
  | [], _ => rfl
  | v :: l, h => by
    rw [List.all_cons, flat_spots fun u hu => h u (List.mem_cons_of_mem _ hu)]
    rcases h v List.mem_cons_self with rfl | ⟨y, rfl, _⟩ <;> rfl
theorem inV_spots (z : Str) : ∀ {l : List V}, (∀ v ∈ l, Spot v) → inV (.str z) l = decide (V.str z ∈ l)
  | [], _ => rfl
  | v :: l, h => by
    have ih := inV_spots z fun u hu => h u (List.mem_cons_of_mem _ hu)
    show (eqV v (.str z) || inV (.str z) l) = _
    rw [ih]
    rcases h v List.mem_cons_self with rfl | ⟨y, rfl, _⟩
    · show (false || _) = _
      rw [Bool.false_or]
      exact decide_eq_decide.mpr ⟨fun q => List.mem_cons_of_mem _ q, fun q => (List.mem_cons.mp q).resolve_left (fun e => nomatch e)⟩
    · have e : eqV (.str y) (.str z) = decide (y = z) := by
        have := inV_str z [y]
        show eqV (.str y) (.str z) = _
        have t : inV (.str z) ([y].map V.str) = (eqV (.str y) (.str z) || false) := rfl
        rw [this, Bool.or_false] at t
        rw [← t]
        exact decide_eq_decide.mpr ⟨fun q => (List.mem_singleton.mp q).symm, fun q => List.mem_singleton.mpr q.symm⟩
      rw [e, ← Bool.decide_or]
      exact decide_eq_decide.mpr ⟨fun q => q.elim (fun q => by rw [q]; exact List.mem_cons_self) fun q => List.mem_cons_of_mem _ q, fun q => (List.mem_cons.mp q).elim (fun e => .inl (V.str.inj e).symm) .inr⟩
theorem tups_put {H : Hp} {R : Addr} {l l' : List V} {L : List (Addr × List Str)} (h : TupsAt H L) (hR : H R = some (.lst l)) : TupsAt (upd H R (.lst l')) L := fun q hq => by
  rw [upd_ne (ne_of (h q hq) hR (by intro z; cases z))]
  exact h q hq
theorem tups_snoc {H : Hp} {L : List (Addr × List Str)} {t : Addr} {p : List Str} (h : TupsAt H L) (ht : H t = some (.tup (p.map V.str))) : TupsAt H (L ++ [(t, p)]) := fun q hq => by
  rcases List.mem_append.mp hq with hq | hq
  · exact h q hq
  · rw [List.mem_singleton.mp hq]
    exact ht
theorem refs_at {L : List (Addr × List Str)} {i : Nat} {x : V} (h : (L.map fun q => V.ref q.1)[i]? = some x) : ∃ q, L[i]? = some q ∧ x = .ref q.1 := by
  rw [List.getElem?_map] at h
  cases e : L[i]? with
  | none => rw [e] at h; cases h
  | some q => rw [e] at h; exact ⟨q, rfl, (Option.some.inj h).symm⟩
theorem cut_at {α : Type} {L : List α} {i : Nat} {q : α} (h : L[i]? = some q) : L = L.take i ++ q :: L.drop (i + 1) := by
  obtain ⟨hi, e⟩ := List.getElem?_eq_some_iff.mp h
  have z := (List.take_append_drop i L).symm
  rw [List.drop_eq_getElem_cons hi, e] at z
  exact z
/-- what ring gives -/
def RingIs (dots : List Str) (f : Str → List V) (v : V) (H : Hp) : Prop := (v = .non ∧ ∀ p, ¬ IsRing dots f p) ∨ ∃ a p, v = .ref a ∧ H a = some (.tup (p.map V.str)) ∧ Best dots f p
theorem RingIs.to {dots : List Str} {f : Str → List V} {v : V} {H H' : Hp} (h : RingIs dots f v H) (x : Evl.Ex H H') : RingIs dots f v H' := h.elim .inl fun ⟨a, p, e, q, b⟩ => .inr ⟨a, p, e, x _ _ q, b⟩
theorem at_last {x : Str} {r : List Str} : atI ((x :: r).map V.str) (-1) = some (V.str (lastS x r)) := by
  have e : ∀ (r : List Str) (x : Str), ∃ s : List Str, x :: r = s ++ [lastS x r] := fun r => by
    induction r with
    | nil => intro x; exact ⟨[], rfl⟩
    | cons y r ih => intro x; obtain ⟨s, e⟩ := ih y; exact ⟨x :: s, congrArg (x :: ·) e⟩
  obtain ⟨s, e⟩ := e r x
  rw [e, List.map_append]
  exact atI_last _ _
theorem last_in : ∀ (r : List Str) (x : Str), lastS x r ∈ x :: r
  | [], _ => List.mem_cons_self
  | y :: r, _ => List.mem_cons_of_mem _ (last_in r y)
section
variable {P : Program} {w : World} {K : PySem.W.Frag} {mg : Str → Option Value} {base : Heap}
def spRing (C : Addr) : Sp := fun vs H Q _ => ∃ (m a b : Addr) (e : Str) (zs ys ends dots ss ps : List Str) (o n : Str → List (Str × V)), vs = [.ref m, .ref a, .ref b, .str e] ∧ NetAt C H m ends dots ss ps o n ∧ ModelOk ends dots ss ps ∧ e ∈ ends ∧ TabOk dots e (o e) ∧ TabOk dots e (n e) ∧
  LotAt H a zs (moving ends dots o n) ∧ LotAt H b ys (moving ends dots o n) ∧ (∀ y ∈ ys, y ∉ zs) ∧ ∀ v H', Evl.Ex H H' → RingIs dots (spotsOf (o e) (n e) zs ys) v H' → Q v H'
theorem webs_of {ends dots ss ps : List Str} {e : Str} {o n : List (Str × V)} {zs ys : List Str} (ok : ModelOk ends dots ss ps) (he : e ∈ ends) (t1 : TabOk dots e o) (t2 : TabOk dots e n) : Webs dots (spotsOf o n zs ys) :=
  ⟨fun z hz => (spotsOf_ok t1 t2 ok.dm (ok.em e he) hz).1, fun z hz => (spotsOf_ok t1 t2 ok.dm (ok.em e he) hz).2, fun z hz => spotsOf_nd⟩
abbrev nLRing : List Str := ["mixture", "paths", "path", "node", "begun", "place"]
theorem sc_lring : FnScope nLRing ["mixture"] (defScope p_least_ring) := ⟨rfl, rfl, rfl, by decide +kernel, rfl, by decide +kernel, by decide +kernel⟩
abbrev tLastOf (K : PySem.W.Frag) (i : Nat) : TE := tOp (rIxT K) (tVar i) (tUn (rU fun i => .int (-i)) (tC (.int 1)))
structure MixW (H : Hp) (D : Addr) (dots : List Str) (f : Str → List V) : Prop where
  ex : ∃ rs : List (Str × V), H D = some (.dK (tkv rs)) ∧ rs.map (·.1) = dots ∧ ∀ q ∈ rs, ∃ a : Addr, q.2 = .ref a ∧ H a = some (.lst (f q.1))
theorem MixAt.mw {H0 H : Hp} {D : Addr} {dots : List Str} {f : Str → List V} (M : MixAt H0 H D dots f) : MixW H D dots f := by
  obtain ⟨rs, h1, h2, h3⟩ := M.ex
  exact ⟨rs, h1, h2, fun q hq => let ⟨a, e, _, h⟩ := h3 q hq; ⟨a, e, h⟩⟩
theorem MixW.r {H : Hp} {D : Addr} {dots : List Str} {f : Str → List V} (M : MixW H D dots f) : MixR H D dots f := by
  obtain ⟨rs, h1, h2, h3⟩ := M.ex
  exact ⟨rs, .inl h1, h2, h3⟩
def spLRing : Sp := fun vs H Q _ => ∃ (D : Addr) (dots : List Str) (f : Str → List V), vs = [.ref D] ∧ MixW H D dots f ∧ Webs dots f ∧ dots.length ≤ 6 ∧ dots.Nodup ∧ sortedS dots = true ∧ ∀ v H', Evl.Ex H H' → RingIs dots f v H' → Q v H'
theorem ok_lring {f : Addr} {fd : FuncData} (F : Fun K "least_ring" "least_ring" p_least_ring f fd) (C2 : Cal P w K mg base 1 "nodes_behind" ["mixture", "node"] spBehind) (mSorted : mg "sorted" = none) : FnOk P w K mg base CX0 2 f fd ["mixture"] spLRing := by
  obtain ⟨f2, fd2, F2, k2, b2, g2⟩ := C2.ex
  refine F.ok sc_lring (fun vs H Q E h => ?_) (fun cdv A outer s H vs Q E hr h => ?_)
  · obtain ⟨D, dots, f, rfl, _⟩ := h
    rfl
  · obtain ⟨D, dots, f, rfl, M, W, d6, dn, ds, k⟩ := h
    have nd := sc_lring.nd
    have hu := hu_of hr
    refine ⟨_, pss_cons (ps_lock (ps_setLc (i := 1) (own := [("node", 3)]) (g := gName 3) (tt := tYes) (te := tTup (tCons (tVar 3) tNil)) (by rfl) nd rfl rfl (sw_true rfl rfl rfl (by decide +kernel)) (pi_keys (pv 0)) (blkOk_by (own := [("node", 3)]) (N := nLRing) (sc := defScope p_least_ring) (by decide +kernel))
          (fun _ _ _ _ _ => pg_name (i := 3) nd rfl (Or.inl rfl)) (fun _ _ _ _ _ => pts_nil) (fun _ _ _ _ _ => pe_tup (pa_cons (pv 3) pa_nil))))
      (pss_cons (ps_while PassesOwn.never (pt_truth (pv 1) (fun _ => rfl))
        (pss_cons (ps_for PassesOwn.never rfl (pi_list (pv 1)) (pg_name (i := 2) nd rfl (.inl rfl))
          (pss_one (ps_if (pt_cmpR op_in_seq (pe_ix ix_tup (pv 2) pe_int (fun _ _ => rfl)) (pe_dget hu (pv 0) (pe_ix ix_tup (pv 2) (pe_un un_neg pe_int) (fun _ _ => rfl)) (fun _ _ => rfl)) rfl) (pss_one (ps_ret (pv 2))) pss_nil)))
        (pss_one (ps_setLc2 (i := 1) (own := [("begun", 4), ("place", 5)]) (vs1 := [5]) (g := gName 4) (tt := tYes) (g1 := gName 5) (tt1 := tYes) (wi1 := iList K (tCB (rSortedS K) (tCons (tCall spBehind [] E0 (tCons (tVar 0) (tCons (tLastOf K 4) tNil))) tNil))) (te := tTup (StX.tStar K (tVar 4) (tCons (tVar 5) tNil)))
          (by rfl) nd rfl rfl (sw_true rfl rfl rfl (by decide +kernel)) (pi_list (pv 1)) (blkOk_by (own := [("begun", 4), ("place", 5)]) (N := nLRing) (sc := defScope p_least_ring) (by decide +kernel)) (by decide)
          (fun _ _ _ _ _ => pg_name (i := 4) nd rfl (Or.inl rfl)) (fun _ _ _ _ _ => pts_nil)
          (fun _ _ _ _ _ => pi_list (pe_callB cr_sortedS (by rfl) mSorted (by decide +kernel) (pa_cons (pe_call F2 (hr.mono (by decide)) rfl g2 k2 b2 .nil pass0 (pa_cons (pv 0) (pa_cons (pe_ix ix_tup (pv 4) (pe_un un_neg pe_int) (fun _ _ => rfl)) pa_nil))) pa_nil)))
          (fun _ _ _ _ _ => pg_name (i := 5) nd rfl (Or.inl rfl)) (fun _ _ _ _ _ => pts_nil)
          (fun _ _ _ _ _ => pe_tup (StX.pa_star (pv 4) (pa_cons (pv 5) pa_nil)))))))
      (pss_one (ps_ret pe_non))), ?_⟩
    have x1 := Evl.Ex.refl H
    have M1 := M.r
    obtain ⟨rs, r1, r2, r3⟩ := M.ex
    have rl : rs.length = dots.length := by rw [← r2, List.length_map]
    -- paths = [(node,) for node in mixture]
    refine ⟨D, .dK (tkv rs), r1, trivial, fun od => ?_⟩
    have locked : (upd H D (.frz od (.dK (tkv rs)))) D = some (.frz od (.dK (tkv rs))) := upd_same
    have back : ∀ {H4 : Hp}, Evl.Ex (upd H D (.frz od (.dK (tkv rs)))) H4 → Evl.Ex H (upd H4 D (.dK (tkv rs))) := fun {H4} x b u h => by
      by_cases q : b = D
      · subst q
        rw [upd_same, ← r1, h]
      · rw [upd_ne q]
        exact x _ _ (by rw [upd_ne q]; exact h)
    generalize upd H D (.frz od (.dK (tkv rs))) = HL at locked back
    refine ⟨.ref D, rfl, D, od, rfl, .inl ⟨tkv rs, locked, fun R hR => lc_it walk_keys
      (fun i H' => Evl.Ex HL H' ∧ ∃ L : List (Addr × List Str), H' R = some (.lst (L.map fun q => V.ref q.1)) ∧ TupsAt H' L ∧ L.map (·.2) = (dots.take i).map fun z => [z])
      ⟨Evl.Ex.new hR, [], upd_same, (fun q hq => nomatch hq), rfl⟩ (fun i H' _ h => h.1 _ _ locked) ?_ ?_⟩⟩
    · rintro i x H2 H2' hi ⟨x2, L, p1, tu, eL⟩ ⟨rfl, kk, v, hkv, rfl⟩
      rw [tkv_len, rl] at hi
      have gi : dots[i]? = some dots[i] := List.getElem?_eq_getElem hi
      obtain rfl : kk = Sum.inr dots[i] := by
        have z : (rs.map (·.1))[i]? = some dots[i] := by rw [r2]; exact gi
        unfold tkv at hkv
        rw [List.getElem?_map] at hkv z
        cases q : rs[i]? with
        | none => rw [q] at hkv; cases hkv
        | some q' =>
          rw [q] at hkv z
          have e1 := congrArg Prod.fst (Option.some.inj hkv)
          have e2 : q'.1 = dots[i] := Option.some.inj z
          rw [← e2]
          exact e1.symm
      have Ll : L.length ≤ 6 := by
        have := congrArg List.length eL
        rw [List.length_map, List.length_map, List.length_take] at this
        omega
      refine ⟨rfl, ?_⟩
      refine yes_if ?_
      refine ⟨.str dots[i], rfl, by show 1 ≤ sizeLine; decide, fun t ht => ?_⟩
      have y1 : Evl.Ex H2' (upd H2' t (.tup [.str dots[i]])) := Evl.Ex.new ht
      have t1' : (upd H2' t (.tup [.str dots[i]])) t = some (.tup ([dots[i]].map V.str)) := upd_same
      generalize upd H2' t (.tup [.str dots[i]]) = H3 at y1 t1'
      refine ⟨_, y1 _ _ p1, by rw [List.length_map]; exact small1000 (by omega), (x2.trans y1).mut hR, L ++ [(t, [dots[i]])], ?_, tups_put (tups_snoc (tu.to y1) t1') (y1 _ _ p1), ?_⟩
      · rw [upd_same, List.map_append]
        rfl
      · rw [List.map_append, eL, List.take_add_one, gi, List.map_append]
        rfl
    · rintro H2 ⟨x2, L, p1, tu, eL⟩
      rw [tkv_len, rl, List.take_length] at eL
      refine ⟨x2 _ _ locked, ?_⟩
      have nRD : R ≠ D := (ne_of_none locked hR).symm
      have x3 := back x2
      have p3 : (upd H2 D (.dK (tkv rs))) R = some (.lst (L.map fun q => V.ref q.1)) := by rw [upd_ne nRD]; exact p1
      have tu3 : TupsAt (upd H2 D (.dK (tkv rs))) L := fun q hq => by
        rw [upd_ne (ne_of (tu q hq) (x2 _ _ locked) (by intro z; cases z))]
        exact tu q hq
      generalize upd H2 D (.dK (tkv rs)) = H3 at x3 p3 tu3
      have lay0 : Lay dots f 0 (L.map (·.2)) := by rw [eL]; exact lay_start ds dn
      have M3 : MixR H3 D dots f := M1.to x3
      -- while paths
      refine ⟨fun m' σ H' => ∃ (c : Nat) (L : List (Addr × List Str)) (R : Addr) (x6 : Option V), σ = [some (.ref D), some (.ref R), x6, none, none, none] ∧ m' + c = dots.length + 1 ∧ H' R = some (.lst (L.map fun q => V.ref q.1)) ∧ TupsAt H' L ∧
        Lay dots f c (L.map (·.2)) ∧ Evl.Ex H H' ∧ MixR H' D dots f, ⟨dots.length + 1, 0, L, R, none, rfl, rfl, p3, tu3, lay0, x1.trans x3, M3⟩, ?_⟩
      clear lay0 p3 tu3 eL p1 tu nRD hR
      rintro m' σ H4 ⟨c, L, R, x6, rfl, hm, hR, tu, lay, x4, M4⟩
      refine ⟨.ref R, rfl, !(L.map fun q => V.ref q.1).isEmpty, .inl ⟨_, Evl.sq_of hR, rfl⟩, ?_⟩
      cases L with
      | nil => exact iteF (k .non H4 x4 (.inl ⟨rfl, lay_end lay⟩))
      | cons q0 L0 =>
        refine iteT ⟨_, fun _ _ h => h, ?_⟩
        have cl := lay_len lay dn
        generalize hL : q0 :: L0 = L at *
        have few : L.length ≤ 192 := by
          have h1 := lay.few
          rw [List.length_map] at h1
          have h2 : 2 ^ c ≤ 2 ^ 5 := Nat.pow_le_pow_right (by decide) (by omega)
          exact Nat.le_trans h1 (Nat.mul_le_mul d6 h2)
        -- a row's last node
        have row : ∀ q ∈ L, ∃ (x : Str) (r : List Str), q.2 = x :: r ∧ lastS x r ∈ dots := fun q hq => by
          have w := ((lay.all q.2).mp (List.mem_map_of_mem hq)).1
          cases e : q.2 with
          | nil => rw [e] at w; exact w.elim
          | cons x r => rw [e] at w; exact ⟨x, r, rfl, w.2 _ (last_in r x)⟩
        -- for path in paths
        refine ⟨.ref R, rfl, R, rfl, ⟨_, Evl.sq_of hR⟩, for_list (K := K) (a := R) (xs := L.map fun q => V.ref q.1)
          (fun i σ H' => H' = H4 ∧ ∃ x6 : Option V, σ = [some (.ref D), some (.ref R), x6, none, none, none] ∧ ∀ p ∈ (L.take i).map (·.2), ¬ Shut f p)
          ⟨rfl, _, rfl, fun p hp => nomatch hp⟩ (fun i σ H' _ h => by rw [h.1]; exact Evl.sq_of hR) ?_ ?_⟩
        · rintro i v σ H' hi ⟨rfl, x6', rfl, hno⟩
          obtain ⟨q, hq, rfl⟩ := refs_at hi
          have mq := List.mem_of_getElem? hq
          obtain ⟨x, r, eq, ld⟩ := row q mq
          have tq : H' q.1 = some (.tup ((x :: r).map V.str)) := by rw [← eq]; exact tu q mq
          obtain ⟨l, gl, hl⟩ := M4.get ld
          refine ⟨.ref q.1, rfl, q.1, _, 0, .str x, rfl, rfl, Evl.st_of tq, atI_nat (j := 0) rfl, .ref D, rfl, .ref q.1, rfl, 1, rfl, q.1, _, -1, _, rfl, rfl, Evl.st_of tq, at_last, D, .ref l, rfl, gl, l, f (lastS x r), rfl, .inl (Evl.sq_of hl), rfl, flat_spots (W.sp _ ld), ?_⟩
          rw [inV_spots x (W.sp _ ld)]
          by_cases sh : V.str x ∈ f (lastS x r)
          · rw [decide_eq_true sh]
            refine ⟨true, rfl, iteT ?_⟩
            refine ⟨.ref q.1, rfl, k _ H' x4 (.inr ⟨q.1, q.2, rfl, tu q mq, ?_⟩)⟩
            have cut : L.map (·.2) = (L.take i).map (·.2) ++ q.2 :: (L.drop (i + 1)).map (·.2) := by
              conv => lhs; rw [cut_at hq]
              rw [List.map_append]
              rfl
            rw [cut] at lay
            exact lay_hit lay hno (by rw [eq]; exact sh)
          · rw [decide_eq_false sh]
            refine ⟨false, rfl, iteF ?_⟩
            refine ⟨rfl, _, rfl, fun p hp => ?_⟩
            rw [List.take_add_one, hq, List.map_append] at hp
            rcases List.mem_append.mp hp with hp | hp
            · exact hno p hp
            · have e' : p = q.2 := List.mem_singleton.mp hp
              rw [e', eq]
              exact sh
        · rintro σ H' ⟨rfl, x6', rfl, hno⟩
          rw [List.length_map, List.take_length] at hno
          -- the next paths
          refine ⟨.ref R, rfl, R, rfl, ⟨_, Evl.sq_of hR⟩, fun R2 hR2 => lc2_out (walk_list (xs := L.map fun q => V.ref q.1))
            (fun i H5 => Evl.Ex H' H5 ∧ ∃ L2 : List (Addr × List Str), H5 R2 = some (.lst (L2.map fun q => V.ref q.1)) ∧ TupsAt H5 L2 ∧ L2.map (·.2) = ((L.take i).map (·.2)).flatMap (nexts dots f) ∧ L2.length ≤ 2 * i ∧
              ∀ p ∈ (L.take i).map (·.2), ∃ ys : List Str, ys.Perm (behind dots f (lastP p)) ∧ sortedS ys = true)
            ⟨Evl.Ex.new hR2, [], upd_same, (fun q hq => nomatch hq), rfl, Nat.le_refl _, fun p hp => nomatch hp⟩ (fun i H5 _ h => Evl.sq_of (h.1 _ _ hR)) ?_ ?_⟩
          · rintro i v H5 H5' hi ⟨x5, L2, p2, tu2, eL2, l2, srtd⟩ ⟨rfl, hv⟩
            rw [List.length_map] at hi
            obtain ⟨q, hq, rfl⟩ := refs_at hv
            have mq := List.mem_of_getElem? hq
            obtain ⟨x, r, eq, ld⟩ := row q mq
            have tq : H5' q.1 = some (.tup ((x :: r).map V.str)) := by rw [← eq]; exact x5 _ _ (tu q mq)
            refine ⟨rfl, ?_⟩
            refine yes_if ?_
            refine ⟨.ref D, rfl, .ref q.1, rfl, 1, rfl, q.1, _, -1, _, rfl, rfl, Evl.st_of tq, at_last, D, lastS x r, dots, f, rfl, M4.to x5, ld, W, fun bl H6 x6 hbl b6 => ?_⟩
            have bl2 : (behind dots f (lastS x r)).length ≤ 2 := Nat.le_trans (List.length_filterMap_le _ _) (W.two _ ld)
            refine ⟨bl, behind dots f (lastS x r), rfl, Evl.sq_of b6, by omega, fun us sl perm srd hsl => ?_⟩
            have y6 : Evl.Ex H6 (upd H6 sl (.lst (us.map V.str))) := Evl.Ex.new hsl
            have s6 : (upd H6 sl (.lst (us.map V.str))) sl = some (.lst (us.map V.str)) := upd_same
            have nSR : sl ≠ R2 := (ne_of_none (x6 _ _ p2) hsl).symm
            generalize upd H6 sl (.lst (us.map V.str)) = H7 at y6 s6
            have x57 := x6.trans y6
            have ul : us.length ≤ 2 := by rw [perm.length_eq]; exact bl2
            refine ⟨sl, rfl, ⟨_, Evl.sq_of s6⟩, lc2_in (walk_list (xs := us.map V.str))
              (fun j H8 => Evl.Ex H' H8 ∧ H8 sl = some (.lst (us.map V.str)) ∧ ∃ L3 : List (Addr × List Str), H8 R2 = some (.lst (L3.map fun q => V.ref q.1)) ∧ TupsAt H8 L3 ∧ L3.map (·.2) = L2.map (·.2) ++ (us.take j).map (fun y => q.2 ++ [y]) ∧ L3.length ≤ 2 * i + j)
              ⟨x5.trans x57, s6, L2, x57 _ _ p2, tu2.to x57, by rw [List.take_zero]; exact (List.append_nil _).symm, l2⟩ (fun j H8 _ h => Evl.sq_of h.2.1) ?_ ?_⟩
            · rintro j v H8 H8' hj ⟨x8, s8, L3, p3, tu3, eL3, l3⟩ ⟨rfl, hv8⟩
              obtain ⟨y, hy, rfl⟩ := str_at hv8
              rw [List.length_map] at hj
              refine ⟨rfl, ?_⟩
              refine yes_if ?_
              have tq8 := x8 _ _ (tu q mq)
              refine ⟨.ref q.1, rfl, q.1, _, rfl, .inl (Evl.st_of tq8), .str y, rfl, ?_, fun t ht => ?_⟩
              · have e1 : q.2.length ≤ 6 := by
                  have := ((lay.all q.2).mp (List.mem_map_of_mem mq)).2
                  omega
                rw [List.length_append, List.length_map]
                exact Nat.le_of_lt (small1000 (by show q.2.length + 1 ≤ 1000; omega))
              · have y9 : Evl.Ex H8' (upd H8' t (.tup (q.2.map V.str ++ [.str y]))) := Evl.Ex.new ht
                have t9 : (upd H8' t (.tup (q.2.map V.str ++ [.str y]))) t = some (.tup ((q.2 ++ [y]).map V.str)) := by rw [upd_same, List.map_append]; rfl
                generalize upd H8' t (.tup (q.2.map V.str ++ [.str y])) = H9 at y9 t9
                refine ⟨_, y9 _ _ p3, by rw [List.length_map]; exact small1000 (by omega), (x8.trans y9).mut hR2, by rw [upd_ne nSR]; exact y9 _ _ s8, L3 ++ [(t, q.2 ++ [y])], ?_, tups_put (tups_snoc (tu3.to y9) t9) (y9 _ _ p3), ?_, ?_⟩
                · rw [upd_same, List.map_append]
                  rfl
                · rw [List.map_append, eL3, List.take_add_one, hy, List.map_append, List.append_assoc]
                  rfl
                · rw [List.length_append]
                  show L3.length + 1 ≤ _
                  omega
            · rintro H8 ⟨x8, s8, L3, p3, tu3, eL3, l3⟩
              rw [List.length_map, List.take_length] at eL3
              rw [List.length_map] at l3
              refine ⟨x8, L3, p3, tu3, ?_, by omega, fun p hp => ?_⟩
              · rw [List.take_add_one, hq, List.map_append, List.flatMap_append, eL3, eL2]
                show _ = _ ++ (nexts dots f q.2 ++ [])
                rw [List.append_nil]
                unfold nexts
                rw [eq, show lastP (x :: r) = lastS x r from rfl, srt_is perm srd]
              · rw [List.take_add_one, hq, List.map_append] at hp
                rcases List.mem_append.mp hp with hp | hp
                · exact srtd p hp
                · have e' : p = q.2 := List.mem_singleton.mp hp
                  rw [e', eq]
                  exact ⟨us, perm, srd⟩
          · rintro H5 ⟨x5, L2, p2, tu2, eL2, l2, srtd⟩
            rw [List.length_map, List.take_length] at eL2 srtd
            refine ⟨m' - 1, by omega, c + 1, L2, R2, _, rfl, by omega, p2, tu2, ?_, x4.trans x5, M4.to x5⟩
            rw [eL2]
            exact lay_next lay hno (fun z hz => ⟨W.nd z hz, W.two z hz⟩) srtd
theorem sc_ring : FnScope ["net", "done", "lot", "goal"] ["net", "done", "lot", "goal"] (defScope p_ring) := ⟨rfl, rfl, rfl, by decide +kernel, rfl, by decide +kernel, by decide +kernel⟩
theorem ok_ring {f C : Addr} {fd : FuncData} (F : Fun K "ring" "ring" p_ring f fd) (C1 : Cal P w K mg base 6 "ways" ["net", "done", "lot", "goal"] (spMix C)) (C2 : Cal P w K mg base 2 "least_ring" ["mixture"] spLRing) : FnOk P w K mg base CX0 7 f fd ["net", "done", "lot", "goal"] (spRing C) := by
  obtain ⟨f1, fd1, F1, k1, b1, g1⟩ := C1.ex
  obtain ⟨f2, fd2, F2, k2, b2, g2⟩ := C2.ex
  refine F.ok sc_ring (fun vs H Q E h => ?_) (fun cdv A outer s H vs Q E hr h => ?_)
  · obtain ⟨m, a, b, e, zs, ys, ends, dots, ss, ps, o, n, rfl, _⟩ := h
    rfl
  · obtain ⟨m, a, b, e, zs, ys, ends, dots, ss, ps, o, n, rfl, N, ok, he, t1, t2, La, Lb, dis, k⟩ := h
    refine ⟨_, pss_one (ps_ret (pe_call F2 (hr.mono (by decide)) rfl g2 k2 b2 .nil pass0 (pa_cons (pe_call F1 hr rfl g1 k1 b1 .nil pass0 (pa_cons (pv 0) (pa_cons (pv 1) (pa_cons (pv 2) (pa_cons (pv 3) pa_nil))))) pa_nil))), ?_⟩
    refine ⟨.ref m, rfl, .ref a, rfl, .ref b, rfl, .str e, rfl, m, a, b, e, zs, ys, ends, dots, ss, ps, o, n, rfl, N, ok, he, La, Lb, dis, fun D H1 x1 hD M => ?_⟩
    exact ⟨D, dots, _, rfl, M.mw, webs_of ok he t1 t2, ok.d6, ok.dn, ok.ds, fun v H' x h => k v H' (x1.trans x) h⟩
end
end Rw
end T_K2

section T_O0
set_option Elab.async false
set_option linter.all false
set_option maxRecDepth 100000
set_option maxHeartbeats 4000000
namespace Rw
open PySem L2 PyProof.Rows
/-! ### a table with another place -/
theorem tkv_val {tb : List (Str × V)} {z : Str} {v : V} (nd : (tb.map (·.1)).Nodup) (h : (z, v) ∈ tb) : valV (tkv tb) (Sum.inr z) = some v := by
  obtain ⟨u, hu, hm⟩ := tkv_some (tb := tb) (z := z) (List.mem_map_of_mem (f := (·.1)) h)
  obtain ⟨i, hi, ei⟩ := List.getElem_of_mem h
  obtain ⟨j, hj, ej⟩ := List.getElem_of_mem hm
  have a : (tb.map (·.1))[i]? = some z := by rw [List.getElem?_map, List.getElem?_eq_getElem hi, ei]; rfl
  have b : (tb.map (·.1))[j]? = some z := by rw [List.getElem?_map, List.getElem?_eq_getElem hj, ej]; rfl
  have ij : i = j := (List.getElem?_inj (by rw [List.length_map]; exact hi) nd).mp (a.trans b.symm)
  subst ij
  have q := ei.symm.trans ej
  rw [hu, (Prod.mk.inj q).2]
def setV (t : List (Str × V)) (z : Str) (v : V) : List (Str × V) := t.map fun q => if q.1 = z then (q.1, v) else q
theorem setV_keys (t : List (Str × V)) (z : Str) (v : V) : (setV t z v).map (·.1) = t.map (·.1) := by
  unfold setV
  rw [List.map_map]
  refine List.map_congr_left fun q _ => ?_
  show (if q.1 = z then (q.1, v) else q).1 = q.1
  split <;> rfl
theorem setV_put {t : List (Str × V)} {z : Str} (v : V) (h : z ∈ t.map (·.1)) : putK (tkv t) (Sum.inr z) v = tkv (setV t z v) := by
  obtain ⟨u, hu, _⟩ := tkv_some h
  have a : ((tkv t).any fun kv => decide (kv.1 = Sum.inr z)) = true := by rw [valV_any, hu]; rfl
  unfold putK
  rw [if_pos a]
  unfold tkv setV
  rw [List.map_map, List.map_map]
  refine List.map_congr_left fun q _ => ?_
  show (if (Sum.inr q.1 : Key) = Sum.inr z then ((Sum.inr q.1 : Key), v) else (Sum.inr q.1, q.2)) = (Sum.inr (if q.1 = z then (q.1, v) else q).1, (if q.1 = z then (q.1, v) else q).2)
  by_cases e : q.1 = z
  · rw [if_pos e, if_pos (by rw [e])]
  · rw [if_neg e, if_neg (fun w => e (Sum.inr.inj w))]
theorem setV_get {t : List (Str × V)} {z y : Str} {v : V} (h : z ∈ t.map (·.1)) : valV (tkv (setV t z v)) (Sum.inr y) = if y = z then some v else valV (tkv t) (Sum.inr y) := by
  rw [← setV_put v h, valV_put]
  by_cases e : y = z
  · rw [if_pos e, if_pos (by rw [e])]
  · rw [if_neg e, if_neg (fun w => e (Sum.inr.inj w))]
theorem setV_ok {dots : List Str} {e z : Str} {t : List (Str × V)} {v : V} (h : TabOk dots e t) (hv : PlaceOk dots e z v) : TabOk dots e (setV t z v) := by
  refine ⟨by rw [setV_keys]; exact h.ks, fun q hq => ?_⟩
  unfold setV at hq
  obtain ⟨u, hu, rfl⟩ := List.mem_map.mp hq
  by_cases e' : u.1 = z
  · rw [if_pos e', e']
    exact hv
  · rw [if_neg e']
    exact h.ps u hu
theorem canon_setV {dots : List Str} {e z : Str} {t : List (Str × V)} {v : V} (h : TabOk dots e t) (hz : z ∈ dots) : canon dots (setV t z v) = setV (canon dots t) z v := by
  unfold canon setV
  rw [List.map_map]
  refine List.map_congr_left fun y hy => ?_
  have g := setV_get (t := t) (z := z) (y := y) (v := v) (h.ks.mem_iff.mpr hz)
  unfold setV at g
  show (y, _) = if y = z then (y, v) else (y, _)
  rw [g]
  by_cases e' : y = z
  · rw [if_pos e', if_pos e']
    rfl
  · rw [if_neg e', if_neg e']
theorem look_setV {dots : List Str} {e z y : Str} {t : List (Str × V)} {v : V} (h : TabOk dots e t) (hz : z ∈ dots) : look (setV t z v) y = if y = z then v else look t y := by
  unfold look
  rw [setV_get (h.ks.mem_iff.mpr hz)]
  by_cases e' : y = z
  · rw [if_pos e', if_pos e']
    rfl
  · rw [if_neg e', if_neg e']
theorem canon_canon {dots : List Str} {t : List (Str × V)} : canon dots (canon dots t) = canon dots t := by
  unfold canon
  refine List.map_congr_left fun y hy => ?_
  have g := canon_get (dots := dots) (tb := t) hy
  unfold canon at g
  rw [g]
  rfl
/-- tables of which one has another place -/
def updT (g : Str → List (Str × V)) (e z : Str) (v : V) : Str → List (Str × V) := fun e' => if e' = e then setV (g e') z v else g e'
theorem NetAt.same {C : Addr} {H : Hp} {m : Addr} {ends dots ss ps : List Str} {o n o' n' : Str → List (Str × V)} (h : NetAt C H m ends dots ss ps o n) (h1 : ∀ e ∈ ends, canon dots (o e) = canon dots (o' e)) (h2 : ∀ e ∈ ends, canon dots (n e) = canon dots (n' e)) : NetAt C H m ends dots ss ps o' n' := by
  obtain ⟨dx, T, N, S, P, rows, g1, g2, g3, g4, g5, g6, g7⟩ := h.ex
  refine ⟨dx, T, N, S, P, rows, g1, g2, g3, g4, g5, g6, fun e he => ?_⟩
  obtain ⟨p, po, pn, q1, q2⟩ := g7 e he
  refine ⟨p, po, pn, q1, ?_⟩
  show PairAt H dots e p po pn (canon dots (o' e)) (canon dots (n' e))
  rw [← h1 e he, ← h2 e he]
  exact q2
theorem flat_apart {α β : Type} {g : α → List β} : ∀ {L : List α}, (L.flatMap g).Nodup → ∀ {u t : α} {a : β}, u ∈ L → t ∈ L → a ∈ g u → a ∈ g t → u = t ∨ False
  | [], _, _, _, _, h, _, _, _ => nomatch h
  | x :: L, h, u, t, a, hu, ht, h1, h2 => by
    rw [List.flatMap_cons] at h
    obtain ⟨n1, n2, n3⟩ := List.nodup_append.mp h
    rcases List.mem_cons.mp hu with e1 | hu'
    · rcases List.mem_cons.mp ht with e2 | ht'
      · exact .inl (e1.trans e2.symm)
      · exact absurd rfl (n3 a (e1 ▸ h1) a (List.mem_flatMap.mpr ⟨t, ht', h2⟩))
    · rcases List.mem_cons.mp ht with e2 | ht'
      · exact absurd rfl (n3 a (e2 ▸ h2) a (List.mem_flatMap.mpr ⟨u, hu', h1⟩))
      · exact flat_apart n2 hu' ht' h1 h2
theorem flat_own {α β : Type} {g : α → List β} : ∀ {L : List α}, (L.flatMap g).Nodup → ∀ {t : α}, t ∈ L → (g t).Nodup
  | [], _, _, h => nomatch h
  | x :: L, h, t, ht => by
    rw [List.flatMap_cons] at h
    obtain ⟨n1, n2, _⟩ := List.nodup_append.mp h
    rcases List.mem_cons.mp ht with rfl | ht
    · exact n1
    · exact flat_own n2 ht
theorem mem_spots {o n : List (Str × V)} {zs ys : List Str} {z : Str} {u : V} : u ∈ spotsOf o n zs ys z ↔ (z ∉ zs ∧ u = look o z) ∨ ((z ∈ zs ∨ z ∈ ys) ∧ u = look n z) := by
  unfold spotsOf
  by_cases h : z ∈ zs
  · rw [if_pos h, List.mem_singleton]
    exact ⟨fun q => .inr ⟨.inl h, q⟩, fun q => q.elim (fun q => absurd h q.1) (·.2)⟩
  · rw [if_neg h]
    by_cases hy : z ∈ ys
    · by_cases e : look o z = look n z
      · rw [decide_eq_true hy, decide_eq_true e, if_neg (by decide), List.mem_singleton]
        exact ⟨fun q => .inl ⟨h, q⟩, fun q => q.elim (·.2) fun q => by rw [e]; exact q.2⟩
      · rw [decide_eq_true hy, decide_eq_false e, if_pos (by decide), List.mem_cons, List.mem_singleton]
        exact ⟨fun q => q.elim (fun q => .inl ⟨h, q⟩) fun q => .inr ⟨.inr hy, q⟩, fun q => q.elim (fun q => .inl q.2) fun q => .inr q.2⟩
    · rw [decide_eq_false hy, Bool.false_and, if_neg (by decide), List.mem_singleton]
      exact ⟨fun q => .inl ⟨h, q⟩, fun q => q.elim (·.2) fun q => absurd q.1 fun t => t.elim h hy⟩
/-- a new object behind the draws -/
theorem off_new {d g c : Addr} {H H' : Hp} {p : Addr} {o : HO} (D : DrawAt H' d g c) (x : Evl.Ex (off d g H) (off d g H')) (h : H' p = none) : DrawAt (upd H' p o) d g c ∧ Evl.Ex (off d g H) (off d g (upd H' p o)) ∧ off d g (upd H' p o) p = some o ∧ off d g H p = none ∧ Evl.Ex (off d g H') (off d g (upd H' p o)) :=
  ⟨D.new h, x.trans (off_ex (Evl.Ex.new h)), off_of upd_same (D.ned h).1 (D.ned h).2.1, ex_none x (off_free h), off_ex (Evl.Ex.new h)⟩
/-- an object of one's own, changed -/
theorem off_put {d g c : Addr} {H H' : Hp} {p : Addr} {o u : HO} (D : DrawAt H' d g c) (x : Evl.Ex (off d g H) (off d g H')) (h : off d g H p = none) (hp : off d g H' p = some u) (hc : p ≠ c) : DrawAt (upd H' p o) d g c ∧ Evl.Ex (off d g H) (off d g (upd H' p o)) ∧ off d g (upd H' p o) p = some o := by
  have z := off_some hp
  refine ⟨D.mut z.1 z.2.1 hc, fun a v ha => ?_, off_of upd_same z.1 z.2.1⟩
  have y := off_some (x a v ha)
  refine off_of ?_ y.1 y.2.1
  rw [upd_ne (fun e => by rw [e, h] at ha; cases ha)]
  exact y.2.2
theorem off_up {d g : Addr} {H' : Hp} {p a : Addr} {o u : HO} (h : off d g H' a = some u) (ne : a ≠ p) : off d g (upd H' p o) a = some u := by
  have z := off_some h
  exact off_of (by rw [upd_ne ne]; exact z.2.2) z.1 z.2.1
theorem draw_c {d g c : Addr} {H : Hp} {p : Addr} {o : HO} (D : DrawAt H d g c) (h : off d g H p = some o) (no : ∀ xs, o ≠ .lst xs) : p ≠ c := fun e => by
  obtain ⟨cs, hc⟩ := D.cl
  rw [e] at h
  have := (off_some h).2.2
  rw [hc] at this
  cases this
  exact no _ rfl
/-! ### dict([(key, value) ..]) while its pairs are made -/
def PairsTo (H0 : Hp) (Dl : Addr) (tab : List (Str × V)) (j : Nat) (H' : Hp) : Prop := Evl.Ex H0 H' ∧ ∃ ps : List Addr, ps.length = j ∧ H' Dl = some (.lst (ps.map V.ref)) ∧ Paired (fun p kv => H' p = some (.tup [kV kv.1, kv.2])) ps (tkv (tab.take j))
theorem pairs_start {H0 : Hp} {Dl : Addr} {tab : List (Str × V)} (h : H0 Dl = none) : PairsTo H0 Dl tab 0 (upd H0 Dl (.lst [])) := ⟨Evl.Ex.new h, [], rfl, upd_same, .nil⟩
theorem pairs_step {H0 H' Hh : Hp} {Dl : Addr} {tab : List (Str × V)} {j : Nat} {z : Str} {v : V} (h : PairsTo H0 Dl tab j H') (hD : H0 Dl = none) (x : Evl.Ex H' Hh) (hg : tab[j]? = some (z, v)) (few : j < 100) :
    [V.str z, v].length ≤ sizeLine ∧ ∀ t, Hh t = none → ∃ acc, (upd Hh t (.tup [.str z, v])) Dl = some (.lst acc) ∧ acc.length < sizeLine ∧ PairsTo H0 Dl tab (j + 1) (upd (upd Hh t (.tup [.str z, v])) Dl (.lst (acc ++ [.ref t]))) := by
  obtain ⟨x5, ps, hpl, hD5, hp5⟩ := h
  refine ⟨by show 2 ≤ sizeLine; decide, fun t ht => ?_⟩
  have x7 : Evl.Ex H' (upd Hh t (.tup [.str z, v])) := x.trans (Evl.Ex.new ht)
  have htD : t ≠ Dl := (ne_of_none (x _ _ hD5) ht).symm
  refine ⟨_, x7 _ _ hD5, by rw [List.length_map]; exact small1000 (by omega), (x5.trans x7).mut hD, ps ++ [t], by simp [hpl], by rw [upd_same, List.map_append]; rfl, ?_⟩
  have etake : tab.take (j + 1) = tab.take j ++ [(z, v)] := by rw [List.take_add_one, hg]; rfl
  rw [etake]
  unfold tkv
  rw [List.map_append]
  have keep : ∀ (p : Addr) (kv : Key × V), H' p = some (.tup [kV kv.1, kv.2]) → (upd (upd Hh t (.tup [.str z, v])) Dl (.lst (ps.map V.ref ++ [V.ref t]))) p = some (.tup [kV kv.1, kv.2]) := fun p kv hp => by
    rw [upd_ne (ne_of hp hD5 (by intro z; cases z))]
    exact x7 _ _ hp
  have last : (upd (upd Hh t (.tup [.str z, v])) Dl (.lst (ps.map V.ref ++ [V.ref t]))) t = some (.tup [.str z, v]) := by rw [upd_ne htD, upd_same]
  exact Paired.snoc (Paired.mapP hp5 keep) last
end Rw
end T_O0

section T_R8
set_option Elab.async false
set_option linter.all false
set_option maxRecDepth 100000
set_option maxHeartbeats 8000000
namespace Rw
open PySem L2 PyProof.Rows
/-! ### what packets come to -/
/-- y can be reached from z -/
def Reach (dots : List Str) (f : Str → List V) (z y : Str) : Prop := ∃ r, IsWay dots f (z :: r) ∧ lastS z r = y
section
variable {dots : List Str} {f : Str → List V}
theorem way_short : ∀ (r : List Str) (x : Str), IsWay dots f (x :: r) → ∃ r', IsWay dots f (x :: r') ∧ lastS x r' = lastS x r ∧ (x :: r').Nodup
  | [], x, h => ⟨[], h, rfl, List.nodup_cons.mpr ⟨by simp, List.nodup_nil⟩⟩
  | y :: t, x, h => by
    obtain ⟨t', h1, h2, h3⟩ := way_short t y ⟨h.1.2, fun z hz => h.2 z (List.mem_cons_of_mem _ hz)⟩
    have xd := h.2 x List.mem_cons_self
    by_cases m : x ∈ y :: t'
    · obtain ⟨s, u, e⟩ := List.append_of_mem m
      refine ⟨u, ?_, ?_, ?_⟩
      · cases s with
        | nil =>
          have e' : y = x ∧ t' = u := by simpa using e
          rw [← e'.1, ← e'.2]
          exact h1
        | cons a s =>
          have e' : y = a ∧ t' = s ++ x :: u := by simpa using e
          rw [e'.2] at h1
          refine ⟨((way_mid y s x u).mp h1.1).2.2, fun z hz => h1.2 z ?_⟩
          exact List.mem_cons_of_mem _ (List.mem_append_right _ hz)
      · show lastS x u = lastS y t
        rw [← h2]
        cases s with
        | nil =>
          have e' : y = x ∧ t' = u := by simpa using e
          rw [e'.1, e'.2]
        | cons a s =>
          have e' : y = a ∧ t' = s ++ x :: u := by simpa using e
          rw [e'.2, lastS_mid]
      · rw [e] at h3
        exact (List.nodup_append.mp h3).2.1
    · exact ⟨y :: t', ⟨⟨h.1.1, h1.1⟩, fun z hz => by
        rcases List.mem_cons.mp hz with rfl | hz
        · exact xd
        · exact h1.2 z hz⟩, h2, List.nodup_cons.mpr ⟨m, h3⟩⟩
/-- reached by k hops at most -/
def ReachK (dots : List Str) (f : Str → List V) (z : Str) (k : Nat) (y : Str) : Prop := ∃ r, IsWay dots f (z :: r) ∧ lastS z r = y ∧ r.length ≤ k
theorem reachK_all {z y : Str} : ReachK dots f z dots.length y ↔ Reach dots f z y := by
  refine ⟨fun ⟨r, h1, h2, _⟩ => ⟨r, h1, h2⟩, fun ⟨r, h1, h2⟩ => ?_⟩
  obtain ⟨r', g1, g2, g3⟩ := way_short r z h1
  have := nodup_le (z :: r') dots g3 g1.2
  rw [List.length_cons] at this
  exact ⟨r', g1, g2.trans h2, by omega⟩
theorem reachK_zero {z y : Str} (hz : z ∈ dots) : ReachK dots f z 0 y ↔ y = z := by
  refine ⟨fun ⟨r, h1, h2, h3⟩ => ?_, fun e => ⟨[], isWay_one hz, e.symm, Nat.le_refl _⟩⟩
  have e : r = [] := List.eq_nil_of_length_eq_zero (by omega)
  rw [e] at h2
  exact h2.symm
theorem reachK_dots {z y : Str} {k : Nat} (h : ReachK dots f z k y) : y ∈ dots := by
  obtain ⟨r, h1, h2, _⟩ := h
  rw [← h2]
  refine h1.2 _ ?_
  have go : ∀ (r : List Str) (x : Str), lastS x r ∈ x :: r := fun r => by
    induction r with
    | nil => intro x; exact List.mem_cons_self
    | cons y r ih => intro x; exact List.mem_cons_of_mem _ (ih y)
  exact go r z
theorem reachK_next {z y : Str} {k : Nat} : ReachK dots f z (k + 1) y ↔ ReachK dots f z k y ∨ ∃ x, ReachK dots f z k x ∧ y ∈ behind dots f x := by
  constructor
  · rintro ⟨r, h1, h2, h3⟩
    by_cases q : r.length ≤ k
    · exact .inl ⟨r, h1, h2, q⟩
    · right
      have ne : r ≠ [] := fun e => by rw [e] at q; simp at q
      obtain ⟨p, x, e⟩ : ∃ p x, r = p ++ [x] := ⟨r.dropLast, r.getLast ne, (List.dropLast_concat_getLast ne).symm⟩
      subst e
      rw [lastS_mid] at h2
      have h2' : x = y := h2
      subst h2'
      rw [← List.cons_append] at h1
      obtain ⟨g1, g2, g3⟩ := (isWay_snoc (by simp)).mp h1
      rw [List.length_append, List.length_singleton] at h3
      exact ⟨lastS z p, ⟨p, g1, rfl, by omega⟩, mem_behind.mpr ⟨g2, g3⟩⟩
  · rintro (⟨r, h1, h2, h3⟩ | ⟨x, ⟨r, h1, h2, h3⟩, hy⟩)
    · exact ⟨r, h1, h2, by omega⟩
    · obtain ⟨b1, b2⟩ := mem_behind.mp hy
      refine ⟨r ++ [y], ?_, ?_, ?_⟩
      · rw [← List.cons_append]
        refine (isWay_snoc (by simp)).mpr ⟨h1, ?_, b2⟩
        show V.str y ∈ f (lastS z r)
        rw [h2]
        exact b1
      · rw [lastS_mid]
        rfl
      · rw [List.length_append, List.length_singleton]
        omega
end
/-- what reached answers -/
structure ReachedAt (dots : List Str) (f : Str → List V) (e z : Str) (H : Hp) (p a : Addr) (xs : List Str) (b1 b2 : Bool) : Prop where
  hp : H p = some (.tup [.ref a, .bl b1, .bl b2])
  ha : H a = some (.tup (xs.map V.str))
  so : sortedS xs = true
  nd : xs.Nodup
  all : ∀ y, y ∈ xs ↔ Reach dots f z y
  sub : ∀ y ∈ xs, y ∈ dots
  c1 : b1 = true ↔ ∃ y ∈ xs, V.str e ∈ f y
  c2 : b2 = true ↔ ∃ y ∈ xs, V.non ∈ f y
theorem inV_non {l : List V} (h : ∀ v ∈ l, Spot v) : inV .non l = decide (V.non ∈ l) := by
  induction l with
  | nil => rfl
  | cons v l ih =>
    show (eqV v .non || inV .non l) = _
    rw [ih fun u hu => h u (List.mem_cons_of_mem _ hu)]
    rcases h v List.mem_cons_self with rfl | ⟨y, rfl, _⟩
    · exact (decide_eq_true (List.mem_cons_self)).symm
    · show (false || _) = _
      rw [Bool.false_or]
      exact decide_eq_decide.mpr ⟨fun q => List.mem_cons_of_mem _ q, fun q => (List.mem_cons.mp q).resolve_left (fun e => nomatch e)⟩
section
variable {P : Program} {w : World} {K : PySem.W.Frag} {mg : Str → Option Value} {base : Heap}
def spReached (C : Addr) : Sp := fun vs H Q _ => ∃ (m a b : Addr) (e z : Str) (zs ys ends dots ss ps : List Str) (o n : Str → List (Str × V)), vs = [.ref m, .ref a, .ref b, .str e, .str z] ∧ NetAt C H m ends dots ss ps o n ∧ ModelOk ends dots ss ps ∧ e ∈ ends ∧ z ∈ dots ∧ TabOk dots e (o e) ∧ TabOk dots e (n e) ∧
  LotAt H a zs (moving ends dots o n) ∧ LotAt H b ys (moving ends dots o n) ∧ (∀ y ∈ ys, y ∉ zs) ∧ ∀ p t xs b1 b2 H', Evl.Ex H H' → ReachedAt dots (spotsOf (o e) (n e) zs ys) e z H' p t xs b1 b2 → Q (.ref p) H'
abbrev nNodesR : List Str := ["mixture", "starts", "found", "_", "begun", "place"]
theorem sc_nodesR : FnScope nNodesR ["mixture", "starts"] (defScope p_nodes_reached) := ⟨rfl, rfl, rfl, by decide +kernel, rfl, by decide +kernel, by decide +kernel⟩
def spNR (K : PySem.W.Frag) : Sp := fun vs H Q _ => ∃ (D S : Addr) (zs dots : List Str) (f : Str → List V), vs = [.ref D, .ref S] ∧ MixW H D dots f ∧ Webs dots f ∧ dots.length ≤ 6 ∧ SqL K H S (zs.map V.str) ∧ zs.Nodup ∧ (∀ z ∈ zs, z ∈ dots) ∧
  ∀ (p : Addr) (xs : List Str) (H' : Hp), Evl.Ex H H' → H' p = some (.lst (xs.map V.str)) → sortedS xs = true → xs.Nodup → (∀ y, y ∈ xs ↔ ∃ s ∈ zs, Reach dots f s y) → Q (.ref p) H'
theorem ok_nr {f : Addr} {fd : FuncData} (F : Fun K "nodes_reached" "nodes_reached" p_nodes_reached f fd) (C2 : Cal P w K mg base 1 "nodes_behind" ["mixture", "node"] spBehind)
    (mSorted : mg "sorted" = none) (mSet : mg "set" = none) : FnOk P w K mg base CX0 2 f fd ["mixture", "starts"] (spNR K) := by
  obtain ⟨f2, fd2, F2, k2, b2, g2⟩ := C2.ex
  refine F.ok sc_nodesR (fun vs H Q E h => ?_) (fun cdv A outer s H vs Q E hr h => ?_)
  · obtain ⟨D, S, zs, dots, f, rfl, _⟩ := h
    rfl
  · obtain ⟨D, S, zs, dots, f, rfl, M, W, d6, hS, zn, zd, k⟩ := h
    have nd := sc_nodesR.nd
    have hu := hu_of hr
    have hr1 : Room 1 _ := hr.mono (by decide)
    refine ⟨_, PSs.nox (pss_cons (ps_set (i := 2) nd rfl (.inl rfl) (pe_callB cr_sortedS (by rfl) mSorted (by decide +kernel) (pa_cons (pv 1) pa_nil)))
      (pss_cons (ps_lock (ps_for PassesOwn.never rfl (pi_keys (pv 0)) (pg_name (i := 3) nd rfl (.inl rfl))
        (pss_one (ps_set (i := 2) nd rfl (.inl rfl) (pe_callB (cr_sortedX rfl) (by rfl) mSorted (by decide +kernel) (pa_cons (pe_callTy (cr_setX rfl) (by rfl) mSet (by decide +kernel) (pa_cons (pe_op op_cat (pv 2)
          (pe_lc2 (own := [("begun", 4), ("place", 5)]) (vs1 := [5]) (g := gName 4) (tt := tYes) (g1 := gName 5) (tt1 := tYes) (wi1 := iList K (tCall spBehind [] E0 (tCons (tVar 0) (tCons (tVar 4) tNil)))) (te := tVar 5) rfl nd (pi_list (pv 2)) (blkOk_by (own := [("begun", 4), ("place", 5)]) (N := nNodesR) (sc := defScope p_nodes_reached) (by decide +kernel)) (by decide)
            (fun _ _ _ _ _ => pg_name (i := 4) nd rfl (Or.inl rfl)) (fun _ _ _ _ _ => pts_nil) (fun _ _ _ _ _ => pi_list (pe_call F2 hr1 rfl g2 k2 b2 .nil pass0 (pa_cons (pv 0) (pa_cons (pv 4) pa_nil))))
            (fun _ _ _ _ _ => pg_name (i := 5) nd rfl (Or.inl rfl)) (fun _ _ _ _ _ => pts_nil) (fun _ _ _ _ _ => pv 5))) pa_nil)) pa_nil))))))
      (pss_one (ps_ret (pv 2))))), ?_⟩
    have zl : zs.length ≤ 6 := Nat.le_trans (nodup_le zs dots zn zd) d6
    obtain ⟨rs, r1, r2, r3⟩ := M.ex
    have rl : rs.length = dots.length := by rw [← r2, List.length_map]
    have tl : (tkv rs).length = dots.length := by rw [tkv_len, rl]
    -- found = sorted(starts)
    refine ⟨.ref S, rfl, S, zs, rfl, hS, by omega, fun vs0 F0 hvs hso0 hF0 => ?_⟩
    have y1 : Evl.Ex H (upd H F0 (.lst (vs0.map V.str))) := Evl.Ex.new hF0
    have l1 : (upd H F0 (.lst (vs0.map V.str))) F0 = some (.lst (vs0.map V.str)) := upd_same
    generalize upd H F0 (.lst (vs0.map V.str)) = H2 at y1 l1
    have x2 := y1
    have r12 := y1 _ _ r1
    -- for _ in mixture
    refine ⟨D, .dK (tkv rs), r12, trivial, fun od => ?_⟩
    have lockB : (upd H2 D (.frz od (.dK (tkv rs)))) D = some (.frz od (.dK (tkv rs))) := upd_same
    have back : ∀ {H4 : Hp}, Evl.Ex (upd H2 D (.frz od (.dK (tkv rs)))) H4 → Evl.Ex H2 (upd H4 D (.dK (tkv rs))) := fun {H4} x b u h => by
      by_cases q : b = D
      · subst q
        rw [upd_same, ← r12, h]
      · rw [upd_ne q]
        exact x _ _ (by rw [upd_ne q]; exact h)
    have MB : MixR (upd H2 D (.frz od (.dK (tkv rs)))) D dots f := ⟨rs, .inr ⟨od, lockB⟩, r2, fun q hq => let ⟨l, e1, e3⟩ := r3 q hq; ⟨l, e1, by rw [upd_ne (ne_of e3 r1 (by intro z; cases z))]; exact y1 _ _ e3⟩⟩
    have lB : (upd H2 D (.frz od (.dK (tkv rs)))) F0 = some (.lst (vs0.map V.str)) := by rw [upd_ne (ne_of l1 r12 (by intro z; cases z))]; exact l1
    generalize upd H2 D (.frz od (.dK (tkv rs))) = HB at lockB back MB lB
    refine ⟨.ref D, rfl, D, od, rfl, .inl ⟨tkv rs, lockB, for_it walk_keys
      (fun i σ H' => ∃ (x7 : Option V) (Fa : Addr) (xs : List Str), σ = [some (.ref D), some (.ref S), some (.ref Fa), x7, none, none] ∧ Evl.Ex HB H' ∧ H' Fa = some (.lst (xs.map V.str)) ∧ sortedS xs = true ∧ xs.Nodup ∧ (∀ y, y ∈ xs ↔ ∃ s ∈ zs, ReachK dots f s i y))
      ⟨none, F0, vs0, rfl, Evl.Ex.refl _, lB, hso0, hvs.nodup_iff.mpr zn, fun y => by
        rw [hvs.mem_iff]
        exact ⟨fun hy => ⟨y, hy, (reachK_zero (zd y hy)).mpr rfl⟩, fun ⟨s, hs, h⟩ => by rw [(reachK_zero (zd s hs)).mp h]; exact hs⟩⟩ (fun i σ H' _ ⟨_, _, _, _, x, _⟩ => x _ _ lockB) ?_ ?_⟩⟩
    · rintro i x σ H3 H3' hi ⟨x7, Fa, xs, rfl, x3, l3, so3, nd3, all3⟩ ⟨rfl, kk, v, hkv, rfl⟩
      have sub3 : ∀ y ∈ xs, y ∈ dots := fun y hy => let ⟨_, _, h⟩ := (all3 y).mp hy; reachK_dots h
      have few : xs.length ≤ 6 := Nat.le_trans (nodup_le xs dots nd3 sub3) d6
      refine ⟨.ref Fa, rfl, .ref Fa, rfl, Fa, rfl, ⟨_, Evl.sq_of l3⟩, fun R2 hR2 => lc2_out (walk_list (xs := xs.map V.str))
        (fun j H5 => Evl.Ex H3' H5 ∧ ∃ us : List Str, H5 R2 = some (.lst (us.map V.str)) ∧ us = (xs.take j).flatMap (behind dots f) ∧ us.length ≤ 2 * j)
        ⟨Evl.Ex.new hR2, [], upd_same, rfl, Nat.le_refl _⟩ (fun j H5 _ h => Evl.sq_of (h.1 _ _ l3)) ?_ ?_⟩
      · rintro j v H5 H5' hj ⟨x5, us, p5, eus, lus⟩ ⟨rfl, hv⟩
        rw [List.length_map] at hj
        obtain ⟨y, hy, rfl⟩ := str_at hv
        have yd := sub3 y (List.mem_of_getElem? hy)
        refine ⟨rfl, ?_⟩
        refine yes_if ?_
        refine ⟨.ref D, rfl, .str y, rfl, D, y, dots, f, rfl, MB.to (x3.trans x5), yd, W, fun bl H6 x6 hbl b6 => ?_⟩
        have bl2 : (behind dots f y).length ≤ 2 := Nat.le_trans (List.length_filterMap_le _ _) (W.two _ yd)
        refine ⟨bl, rfl, ⟨_, Evl.sq_of b6⟩, lc2_in (walk_list (xs := (behind dots f y).map V.str))
          (fun l H8 => Evl.Ex H3' H8 ∧ H8 bl = some (.lst ((behind dots f y).map V.str)) ∧ ∃ us3 : List Str, H8 R2 = some (.lst (us3.map V.str)) ∧ us3 = us ++ (behind dots f y).take l ∧ us3.length ≤ 2 * j + l)
          ⟨x5.trans x6, b6, us, x6 _ _ p5, by rw [List.take_zero, List.append_nil], lus⟩ (fun l H8 _ h => Evl.sq_of h.2.1) ?_ ?_⟩
        · rintro l v H8 H8' hl ⟨x8, s8, us3, p3, e3, l3'⟩ ⟨rfl, hv8⟩
          obtain ⟨u, hu', rfl⟩ := str_at hv8
          rw [List.length_map] at hl
          refine ⟨rfl, ?_⟩
          refine yes_if ?_
          have nSR : bl ≠ R2 := (ne_of_none p5 hbl).symm
          refine ⟨.str u, rfl, _, p3, by rw [List.length_map]; exact small1000 (by omega), x8.mut hR2, by rw [upd_ne nSR]; exact s8, us3 ++ [u], ?_, ?_, ?_⟩
          · rw [upd_same, List.map_append]
            rfl
          · rw [e3, List.take_add_one, hu', List.append_assoc]
            rfl
          · rw [List.length_append]
            show us3.length + 1 ≤ _
            omega
        · rintro H8 ⟨x8, s8, us3, p3, e3, l3'⟩
          rw [List.length_map, List.take_length] at e3
          rw [List.length_map] at l3'
          refine ⟨x8, us3, p3, ?_, by omega⟩
          rw [e3, eus, List.take_add_one, hy, List.flatMap_append]
          show _ = _ ++ (behind dots f y ++ [])
          rw [List.append_nil]
      · rintro H5 ⟨x5, us, p5, eus, lus⟩
        rw [List.length_map] at lus eus
        rw [List.take_length] at eus
        -- found + [..]
        refine ⟨Fa, R2, xs.map V.str, us.map V.str, rfl, rfl, x5 _ _ l3, p5, by rw [List.length_map, List.length_map]; exact Nat.le_of_lt (small1000 (by omega)), fun c hc => ?_⟩
        have y6 : Evl.Ex H5 (upd H5 c (.lst (xs.map V.str ++ us.map V.str))) := Evl.Ex.new hc
        have c6 : (upd H5 c (.lst (xs.map V.str ++ us.map V.str))) c = some (.lst ((xs ++ us).map V.str)) := by rw [upd_same, List.map_append]
        generalize upd H5 c (.lst (xs.map V.str ++ us.map V.str)) = H6 at y6 c6
        refine ⟨c, xs ++ us, rfl, .inl (Evl.sq_of c6), by rw [List.length_append]; omega, fun q hq => ?_⟩
        have y7 := Evl.Ex.new (o := SetXO w q (seen (xs ++ us))) hq
        obtain ⟨sn, sm, sl⟩ := seen_rev (xs ++ us)
        refine ⟨q, seen (xs ++ us), rfl, upd_same, by rw [List.length_append] at sl; omega, fun ws l hws hso hl => ?_⟩
        have y8 := Evl.Ex.new (o := HO.lst (ws.map V.str)) hl
        refine ⟨_, l, ws, rfl, ((x3.trans x5).trans y6).trans (y7.trans y8), upd_same, hso, hws.nodup_iff.mpr sn, fun y => ?_⟩
        rw [hws.mem_iff, sm y, List.mem_append, all3 y, eus, List.mem_flatMap]
        constructor
        · rintro (⟨s, hs, h⟩ | ⟨x, h1, h2⟩)
          · exact ⟨s, hs, reachK_next.mpr (.inl h)⟩
          · obtain ⟨s, hs, h⟩ := (all3 x).mp h1
            exact ⟨s, hs, reachK_next.mpr (.inr ⟨x, h, h2⟩)⟩
        · rintro ⟨s, hs, h⟩
          rcases reachK_next.mp h with h | ⟨x, h, h2⟩
          · exact .inl ⟨s, hs, h⟩
          · exact .inr ⟨x, (all3 x).mpr ⟨s, hs, h⟩, h2⟩
    · rintro σ H3 ⟨x7, Fa, xs, rfl, x3, l3, so3, nd3, all3⟩
      rw [tl] at all3
      refine ⟨x3 _ _ lockB, ?_⟩
      have yb := back x3
      have l4 : (upd H3 D (.dK (tkv rs))) Fa = some (.lst (xs.map V.str)) := by rw [upd_ne (ne_of l3 (x3 _ _ lockB) (by intro z; cases z))]; exact l3
      generalize upd H3 D (.dK (tkv rs)) = H4 at yb l4
      exact ⟨.ref Fa, rfl, k Fa xs H4 (x2.trans yb) l4 so3 nd3 fun y => (all3 y).trans ⟨fun ⟨s, hs, h⟩ => ⟨s, hs, reachK_all.mp h⟩, fun ⟨s, hs, h⟩ => ⟨s, hs, reachK_all.mpr h⟩⟩⟩
abbrev nReached : List Str := ["net", "done", "lot", "goal", "node", "mixture", "found", "ends", "begun", "place"]
theorem sc_reached : FnScope nReached ["net", "done", "lot", "goal", "node"] (defScope p_reached) := ⟨rfl, rfl, rfl, by decide +kernel, rfl, by decide +kernel, by decide +kernel⟩
theorem ok_reached {f C : Addr} {fd : FuncData} (F : Fun K "reached" "reached" p_reached f fd) (C1 : Cal P w K mg base 6 "ways" ["net", "done", "lot", "goal"] (spMix C)) (C2 : Cal P w K mg base 2 "nodes_reached" ["mixture", "starts"] (spNR K)) (C3 : Cal P w K mg base 3 "check_node" ["net", "node"] (spCheckDot C))
    (mTup : mg "tuple" = none) (mSorted : mg "sorted" = none) (mSet : mg "set" = none) : FnOk P w K mg base CX0 7 f fd ["net", "done", "lot", "goal", "node"] (spReached C) := by
  obtain ⟨f1, fd1, F1, k1, b1, g1⟩ := C1.ex
  obtain ⟨f2, fd2, F2, k2, b2, g2⟩ := C2.ex
  obtain ⟨f3, fd3, F3, k3, b3, g3⟩ := C3.ex
  refine F.ok sc_reached (fun vs H Q E h => ?_) (fun cdv A outer s H vs Q E hr h => ?_)
  · obtain ⟨m, a, b, e, z, zs, ys, ends, dots, ss, ps, o, n, rfl, _⟩ := h
    rfl
  · obtain ⟨m, a, b, e, z, zs, ys, ends, dots, ss, ps, o, n, rfl, N, ok, he, hz, t1, t2, La, Lb, dis, k⟩ := h
    have nd := sc_reached.nd
    have hu := hu_of hr
    have hr3 : Room 3 _ := hr.mono (by decide)
    refine ⟨_, PSs.nox (pss_cons (ps_set (i := 5) nd rfl (.inr rfl) (pe_call F1 hr rfl g1 k1 b1 .nil pass0 (pa_cons (pv 0) (pa_cons (pv 1) (pa_cons (pv 2) (pa_cons (pv 3) pa_nil))))))
      (pss_cons (ps_expr (pe_call F3 hr3 rfl g3 k3 b3 .nil pass0 (pa_cons (pv 0) (pa_cons (pv 4) pa_nil))))
      (pss_cons (ps_set (i := 6) nd rfl (.inl rfl) (pe_call F2 (hr.mono (by decide)) rfl g2 k2 b2 .nil pass0 (pa_cons (pv 5) (pa_cons (pe_lst (pa_cons (pv 4) pa_nil)) pa_nil))))
      (pss_cons (ps_setLc2 (i := 7) (own := [("begun", 8), ("place", 9)]) (vs1 := [9]) (g := gName 8) (tt := tYes) (g1 := gName 9) (tt1 := tYes) (wi1 := iList K (tDGet (tVar 5) (tVar 8))) (te := tVar 9)
          (by rfl) nd rfl rfl (sw_true rfl rfl rfl (by decide +kernel)) (pi_list (pv 6)) (blkOk_by (own := [("begun", 8), ("place", 9)]) (N := nReached) (sc := defScope p_reached) (by decide +kernel)) (by decide)
          (fun _ _ _ _ _ => pg_name (i := 8) nd rfl (Or.inl rfl)) (fun _ _ _ _ _ => pts_nil) (fun _ _ _ _ _ => pi_list (pe_dget hu (pv 5) (pv 8) (fun _ _ => rfl)))
          (fun _ _ _ _ _ => pg_name (i := 9) nd rfl (Or.inl rfl)) (fun _ _ _ _ _ => pts_nil) (fun _ _ _ _ _ => pv 9))
      (pss_one (ps_ret (pe_tup (pa_cons (pe_callTy call_tuple_of (by rfl) mTup (by decide +kernel) (pa_cons (pv 6) pa_nil)) (pa_cons (pe_cmpR op_in_seq (pv 3) (pv 7) rfl) (pa_cons (pe_cmpR op_in_seq pe_non (pv 7) rfl) pa_nil)))))))))), ?_⟩
    have d6 := ok.d6
    have W : Webs dots (spotsOf (o e) (n e) zs ys) := webs_of ok he t1 t2
    generalize hf : spotsOf (o e) (n e) zs ys = f at W k
    refine ⟨.ref m, rfl, .ref a, rfl, .ref b, rfl, .str e, rfl, m, a, b, e, zs, ys, ends, dots, ss, ps, o, n, rfl, N, ok, he, La, Lb, dis, fun D H1 x1 hD M => ?_⟩
    rw [hf] at M
    obtain ⟨rs, r1, r2, r3⟩ := M.ex
    have rl : rs.length = dots.length := by rw [← r2, List.length_map]
    have tl : (tkv rs).length = dots.length := by rw [tkv_len, rl]
    -- check_node
    refine ⟨.ref m, rfl, .str z, rfl, m, z, ends, dots, ss, ps, o, n, rfl, N.to x1, hz, ?_⟩
    -- found
    refine ⟨.ref D, rfl, .str z, rfl, by show 1 ≤ sizeLine; decide, fun F0 hF0 => ?_⟩
    have y1 : Evl.Ex H1 (upd H1 F0 (.lst [.str z])) := Evl.Ex.new hF0
    have l1 : (upd H1 F0 (.lst [.str z])) F0 = some (.lst ([z].map V.str)) := upd_same
    have n01 : F0 ≠ D := (ne_of_none r1 hF0).symm
    generalize upd H1 F0 (.lst [.str z]) = H2 at y1 l1
    have M2 : MixW H2 D dots f := ⟨rs, y1 _ _ r1, r2, fun q hq => let ⟨l, e1, _, e3⟩ := r3 q hq; ⟨l, e1, y1 _ _ e3⟩⟩
    refine ⟨D, F0, [z], dots, f, rfl, M2, W, d6, Evl.sq_of l1, by simp, fun y hy => by rw [List.mem_singleton.mp hy]; exact hz, fun Fa xs H4 yb l4 so3 nd3 all3 => ?_⟩
    have all : ∀ y, y ∈ xs ↔ Reach dots f z y := fun y => (all3 y).trans ⟨fun ⟨s, hs, h⟩ => by rw [List.mem_singleton.mp hs] at h; exact h, fun h => ⟨z, List.mem_singleton.mpr rfl, h⟩⟩
    have sub3 : ∀ y ∈ xs, y ∈ dots := fun y hy => reachK_dots (reachK_all.mpr ((all y).mp hy))
    have few : xs.length ≤ 6 := Nat.le_trans (nodup_le xs dots nd3 sub3) d6
    have x4 := (x1.trans y1).trans yb
    have M4 : MixR H4 D dots f := M2.r.to yb
    -- ends
    refine ⟨.ref Fa, rfl, Fa, rfl, ⟨_, Evl.sq_of l4⟩, fun E0' hE0 => lc2_out (walk_list (xs := xs.map V.str))
      (fun j H5 => Evl.Ex H4 H5 ∧ ∃ us : List V, H5 E0' = some (.lst us) ∧ us = (xs.take j).flatMap f ∧ us.length ≤ 2 * j)
      ⟨Evl.Ex.new hE0, [], upd_same, rfl, Nat.le_refl _⟩ (fun j H5 _ h => Evl.sq_of (h.1 _ _ l4)) ?_ ?_⟩
    · rintro j v H5 H5' hj ⟨x5, us, p5, eus, lus⟩ ⟨rfl, hv⟩
      rw [List.length_map] at hj
      obtain ⟨y, hy, rfl⟩ := str_at hv
      have yd := sub3 y (List.mem_of_getElem? hy)
      obtain ⟨rs4, q1, q2, q3⟩ := M4.ex
      obtain ⟨vv, hv1, hm⟩ := tkv_some (tb := rs4) (z := y) (by rw [q2]; exact yd)
      obtain ⟨l, ea, hl4⟩ := q3 _ hm
      have ea' : vv = .ref l := ea
      subst ea'
      have gl : DGet H5' D (.str y) (some (.ref l)) := dget_rd (k := Sum.inr y) (rd_ex x5 q1) hv1
      have hl := x5 _ _ hl4
      have nlE : l ≠ E0' := ne_of_none hl4 hE0
      have two := W.two y yd
      refine ⟨rfl, ?_⟩
      refine yes_if ?_
      refine ⟨.ref D, rfl, .str y, rfl, D, .ref l, rfl, gl, l, rfl, ⟨_, Evl.sq_of hl⟩, lc2_in (walk_list (xs := f y))
        (fun i H8 => Evl.Ex H4 H8 ∧ H8 l = some (.lst (f y)) ∧ ∃ us3 : List V, H8 E0' = some (.lst us3) ∧ us3 = us ++ (f y).take i ∧ us3.length ≤ 2 * j + i)
        ⟨x5, hl, us, p5, by rw [List.take_zero, List.append_nil], lus⟩ (fun i H8 _ h => Evl.sq_of h.2.1) ?_ ?_⟩
      · rintro i v H8 H8' hi ⟨x8, s8, us3, p3, e3, l3'⟩ ⟨rfl, hv8⟩
        refine ⟨rfl, ?_⟩
        refine yes_if ?_
        refine ⟨v, rfl, _, p3, small1000 (by omega), x8.mut hE0, by rw [upd_ne nlE]; exact s8, us3 ++ [v], upd_same, ?_, ?_⟩
        · rw [e3, List.take_add_one, hv8, List.append_assoc]
          rfl
        · rw [List.length_append]
          show us3.length + 1 ≤ _
          omega
      · rintro H8 ⟨x8, s8, us3, p3, e3, l3'⟩
        rw [List.take_length] at e3
        refine ⟨x8, us3, p3, ?_, by omega⟩
        rw [e3, eus, List.take_add_one, hy, List.flatMap_append]
        show _ = _ ++ (f y ++ [])
        rw [List.append_nil]
    · rintro H5 ⟨x5, us, p5, eus, lus⟩
      rw [List.length_map, List.take_length] at eus
      have spo : ∀ v ∈ us, Spot v := fun v hv => by
        rw [eus] at hv
        obtain ⟨y, hy, hv⟩ := List.mem_flatMap.mp hv
        exact W.sp y (sub3 y hy) v hv
      have has : ∀ v : V, v ∈ us ↔ ∃ y ∈ xs, v ∈ f y := fun v => by rw [eus]; exact List.mem_flatMap
      -- (tuple(found), goal in ends, None in ends)
      refine ⟨.ref Fa, rfl, Fa, _, rfl, .inl ⟨Evl.sq_of (x5 _ _ l4), fun t ht => ?_⟩⟩
      have y6 : Evl.Ex H5 (upd H5 t (.tup (xs.map V.str))) := Evl.Ex.new ht
      have t6 : (upd H5 t (.tup (xs.map V.str))) t = some (.tup (xs.map V.str)) := upd_same
      generalize upd H5 t (.tup (xs.map V.str)) = H6 at y6 t6
      have p6 := y6 _ _ p5
      refine ⟨.str e, rfl, .ref E0', rfl, E0', _, rfl, .inl (Evl.sq_of p6), rfl, flat_spots spo, ?_⟩
      rw [if_neg (by decide), inV_spots e spo]
      refine ⟨.ref E0', rfl, E0', _, rfl, .inl (Evl.sq_of p6), rfl, flat_spots spo, ?_⟩
      rw [if_neg (by decide), inV_non spo]
      refine ⟨by show 3 ≤ sizeLine; decide, fun p hp => ?_⟩
      have y7 : Evl.Ex H6 (upd H6 p (.tup [.ref t, .bl (decide (V.str e ∈ us)), .bl (decide (V.non ∈ us))])) := Evl.Ex.new hp
      exact k p t xs _ _ _ ((x4.trans x5).trans (y6.trans y7)) ⟨upd_same, y7 _ _ t6, so3, nd3, all, sub3, by rw [decide_eq_true_eq]; exact has _, by rw [decide_eq_true_eq]; exact has _⟩
end
end Rw
end T_R8

section T_V3
set_option Elab.async false
set_option linter.all false
set_option maxRecDepth 100000
set_option maxHeartbeats 4000000
/-! ### y = {k: v for ..} -/
namespace L2
open PySem PySem.Spec PyProof.Rows
section
variable {X : Cx}
theorem ps_setDc {i : Nat} {y : Str} {py : Pos} {kx vx tg iter : Expr} {ifs : List Expr} {scope : Scope} {own : List (Str × Nat)} {pos spos : Pos} {wi : TI} {g : TG} {tt : TT} {tk tv : TE} (hc : X.calm = true) (hN : X.N.Nodup) (hy : X.N[i]? = some y) (hyl : X.env.scope.names.lookup y = some .local)
    (hsw : swapsWith (.DictComp kx vx [⟨tg, iter, ifs, 0⟩] scope pos) (some (.Name y py)) spos.line X.env = pure true) (hi : PI X tg iter wi) (ok : BlkOk X.N X.env.scope scope own)
    (hg : ∀ (s : Shared) (H : Hp) (C : Addr) (cl : List (Str × Addr)) (fp : List Addr), PG (X.blk s H scope (compEnvC scope cl C X.env) fp) tg g) (ht : ∀ (s : Shared) (H : Hp) (C : Addr) (cl : List (Str × Addr)) (fp : List Addr), PTs (X.blk s H scope (compEnvC scope cl C X.env) fp) ifs tt)
    (hk : ∀ (s : Shared) (H : Hp) (C : Addr) (cl : List (Str × Addr)) (fp : List Addr), PE (X.blk s H scope (compEnvC scope cl C X.env) fp) kx tk)
    (he : ∀ (s : Shared) (H : Hp) (C : Addr) (cl : List (Str × Addr)) (fp : List Addr), PE (X.blk s H scope (compEnvC scope cl C X.env) fp) vx tv) (hs : ∀ x, foldedSetIterable iter X.env x = pure x := by intro _; rfl) :
    PS X (.Assign [.Name y py] (.DictComp kx vx [⟨tg, iter, ifs, 0⟩] scope pos) spos) (tAsg (tDc wi g tt tk tv (own.map (·.2))) (gName i)) := by
  refine ⟨fun pins s σ H D I h => ?_⟩
  rw [exec_Assign_Name_used _ _ _ _ hsw]
  refine wpAny_bind (wpAny_standAt (wpAny_bind ?_))
  show wpAny _ X.A (do let _ ← comprehension (.DictComp kx vx [⟨tg, iter, ifs, 0⟩] scope pos) scope X.env (firstIterPos [⟨tg, iter, ifs, 0⟩] pos) newDict false (eval iter X.env) (some (assign (.Name y py) X.env))) _ _ s
  have h : tDc wi g tt tk tv (own.map (·.2)) σ H (fun x H1 => gName i x σ H1 D.nx) := h
  refine wpAny_bind (thn (dc_core (Qf := fun _ s' => SP X pins D .next s') hc hN I hi ok hg ht hk he hs h fun L C s' m H' I' q hn f => ?_) fun _ s' hq => wpAny_pure (wpAny_pure hq))
  show wpAny _ _ (assign (.Name y py) X.env (.ref L)) _ _ _
  refine wpAny_assign_Name (store_ok2 (v := V.ref L) I' hN hy (.inl hyl) rfl (fun s2 I2 ⟨a, sb, ha⟩ => ?_) (.inr hyl))
  obtain ⟨f0, f1, f2, f3, f4, f5⟩ := f
  have haC : C ≠ a := by
    rcases ha with z | z
    · rw [z]; exact f1
    · exact fun e => f4 y a z e.symm
  refine ⟨m, hn.sameBut sb haC, fun h3 sb3 => ?_⟩
  exact ⟨_, H', I2.turned (t' := s2.toks) (fun b o hb e => (sb3.2 b hb).trans e) f0 f1 f3 f4 f5, q⟩
theorem sw_trueD {kx vx : Expr} {gs : List Comprehension} {scope : Scope} {pos py : Pos} {y : Str} {l : Nat} {env : Env} (hk : env.scope.kind = .function) (hy : env.scope.names.lookup y = some .local) (hl : (py.line == pos.line) = true)
    (ha : (scope.names.any fun (n, k) => n == y && (k == .local || k == .cell)) = false) : swapsWith (.DictComp kx vx gs scope pos) (some (.Name y py)) l env = pure true := by
  have ky : env.kindOf y = some .local := hy
  have hb : env.blockKind = .function := by unfold Env.blockKind; rw [hk]; rfl
  unfold swapsWith
  simp only [hb, ky, ha, Expr.pos, hl]
  rfl
end
end L2
end T_V3

section T_R9
set_option Elab.async false
set_option linter.all false
set_option maxRecDepth 100000
set_option maxHeartbeats 8000000
namespace Rw
open PySem L2 PyProof.Rows
/-! ### turned() -/
def pairRs (rs : List (Str × Addr)) : List (Str × V) := rs.map fun q => (q.1, V.ref q.2)
theorem pairRs_keys (rs : List (Str × Addr)) : (pairRs rs).map (·.1) = rs.map (·.1) := by
  unfold pairRs
  rw [List.map_map]
  rfl
section
variable {P : Program} {w : World} {K : PySem.W.Frag} {mg : Str → Option Value} {base : Heap}
def spTurned (C : Addr) : Sp := fun vs H Q _ => ∃ (m : Addr) (ends dots ss ps : List Str) (o n : Str → List (Str × V)), vs = [.ref m] ∧ NetAt C H m ends dots ss ps o n ∧ ModelOk ends dots ss ps ∧
  ∀ x H', Evl.Ex H H' → H x = none → NetAt C H' x ends dots ss ps n o → Q (.ref x) H'
abbrev nTurned : List Str := ["self", "tables", "goal", "old", "new"]
theorem sc_turned : FnScope nTurned ["self"] (defScope c_Net_turned) := ⟨rfl, rfl, rfl, by decide +kernel, rfl, by decide +kernel, by decide +kernel⟩
theorem ok_turned {f C fi : Addr} {fd fdi : FuncData} (F : Fun K "turned" "Net.turned" c_Net_turned f fd) (T : NetTxt K C) (M : Mk K C fi) (I_ : FnOk P w K mg base CX0 4 fi fdi ["self", "tables", "sources", "posts"] (spInit C)) (bi : Binds K fdi ["self", "tables", "sources", "posts"] []) (mNet : mg "Net" = some (.ref C)) :
    FnOk P w K mg base CX0 6 f fd ["self"] (spTurned C) := by
  refine F.ok sc_turned (fun vs H Q E h => ?_) (fun cdv A outer s H vs Q E hr h => ?_)
  · obtain ⟨m, ends, dots, ss, ps, o, n, rfl, _⟩ := h
    rfl
  · obtain ⟨m, ends, dots, ss, ps, o, n, rfl, N, ok, k⟩ := h
    have nd := sc_turned.nd
    have hu := hu_of hr
    refine ⟨_, pss_cons (ps_lock (ps_setDc (i := 1) (own := [("goal", 2), ("old", 3), ("new", 4)]) (g := gTup K 2 (gCons (gName 2) (gCons (gTup K 2 (gCons (gName 3) (gCons (gName 4) gNil))) gNil))) (tt := tYes) (tk := tVar 2) (tv := tTup (tCons (tVar 4) (tCons (tVar 3) tNil))) rfl nd rfl rfl (sw_trueD rfl rfl rfl (by decide +kernel)) (pi_items (pe_fld (pv 0) rfl))
        (blkOk_by (own := [("goal", 2), ("old", 3), ("new", 4)]) (N := nTurned) (sc := defScope c_Net_turned) (by decide +kernel))
        (fun _ _ _ _ _ => pg_tup rfl (pgs_cons (pg_name (i := 2) nd rfl (Or.inl rfl)) (pgs_cons (pg_tup rfl (pgs_cons (pg_name (i := 3) nd rfl (Or.inl rfl)) (pgs_cons (pg_name (i := 4) nd rfl (Or.inl rfl)) pgs_nil))) pgs_nil)))
        (fun _ _ _ _ _ => pts_nil) (fun _ _ _ _ _ => pv 2) (fun _ _ _ _ _ => pe_tup (pa_cons (pv 4) (pa_cons (pv 3) pa_nil)))))
      (pss_one (ps_ret (pe_make M I_ hr rfl mNet bi .nil pass0 (pa_cons (pv 1) (pa_cons (pe_fld (pv 0) rfl) (pa_cons (pe_fld (pv 0) rfl) pa_nil)))))), ?_⟩
    have e2 := ok.e2
    have en := ok.en
    obtain ⟨dx, T', N', S, Po, rows, h1, h2, h3, h4, h5, h6, h7⟩ := N.ex
    have rl : rows.length = ends.length := by rw [← h6, List.length_map]
    have rne : rows ≠ [] := fun z => by
      have := ok.e0
      rw [z] at rl
      simp at rl
      omega
    have ro := h7.ok h6 en
    refine ⟨T', .dK (tkv rows), h2, trivial, fun od => ?_⟩
    have locked : (upd H T' (.frz od (.dK (tkv rows)))) T' = some (.frz od (.dK (tkv rows))) := upd_same
    have up : ∀ {a : Addr} {u : HO}, H a = some u → a ≠ T' → (upd H T' (.frz od (.dK (tkv rows)))) a = some u := fun {a u} h ne => by rw [upd_ne ne]; exact h
    have back : ∀ {H4 : Hp}, Evl.Ex (upd H T' (.frz od (.dK (tkv rows)))) H4 → Evl.Ex H (upd H4 T' (.dK (tkv rows))) := fun {H4} e a u h => by
      by_cases q : a = T'
      · subst q
        rw [upd_same, ← h2, h]
      · rw [upd_ne q]
        exact e _ _ (by rw [upd_ne q]; exact h)
    generalize upd H T' (.frz od (.dK (tkv rows))) = HL at locked up back
    refine ⟨.ref m, rfl, m, C, dx, _, .ref T', rfl, up h1 (ne_of h1 h2 (by intro z; cases z)), T.cl, T.nT, nflds_tables _ _ _ _, T', od, _, rfl, locked, fun D hD => dc_it walk_items
      (fun i H' => i ≤ ends.length ∧ Evl.Ex HL H' ∧ ∃ rs : List (Str × Addr), H' D = some (.dK (tkv (pairRs rs))) ∧ rs.map (·.1) = ends.take i ∧ ∀ q ∈ rs, ∃ po pn, PairAt H' dots q.1 q.2 pn po (canon dots (n q.1)) (canon dots (o q.1)))
      ⟨Nat.zero_le _, Evl.Ex.new hD, [], upd_same, rfl, (fun q hq => by cases hq)⟩ (fun i H' _ h => h.2.1 _ _ locked) ?_ ?_⟩
    · rintro i x H4 H4' hi ⟨_, x4, rs, d4, hk, hpr⟩ ⟨Tt, xk, xv, rfl, hTt, rfl, hxk, hxv⟩
      rw [tkv_len, rl] at hi
      have gi : ends[i]? = some ends[i] := List.getElem?_eq_getElem hi
      obtain ⟨p, po, pn, hv, pa⟩ := h7 ends[i] (List.getElem_mem hi)
      have ev : xv = .ref p := by
        have z := tkv_at h6 en gi hv
        rw [List.getElem?_map] at z
        exact Option.some.inj (hxv.symm.trans z)
      have ek : xk = .str ends[i] := by
        have z : ((tkv rows).map fun kv => kV kv.1)[i]? = some (.str ends[i]) := by rw [tkv_keysV, h6, List.getElem?_map, gi]; rfl
        rw [List.getElem?_map] at z
        exact Option.some.inj (hxk.symm.trans z)
      subst ev ek
      have n1 : p ≠ T' := ne_of pa.hp h2 (by intro z; cases z)
      have n2 : po ≠ T' := tab_ne h2 ro rne pa.ho pa.o1
      have n3 : pn ≠ T' := tab_ne h2 ro rne pa.hn pa.o2
      have y1 : Evl.Ex H4 (upd H4 Tt (.tup [.str ends[i], .ref p])) := Evl.Ex.new hTt
      have t1 : (upd H4 Tt (.tup [.str ends[i], .ref p])) Tt = some (.tup [.str ends[i], .ref p]) := upd_same
      generalize upd H4 Tt (.tup [.str ends[i], .ref p]) = H5 at y1 t1
      have x5 := x4.trans y1
      have zn : ends[i] ∉ ends.take i := fun hm => by
        have q1 : (ends.take (i + 1)).Nodup := en.sublist (List.take_sublist _ _)
        rw [List.take_add_one, gi] at q1
        exact (List.nodup_append.mp q1).2.2 _ hm _ (List.mem_singleton.mpr rfl) rfl
      have et : ends.take (i + 1) = ends.take i ++ [ends[i]] := by rw [List.take_add_one, gi]; rfl
      refine ⟨Tt, _, rfl, Evl.st_of t1, rfl, _, _, rfl, _, [], rfl, p, _, rfl, Evl.st_of (x5 _ _ (up pa.hp n1)), rfl, _, _, rfl, _, [], rfl, rfl, rfl, rfl, ?_⟩
      refine yes_if ?_
      refine ⟨.str ends[i], rfl, .ref pn, rfl, .ref po, rfl, by show 2 ≤ sizeLine; decide, fun q hq => ?_⟩
      have y2 : Evl.Ex H5 (upd H5 q (.tup [.ref pn, .ref po])) := Evl.Ex.new hq
      have q2 : (upd H5 q (.tup [.ref pn, .ref po])) q = some (.tup [.ref pn, .ref po]) := upd_same
      generalize upd H5 q (.tup [.ref pn, .ref po]) = H6 at y2 q2
      have x6 := x5.trans y2
      have d6 := (y1.trans y2) _ _ d4
      have rsl : rs.length ≤ 2 := by
        have := congrArg List.length hk
        rw [List.length_map, List.length_take] at this
        omega
      have d0 : HL D = none := hD
      refine ⟨tkv (pairRs rs), Sum.inr ends[i], rfl, d6, ?_, hi, x6.mut d0, rs ++ [(ends[i], q)], ?_, ?_, ?_⟩
      · rw [tkv_len]
        unfold pairRs
        rw [List.length_map]
        exact small1000 (by omega)
      · rw [upd_same, tkv_new (by rw [pairRs_keys, hk]; exact zn)]
        unfold pairRs
        rw [List.map_append]
        rfl
      · rw [List.map_append, hk, et]
        rfl
      · have ke : ∀ {a : Addr} {u : HO}, H6 a = some u → a ≠ D → (upd H6 D (.dK (putK (tkv (pairRs rs)) (Sum.inr ends[i]) (.ref q)))) a = some u := fun {a u} h ne => by rw [upd_ne ne]; exact h
        have away : ∀ {po' pn' p' : Addr} {e' : Str} {u1 u2 : List (Str × V)}, PairAt H6 dots e' p' po' pn' u1 u2 → HL p' = none ∨ True → p' ≠ D := fun {po' pn' p' e' u1 u2} h _ => ne_of h.hp d6 (by intro z; cases z)
        intro r hr'
        rcases List.mem_append.mp hr' with hr' | hr'
        · obtain ⟨po', pn', pa'⟩ := hpr r hr'
          have pb := pa'.ex (y1.trans y2)
          have npo : po' ≠ D := fun z => by
            subst z
            have l := pb.hn
            have := d4.symm.trans pa'.hn
            have e1 := tkv_inj (HO.dK.inj (Option.some.inj this))
            cases rs with
            | nil => cases hr'
            | cons r0 rs' =>
              have h9 := pa'.o2.ps (r0.1, .ref r0.2) (by rw [← e1]; exact List.mem_cons_self)
              rcases h9 with h9 | h9 | ⟨_, _, _, h9⟩ <;> cases h9
          have npn : pn' ≠ D := fun z => by
            subst z
            have := d4.symm.trans pa'.ho
            have e1 := tkv_inj (HO.dK.inj (Option.some.inj this))
            cases rs with
            | nil => cases hr'
            | cons r0 rs' =>
              have h9 := pa'.o1.ps (r0.1, .ref r0.2) (by rw [← e1]; exact List.mem_cons_self)
              rcases h9 with h9 | h9 | ⟨_, _, _, h9⟩ <;> cases h9
          exact ⟨po', pn', ke pb.hp (away pb (.inr trivial)), ke pb.ho npn, ke pb.hn npo, pb.o1, pb.o2⟩
        · rw [List.mem_singleton.mp hr']
          have nq : q ≠ D := (ne_of_none ((y1) _ _ d4) hq).symm
          have npo : po ≠ D := ne_of_none (up pa.ho n2) hD
          have npn : pn ≠ D := ne_of_none (up pa.hn n3) hD
          exact ⟨po, pn, ke q2 nq, ke (x6 _ _ (up pa.hn n3)) npn, ke (x6 _ _ (up pa.ho n2)) npo, pa.o2, pa.o1⟩
    · rintro H4 ⟨_, x4, rs, d4, hk, hpr⟩
      rw [tkv_len, rl, List.take_length] at hk
      refine ⟨x4 _ _ locked, ?_⟩
      have l4 := x4 _ _ locked
      have yb := back x4
      have ke : ∀ {a : Addr} {u : HO}, H4 a = some u → a ≠ T' → (upd H4 T' (.dK (tkv rows))) a = some u := fun {a u} h ne => by rw [upd_ne ne]; exact h
      have d5 := ke d4 (ne_of d4 l4 (by intro z; cases z))
      have hpr5 : ∀ q ∈ rs, ∃ po pn, PairAt (upd H4 T' (.dK (tkv rows))) dots q.1 q.2 pn po (canon dots (n q.1)) (canon dots (o q.1)) := fun q hq => by
        obtain ⟨po, pn, pa⟩ := hpr q hq
        exact ⟨po, pn, ke pa.hp (ne_of pa.hp l4 (by intro z; cases z)), ke pa.ho (ne_of pa.ho l4 (by intro z; cases z)), ke pa.hn (ne_of pa.hn l4 (by intro z; cases z)), pa.o1, pa.o2⟩
      generalize upd H4 T' (.dK (tkv rows)) = H5 at yb d5 hpr5
      have m5 := yb _ _ h1
      have kk : (pairRs rs).map (·.1) = ends := by rw [pairRs_keys, hk]
      have row5 : RowsAt H5 ends dots (pairRs rs) (fun e => canon dots (n e)) (fun e => canon dots (o e)) := fun e he => by
        rw [← hk] at he
        obtain ⟨q, hq, rfl⟩ := List.mem_map.mp he
        obtain ⟨po, pn, pa⟩ := hpr5 q hq
        refine ⟨q.2, pn, po, tkv_val (by rw [kk]; exact en) ?_, pa⟩
        unfold pairRs
        exact List.mem_map.mpr ⟨q, hq, rfl⟩
      refine ⟨.ref D, rfl, .ref m, rfl, m, C, dx, _, .ref S, rfl, m5, T.cl, T.nS, nflds_sources _ _ _ _, .ref m, rfl, m, C, dx, _, .ref Po, rfl, m5, T.cl, T.nP, nflds_posts _ _ _ _, fun x dx' hx hdx ne => ?_⟩
      have nb : (upd H5 dx' (.own x)) x = none := by rw [upd_ne ne.symm]; exact hx
      have xb : Evl.Ex H5 (upd H5 dx' (.own x)) := Evl.Ex.new hdx
      refine ⟨upd H5 dx' (.own x), x, dx', D, S, Po, ends, dots, ss, ps, pairRs rs, (fun e => canon dots (n e)), (fun e => canon dots (o e)), rfl, nb, Evl.Ex.new nb, upd_same, xb _ _ d5, .of_eq kk, (row5.ok kk en).ex xb, row5.ex xb, .inr (xb _ _ (yb _ _ h4)), .inr (xb _ _ (yb _ _ h5)), ok, fun H' x' NN => ⟨rfl, ?_⟩⟩
      exact k x H' (yb.trans (xb.trans x')) (ex_none yb hx) ((NN H' (rest_ex _ _) fun q => x' _ _ q).same (fun e he => canon_canon) fun e he => canon_canon)
end
end Rw
end T_R9

section T_R0
set_option Elab.async false
set_option linter.all false
set_option maxRecDepth 100000
set_option maxHeartbeats 4000000
namespace Rw
open PySem L2 PyProof.Rows
/-! ### ranks -/
/-- m is the least number above those of the nodes behind z -/
def IsTop (g : Str → Int) (ys : List Str) (m : Int) : Prop := (ys = [] → m = 0) ∧ (ys ≠ [] → ∃ y ∈ ys, m = g y + 1) ∧ ∀ y ∈ ys, g y + 1 ≤ m
theorem isTop_one {g : Str → Int} {ys : List Str} {m k : Int} (h1 : IsTop g ys m) (h2 : IsTop g ys k) : m = k := by
  by_cases e : ys = []
  · rw [h1.1 e, h2.1 e]
  · obtain ⟨y, hy, e1⟩ := h1.2.1 e
    obtain ⟨z, hz, e2⟩ := h2.2.1 e
    have := h1.2.2 z hz
    have := h2.2.2 y hy
    omega
theorem isTop_same {g g' : Str → Int} {ys : List Str} {m : Int} (h : IsTop g ys m) (e : ∀ y ∈ ys, g' y = g y) : IsTop g' ys m :=
  ⟨h.1, fun n => let ⟨y, hy, q⟩ := h.2.1 n; ⟨y, hy, by rw [e y hy]; exact q⟩, fun y hy => by rw [e y hy]; exact h.2.2 y hy⟩
/-- numbers of the nodes of dom that fall along each way -/
structure Nums (dots : List Str) (f : Str → List V) (dom : List Str) (g : Str → Int) : Prop where
  nd : dom.Nodup
  sub : ∀ z ∈ dom, z ∈ dots
  low : ∀ z ∈ dom, ∀ y ∈ behind dots f z, y ∈ dom
  top : ∀ z ∈ dom, IsTop g (behind dots f z) (g z)
section
variable {dots : List Str} {f : Str → List V}
theorem nums_nil {g : Str → Int} : Nums dots f [] g := ⟨List.nodup_nil, fun z hz => (by cases hz), fun z hz => (by cases hz), fun z hz => (by cases hz)⟩
def putN (g : Str → Int) (z : Str) (m : Int) : Str → Int := fun y => if y = z then m else g y
theorem nums_new {dom : List Str} {g : Str → Int} {z : Str} {m : Int} (h : Nums dots f dom g) (hz : z ∉ dom) (zd : z ∈ dots) (lo : ∀ y ∈ behind dots f z, y ∈ dom) (tm : IsTop g (behind dots f z) m) : Nums dots f (dom ++ [z]) (putN g z m) := by
  have far : ∀ y ∈ dom, putN g z m y = g y := fun y hy => show (if y = z then m else g y) = g y from if_neg fun e => hz (by rw [← e]; exact hy)
  refine ⟨?_, fun y hy => ?_, fun y hy x hx => ?_, fun y hy => ?_⟩
  · refine List.nodup_append.mpr ⟨h.nd, List.nodup_cons.mpr ⟨by simp, List.nodup_nil⟩, fun a ha b hb e => hz ?_⟩
    rw [← List.mem_singleton.mp hb, ← e]
    exact ha
  · rcases List.mem_append.mp hy with hy | hy
    · exact h.sub y hy
    · rw [List.mem_singleton.mp hy]; exact zd
  · refine List.mem_append_left _ ?_
    rcases List.mem_append.mp hy with hy | hy
    · exact h.low y hy x hx
    · rw [List.mem_singleton.mp hy] at hx; exact lo x hx
  · rcases List.mem_append.mp hy with hy | hy
    · rw [far y hy]
      exact isTop_same (h.top y hy) fun x hx => far x (h.low y hy x hx)
    · rw [List.mem_singleton.mp hy, show putN g z m z = m from if_pos rfl]
      exact isTop_same tm fun x hx => far x (lo x hx)
theorem lastP_snoc : ∀ (p : List Str) (y : Str), lastP (p ++ [y]) = y
  | [], y => rfl
  | x :: r, y => lastS_mid x r y []
theorem chain {dom : List Str} (h : ∀ z ∈ dots, z ∉ dom → ∃ y ∈ behind dots f z, y ∉ dom) {z : Str} (hz : z ∈ dots) (hn : z ∉ dom) : ∀ k, ∃ p, p ≠ [] ∧ IsWay dots f p ∧ p.length = k + 1 ∧ lastP p ∈ dots ∧ lastP p ∉ dom
  | 0 => ⟨[z], by simp, isWay_one hz, rfl, hz, hn⟩
  | k + 1 => by
    obtain ⟨p, h1, h2, h3, h4, h5⟩ := chain h hz hn k
    obtain ⟨y, hy, ny⟩ := h _ h4 h5
    obtain ⟨q1, q2⟩ := mem_behind.mp hy
    exact ⟨p ++ [y], by simp, (isWay_snoc h1).mpr ⟨h2, q1, q2⟩, by rw [List.length_append, h3]; rfl, by rw [lastP_snoc]; exact q2, by rw [lastP_snoc]; exact ny⟩
/-- a pass that finds no more nodes, with nodes left, tells of a ring -/
theorem ring_of_stop {dom : List Str} (dn : dots.Nodup) (h : ∀ z ∈ dots, z ∉ dom → ∃ y ∈ behind dots f z, y ∉ dom) {z : Str} (hz : z ∈ dots) (hn : z ∉ dom) : ∃ p, IsRing dots f p := by
  obtain ⟨p, h1, h2, h3, _, _⟩ := chain h hz hn dots.length
  cases p with
  | nil => exact absurd rfl h1
  | cons x r =>
    obtain ⟨q, hq, _⟩ := ring_of_twice r x h2 fun n => by
      have := nodup_le (x :: r) dots n (isWay_dots h2)
      omega
    exact ⟨q, hq⟩
theorem way_falls {dom : List Str} {g : Str → Int} (h : Nums dots f dom g) : ∀ (r : List Str) (x : Str), Way f x r → (∀ z ∈ x :: r, z ∈ dots) → x ∈ dom → lastS x r ∈ dom ∧ g (lastS x r) ≤ g x
  | [], x, _, _, hx => ⟨hx, Int.le_refl _⟩
  | y :: r, x, hw, hd, hx => by
    have yb : y ∈ behind dots f x := mem_behind.mpr ⟨hw.1, hd y (List.mem_cons_of_mem _ List.mem_cons_self)⟩
    have := (h.top x hx).2.2 y yb
    obtain ⟨q1, q2⟩ := way_falls h r y hw.2 (fun z hz => hd z (List.mem_cons_of_mem _ hz)) (h.low x hx y yb)
    exact ⟨q1, by show g (lastS y r) ≤ g x; omega⟩
theorem no_ring {dom : List Str} {g : Str → Int} (h : Nums dots f dom g) {x : Str} {r : List Str} (hp : IsRing dots f (x :: r)) (hx : x ∈ dom) : False := by
  obtain ⟨h1, h2⟩ := way_falls h r x hp.1.1 hp.1.2 hx
  have xb : x ∈ behind dots f (lastS x r) := mem_behind.mpr ⟨hp.2, hp.1.2 x List.mem_cons_self⟩
  have := (h.top _ h1).2.2 x xb
  omega
theorem nums_len {dom : List Str} {g : Str → Int} (h : Nums dots f dom g) : dom.length ≤ dots.length := nodup_le dom dots h.nd h.sub
theorem nums_all {dom : List Str} {g : Str → Int} (h : Nums dots f dom g) (dn : dots.Nodup) (hl : dots.length ≤ dom.length) {z : Str} (hz : z ∈ dots) : z ∈ dom := by
  by_cases q : z ∈ dom
  · exact q
  · have := nodup_le (z :: dom) dots (List.nodup_cons.mpr ⟨q, h.nd⟩) fun y hy => by
      rcases List.mem_cons.mp hy with e | hy
      · rw [e]; exact hz
      · exact h.sub y hy
    rw [List.length_cons] at this
    omega
theorem nums_short {dom : List Str} {g : Str → Int} (h : Nums dots f dom g) {x : Str} {r : List Str} (hp : IsRing dots f (x :: r)) (dn : dots.Nodup) : dom.length < dots.length := by
  by_cases q : dots.length ≤ dom.length
  · exact (no_ring h hp (nums_all h dn q (hp.1.2 x List.mem_cons_self))).elim
  · omega
/-- the dict of numbers -/
def numT (dom : List Str) (g : Str → Int) : List (Str × V) := dom.map fun z => (z, V.int (g z))
theorem numT_keys {dom : List Str} {g : Str → Int} : (numT dom g).map (·.1) = dom := by
  unfold numT
  rw [List.map_map]
  exact List.map_id' dom
theorem numT_len {dom : List Str} {g : Str → Int} : (numT dom g).length = dom.length := by unfold numT; rw [List.length_map]
theorem numT_get {dom : List Str} {g : Str → Int} {z : Str} (h : z ∈ dom) : valV (tkv (numT dom g)) (Sum.inr z) = some (.int (g z)) := by
  obtain ⟨v, hv, hm⟩ := tkv_some (tb := numT dom g) (z := z) (by rw [numT_keys]; exact h)
  unfold numT at hm
  obtain ⟨y, _, e⟩ := List.mem_map.mp hm
  cases e
  exact hv
theorem numT_new {dom : List Str} {g : Str → Int} {z : Str} {m : Int} (h : z ∉ dom) : putK (tkv (numT dom g)) (Sum.inr z) (.int m) = tkv (numT (dom ++ [z]) (putN g z m)) := by
  rw [tkv_new (by rw [numT_keys]; exact h)]
  unfold numT
  rw [List.map_append]
  refine congrArg tkv (congr (congrArg _ (List.map_congr_left fun y hy => ?_)) ?_)
  · show (y, V.int (g y)) = (y, V.int (if y = z then m else g y))
    rw [if_neg fun e => h (by rw [← e]; exact hy)]
  · show [(z, V.int m)] = [(z, V.int (if z = z then m else g z))]
    rw [if_pos rfl]
theorem numT_old {dom : List Str} {g : Str → Int} {z : Str} (h : z ∈ dom) : putK (tkv (numT dom g)) (Sum.inr z) (.int (g z)) = tkv (numT dom g) := by
  rw [tkv_old (by rw [numT_keys]; exact h)]
  unfold numT
  rw [List.map_map]
  refine congrArg tkv (List.map_congr_left fun y _ => ?_)
  show (if y = z then (y, V.int (g z)) else (y, V.int (g y))) = (y, V.int (g y))
  split
  · rename_i e
    rw [e]
  · rfl
end
end Rw
namespace Rw
open PySem L2 PyProof.Rows
theorem numT_snoc {dom : List Str} {g : Str → Int} {z : Str} (h : z ∉ dom) : putK (tkv (numT dom g)) (Sum.inr z) (.int (g z)) = tkv (numT (dom ++ [z]) g) := by
  rw [numT_new h]
  unfold numT
  refine congrArg tkv (List.map_congr_left fun y _ => ?_)
  show (y, V.int (if y = z then g z else g y)) = (y, V.int (g y))
  split
  · rename_i e
    rw [e]
  · rfl
theorem numT_has {dom : List Str} {g : Str → Int} (y : Str) : (valV (tkv (numT dom g)) (Sum.inr y)).isSome = decide (y ∈ dom) := by
  by_cases h : y ∈ dom
  · rw [numT_get h, decide_eq_true h]
    rfl
  · rw [tkv_none (by rw [numT_keys]; exact h), decide_eq_false h]
    rfl
theorem numT_dget {H : Hp} {a : Addr} {dom : List Str} {g : Str → Int} {z : Str} (h : H a = some (.dK (tkv (numT dom g)))) (hz : z ∈ dom) : DGet H a (.str z) (some (.int (g z))) := by
  have t := DGet.k (k := Sum.inr z) h
  rw [numT_get hz] at t
  exact t
theorem key_at {rs : List (Str × V)} {dots : List Str} (h : rs.map (·.1) = dots) {i : Nat} {kk : Key} {v : V} (hkv : (tkv rs)[i]? = some (kk, v)) : ∃ z, dots[i]? = some z ∧ kk = Sum.inr z := by
  unfold tkv at hkv
  rw [List.getElem?_map] at hkv
  cases q : rs[i]? with
  | none => rw [q] at hkv; cases hkv
  | some t =>
    rw [q] at hkv
    exact ⟨t.1, by rw [← h, List.getElem?_map, q]; rfl, (congrArg Prod.fst (Option.some.inj hkv)).symm⟩
theorem isTop_max {g : Str → Int} {ys : List Str} {m : Int} (h1 : ys.map (fun y => g y + 1) = [] → m = 0) (h2 : ys.map (fun y => g y + 1) ≠ [] → m ∈ ys.map (fun y => g y + 1) ∧ ∀ y ∈ ys.map (fun y => g y + 1), y ≤ m) : IsTop g ys m := by
  refine ⟨fun e => h1 (by rw [e]; rfl), fun n => ?_, fun y hy => ?_⟩
  · obtain ⟨y, hy, e⟩ := List.mem_map.mp (h2 fun e => n (List.map_eq_nil_iff.mp e)).1
    exact ⟨y, hy, e.symm⟩
  · exact (h2 fun e => by rw [List.map_eq_nil_iff.mp e] at hy; cases hy).2 _ (List.mem_map_of_mem hy)
end Rw
end T_R0

section T_S5
set_option Elab.async false
set_option linter.all false
set_option maxRecDepth 100000
set_option maxHeartbeats 4000000
namespace Rw
open PySem PySem.Spec PyProof.Rows L2
/-! ### max(xs, default=d) of ints -/
theorem args_maxD (a d : Value) : argsOk "max" ⟨[a], [(Str.ofString "default", d)]⟩ := by
  unfold argsOk; kernel_rfl
section
variable {prog : Program} {w : World} {A : Around} {R : Result → Shared → Prop} {I : Addr} {fp wr : List Addr} {n : Nat} {P : Nat → Value → Prop} {St : Nat → Heap → Prop}
/-- what the loop holds: nothing yet, or the greatest so far, at j -/
def BestSo (P : Nat → Value → Prop) (val : Nat → Int) (i : Nat) (old : List Value) : Prop := (i = 0 ∧ old = []) ∨ ∃ (j : Nat) (v : Value), j < i ∧ old = [v, v] ∧ P j v ∧ ∀ k, k < i → val k ≤ val j
theorem maxD_loop (W : Walks prog w A.in1 I fp wr n P St) (val : Nat → Int) (nums : ∀ i v, P i v → ∃ t, v = .int (val i) t) (B : Addr) (apart : B ∉ fp) (d : Value) :
    ∀ (left i : Nat) (s : Shared) (old : List Value) (c : Nat), n - i = left → i ≤ n → St i s.heap → BestSo P val i old →
      s.heap.get? B = some { cls := .type "list", dict := none, data := .seq old.toArray c, slots := #[] } →
      (∀ h' tk, n = 0 → (∀ b o, b ∉ wr → b ≠ B → s.heap.get? b = some o → h'.get? b = some o) → R (.ok (.ret d)) { s with heap := h', toks := tk }) →
      (∀ j v h' tk, j < n → P j v → (∀ k, k < n → val k ≤ val j) → (∀ b o, b ∉ wr → b ≠ B → s.heap.get? b = some o → h'.get? b = some o) → R (.ok (.ret v)) { s with heap := h', toks := tk }) →
      codeAny (model prog w) A (.builtin "max.loop" ⟨[.ref I, .none, .ref B], [("default", d)]⟩) R s := by
  have apart2 : B ∉ wr := fun m => apart (W.sub _ m)
  have nm : (toString "max" ++ toString ".loop" : String) = "max.loop" := by decide
  intro left
  induction left with
  | zero =>
    intro i s old c hl hi here best at_B none_ some_
    have at_end : i = n := by omega
    subst at_end
    refine codeAny_builtin PySem.F.entry_max_loop ?_
    rw [Around.under_plainId PySem.F.plain_max_loop]
    show wpAny (model prog w) A.in1 (seqItems? (.ref B) >>= _) _ _ s
    refine wpAny_bind (wpAny_seqItems at_B rfl ?_); show wpAny _ A.in1 (tryCatch (pyNext (.ref I)) _ >>= _) _ _ s
    refine wpAny_bind (wpAny_tryCatch (W.done s _ _ here fun h' tk keep => ?_))
    rcases best with ⟨e, rfl⟩ | ⟨j, v, hj, rfl, hp, top⟩
    · show wpAny _ A.in1 (rule _ >>= _) _ _ _
      exact wpAny_bind (wpAny_rule (wpAny_pure (none_ h' tk e fun b o n1 _ q => keep b o n1 q)))
    · have at_B2 := keep B _ apart2 at_B
      show wpAny _ A.in1 (updateSeq B (fun _ => #[]) >>= _) _ _ _
      refine wpAny_bind (wpAny_updateSeq at_B2 rfl (wpAny_bind (wpAny_letGo (wpAny_pure (some_ j v _ tk hj hp top fun b o n1 n2 q => ?_)))))
      rw [Heap.get?_update_other _ _ (Ne.symm n2)]
      exact keep b o n1 q
  | succ left ih =>
    intro i s old c hl hi here best at_B none_ some_
    have more : i < n := by omega
    refine codeAny_builtin PySem.F.entry_max_loop ?_
    rw [Around.under_plainId PySem.F.plain_max_loop]
    show wpAny (model prog w) A.in1 (seqItems? (.ref B) >>= _) _ _ s
    refine wpAny_bind (wpAny_seqItems at_B rfl ?_); show wpAny _ A.in1 (tryCatch (pyNext (.ref I)) _ >>= _) _ _ s
    refine wpAny_bind (wpAny_tryCatch (W.item i s _ _ more here fun u h' tk hu here' keep => ?_))
    have at_B2 := keep B _ apart2 at_B
    have upd_keep : ∀ (g : Obj → Obj) (b : Addr) (o : Obj), b ∉ wr → b ≠ B → s.heap.get? b = some o → (h'.update B g).get? b = some o := fun g b o n1 n2 q => by
      rw [Heap.get?_update_other _ _ (Ne.symm n2)]
      exact keep b o n1 q
    have upd_st : ∀ g : Obj → Obj, St (i + 1) (h'.update B g) := fun g => W.frame _ _ _ here' fun b hb o q => by
      rw [Heap.get?_update_other _ _ (fun e : B = b => apart (e ▸ hb))]
      exact q
    rcases best with ⟨e, rfl⟩ | ⟨j, v, hj, rfl, hp, top⟩
    · show wpAny _ A.in1 (updateSeq B (fun _ => #[u, u]) >>= _) _ _ _
      refine wpAny_bind (wpAny_updateSeq at_B2 rfl ?_)
      rw [nm]
      refine wpAny_pure (And.intro (plainId_quiet PySem.F.plain_max_loop _) (ih (i + 1) _ [u, u] _ (by omega) more (upd_st _) (.inr ⟨i, u, Nat.lt_succ_self _, rfl, hu, fun k hk => ?_⟩) (Heap.get?_update_self _ at_B2 rfl) (fun h2 tk2 z k2 => absurd z (by omega))
        fun j' v' h2 tk2 hj' hp' top' k2 => some_ j' v' h2 tk2 hj' hp' top' fun b o n1 n2 q => k2 b o n1 n2 (upd_keep _ b o n1 n2 q)))
      have : k = i := by omega
      rw [this]
      exact Int.le_refl _
    · show wpAny _ A.in1 (tryCatch (holding [u, u] (richCompare .Gt u v >>= _)) _ >>= _) _ _ _
      refine wpAny_bind (wpAny_tryCatch (wpAny_holding (wpAny_bind (CmpOf.ints_gt val nums i j u v _ _ _ hu hp ?_))))
      refine wpAny_bind (wpAny_holding (wpAny_truthy_bool (wpAny_bind (wpAny_letGo (wpAny_pure ?_)))))
      by_cases gt : val i > val j
      · rw [show (fun i j => decide (val i > val j)) i j = true from decide_eq_true gt]
        simp only [if_true]
        refine wpAny_bind (wpAny_updateSeq at_B2 rfl (wpAny_bind (wpAny_letGo ?_)))
        rw [nm]
        refine wpAny_pure (And.intro (plainId_quiet PySem.F.plain_max_loop _) (ih (i + 1) _ [u, u] _ (by omega) more (upd_st _) (.inr ⟨i, u, Nat.lt_succ_self _, rfl, hu, fun k hk => ?_⟩) (Heap.get?_update_self _ at_B2 rfl) (fun h2 tk2 z k2 => absurd z (by omega))
          fun j' v' h2 tk2 hj' hp' top' k2 => some_ j' v' h2 tk2 hj' hp' top' fun b o n1 n2 q => k2 b o n1 n2 (upd_keep _ b o n1 n2 q)))
        by_cases ki : k = i
        · rw [ki]; exact Int.le_refl _
        · have := top k (by omega)
          omega
      · rw [show (fun i j => decide (val i > val j)) i j = false from decide_eq_false gt]
        simp only [Bool.false_eq_true, if_false]
        refine wpAny_bind (wpAny_letGo ?_)
        rw [nm]
        refine wpAny_pure (And.intro (plainId_quiet PySem.F.plain_max_loop _) (ih (i + 1) _ [v, v] c (by omega) more here' (.inr ⟨j, v, by omega, rfl, hp, fun k hk => ?_⟩) at_B2 (fun h2 tk2 z k2 => absurd z (by omega))
          fun j' v' h2 tk2 hj' hp' top' k2 => some_ j' v' h2 tk2 hj' hp' top' fun b o n1 n2 q => k2 b o n1 n2 (keep b o n1 q)))
        by_cases ki : k = i
        · rw [ki]; omega
        · exact top k (by omega)
end
section
variable {prog : Program} {w : World} {A : Around} {E : Value → Shared → Prop} {s : Shared}
theorem maxD_raw {l : Addr} {vs : List Value} {ns : List Int} {d : Value} {Q : Value → Shared → Prop} (calm : A.handled = none) (hl : s.heap.IsList l vs.toArray) (hi : IntsAre vs ns)
    (none_ : ∀ h' tk, ns = [] → (∀ b o, s.heap.get? b = some o → h'.get? b = some o) → Q d { s with heap := h', toks := tk })
    (some_ : ∀ m t h' tk, m ∈ ns → (∀ y ∈ ns, y ≤ m) → (∀ b o, s.heap.get? b = some o → h'.get? b = some o) → Q (.int m t) { s with heap := h', toks := tk }) :
    wpAny (model prog w) A (call (.builtin "max") [.ref l] [(Str.ofString "default", d)]) Q E s := by
  have nm : (toString "max" ++ toString ".loop" : String) = "max.loop" := by decide
  have at_i : ∀ (i : Nat) (v : Value), vs.toArray[i]? = some v → ∃ t, v = .int (ns.getD i 0) t := by
    intro i v hv
    rw [List.getElem?_toArray] at hv
    have go : ∀ {us : List Value} {ms : List Int}, IntsAre us ms → ∀ i, us[i]? = some v → ∃ t, v = .int (ms.getD i 0) t := by
      intro us ms h
      induction h with
      | nil => intro i h; cases h
      | cons a t _ ih =>
        intro i h
        cases i with
        | zero => cases h; exact ⟨t, rfl⟩
        | succ i => exact ih i h
    exact go hi i hv
  have len : vs.toArray.size = ns.length := by rw [List.size_toArray, hi.length]
  refine wpAny_call (codeAny_call_builtin PySem.F.plain_max PySem.F.entry_max ?_)
  simp only [checkBuiltinCall, PySem.F.kind_max]
  have body : wpAny (model prog w) A.in1 (Builtin.«max» ⟨[.ref l], [(Str.ofString "default", d)]⟩) (fun fin s' => match fin with
      | .done f => (match (Except.ok f : Result) with | .ok (.ret v) => Q v s' | .ok _ => False | .error e => E e s')
      | .again c' => c'.quiet = true ∧ codeAny (model prog w) A c' (fun r s' => match r with | .ok (.ret v) => Q v s' | .ok _ => False | .error e => E e s') s') E s := by
    show wpAny _ A.in1 (Builtin.Builtins.bindParams "max" ["key", "default"] 0 ⟨[], [(Str.ofString "default", d)]⟩ >>= _) _ _ s
    refine wpAny_bind (wpAny_of_eq (show Builtin.Builtins.bindParams "max" ["key", "default"] 0 ⟨[], [(Str.ofString "default", d)]⟩ = pure [none, some d] from rfl) (wpAny_bind (wpAny_pure ?_)))
    have lt : l < s.heap.objs.size := let ⟨_, e, _⟩ := hl; Heap.lt_size e
    refine wpAny_bind (wpAny_pyIter_list hl ?_)
    generalize hs2 : s.heap.push { cls := .type "list_iterator", data := .fields #[.ref l, .int 0 0] } = h2
    have sz : h2.objs.size = s.heap.objs.size + 1 := by rw [← hs2, Heap.size_push]
    have at_I : h2.IsListIter s.heap.objs.size l 0 := by rw [← hs2]; exact ⟨_, Heap.get?_push_size _ rfl, rfl, rfl⟩
    have at_l : h2.IsList l vs.toArray := by rw [← hs2]; exact hl.push _
    have keep2 : ∀ b o, s.heap.get? b = some o → h2.get? b = some o := fun b o e => by rw [← hs2]; exact Heap.get?_push_of_some _ e
    refine wpAny_bind (wpAny_newObj_type ?_)
    rw [nm]
    have W := Walks.list (prog := prog) (w := w) (A := A.in1) calm s.heap.objs.size l (Nat.ne_of_lt lt) vs.toArray
    have apart : h2.objs.size ∉ [s.heap.objs.size, l] := by
      intro m
      rcases List.mem_cons.mp m with e | m
      · rw [sz] at e
        exact Nat.succ_ne_self _ e
      · have e := List.mem_singleton.mp m
        rw [sz] at e
        rw [← e] at lt
        exact absurd lt (Nat.not_lt.mpr (Nat.le_succ _))
    refine wpAny_pure (And.intro (plainId_quiet PySem.F.plain_max_loop _) (maxD_loop W (fun i => ns.getD i 0) at_i h2.objs.size apart d (vs.toArray.size - 0) 0 _ [] _ rfl (Nat.zero_le _)
      (W.frame _ _ _ ⟨at_I, at_l⟩ fun b _ o e => Heap.get?_push_of_some _ e) (.inl ⟨rfl, rfl⟩) (Heap.get?_push_size _ rfl) (fun h' tk z keep => ?_) fun j v h' tk hj hv top keep => ?_))
    · refine none_ h' tk (List.eq_nil_of_length_eq_zero (by rw [← len]; exact z)) fun b o e => keep b o ?_ ?_ (Heap.get?_push_of_some _ (keep2 b o e))
      · exact fun m => absurd (List.mem_singleton.mp m) (Nat.ne_of_lt (Heap.lt_size e))
      · exact Nat.ne_of_lt (Nat.lt_of_lt_of_le (Heap.lt_size e) (by rw [sz]; exact Nat.le_succ _))
    · obtain ⟨t, rfl⟩ := at_i j v hv
      rw [len] at hj
      have gj : ns.getD j 0 = ns[j] := by rw [List.getD_eq_getElem?_getD, List.getElem?_eq_getElem hj]; rfl
      refine some_ _ t h' tk (by rw [gj]; exact List.getElem_mem hj) (fun y hy => ?_) fun b o e => keep b o ?_ ?_ (Heap.get?_push_of_some _ (keep2 b o e))
      · obtain ⟨k, hk, rfl⟩ := List.getElem_of_mem hy
        have := top k (by rw [len]; exact hk)
        have gk : ns.getD k 0 = ns[k] := by rw [List.getD_eq_getElem?_getD, List.getElem?_eq_getElem hk]; rfl
        rw [gk] at this
        exact this
      · exact fun m => absurd (List.mem_singleton.mp m) (Nat.ne_of_lt (Heap.lt_size e))
      · exact Nat.ne_of_lt (Nat.lt_of_lt_of_le (Heap.lt_size e) (by rw [sz]; exact Nat.le_succ _))
  cases hsig : Manifest.signature? "max" with
  | none => exact wpAny_pure body
  | some sig =>
    have ok := args_maxD (.ref l) d
    simp only [argsOk, hsig] at ok
    have ok2 : Bind.checkArgs "max" sig ⟨[.ref l], [(Str.ofString "default", d)]⟩ = pure () := ok
    show wpAny _ A.in1 (Bind.checkArgs "max" sig ⟨[.ref l], [(Str.ofString "default", d)]⟩) _ _ s
    rw [ok2]
    exact wpAny_pure body
end
/-- max(xs, default=d), xs a list of ints -/
def rMaxDf (K : PySem.W.Frag) : List V → List V → Hp → VK → Prop := fun xs zs H Q => ∃ (a : Addr) (ns : List Int) (d : Int), xs = [.ref a] ∧ zs = [.int d] ∧ SqL K H a (ns.map V.int) ∧
  ∀ m : Int, (ns = [] → m = d) → (ns ≠ [] → m ∈ ns ∧ ∀ y ∈ ns, y ≤ m) → Q (.int m) H
theorem cr_maxD {X : Cx} (hc : X.calm = true) : CallRK X (.builtin "max") ["default"] (rMaxDf X.K) := by
  intro pins s σ H xs zs us ws Q I r1 r2 h
  obtain ⟨a, ns, d, rfl, rfl, hs, q⟩ := h
  rw [Vals.ref1 r1]
  obtain ⟨u, rfl, t, rfl⟩ := vals1 r2
  obtain ⟨its, rv, hl, _⟩ := I.list hs
  refine maxD_raw (I.ok.hd hc) hl.isList rv.ints (fun h' tk e keep => ?_) fun m t' h' tk hm top keep => ?_
  · exact ⟨.int d, H, I.kept keep, ⟨_, rfl⟩, q d (fun _ => rfl) fun n => absurd e n⟩
  · exact ⟨.int m, H, I.kept keep, ⟨_, rfl⟩, q m (fun e => by rw [e] at hm; cases hm) fun _ => ⟨hm, top⟩⟩
end Rw
end T_S5

section T_R1
set_option Elab.async false
set_option linter.all false
set_option maxRecDepth 100000
set_option maxHeartbeats 4000000
namespace Rw
open PySem L2 PyProof.Rows
/-- what ranks answers -/
def RanksAt (dots : List Str) (f : Str → List V) (v : V) (H0 H : Hp) : Prop := (v = .non ∧ ∃ p, IsRing dots f p) ∨ ∃ a g, v = .ref a ∧ H0 a = none ∧ H a = some (.dK (tkv (numT dots g))) ∧ Nums dots f dots g
theorem ring_cons {dots : List Str} {f : Str → List V} {p : List Str} (h : IsRing dots f p) : ∃ x r, p = x :: r := by
  cases p with
  | nil => exact h.1.elim
  | cons x r => exact ⟨x, r, rfl⟩
theorem nums_full {dots : List Str} {f : Str → List V} {dom : List Str} {g : Str → Int} (h : Nums dots f dom g) (dn : dots.Nodup) (hl : dots.length ≤ dom.length) : Nums dots f dots g :=
  ⟨dn, fun z hz => hz, fun z _ y hy => (mem_behind.mp hy).2, fun z hz => h.top z (nums_all h dn hl hz)⟩
section
variable {P : Program} {w : World} {K : PySem.W.Frag} {mg : Str → Option Value} {base : Heap}
def spRanks (C : Addr) : Sp := fun vs H Q _ => ∃ (m a b : Addr) (e : Str) (zs ys ends dots ss ps : List Str) (o n : Str → List (Str × V)), vs = [.ref m, .ref a, .ref b, .str e] ∧ NetAt C H m ends dots ss ps o n ∧ ModelOk ends dots ss ps ∧ e ∈ ends ∧ TabOk dots e (o e) ∧ TabOk dots e (n e) ∧
  LotAt H a zs (moving ends dots o n) ∧ LotAt H b ys (moving ends dots o n) ∧ (∀ y ∈ ys, y ∉ zs) ∧ ∀ v H', Evl.Ex H H' → RanksAt dots (spotsOf (o e) (n e) zs ys) v H H' → Q v H'
abbrev nLRanks : List Str := ["mixture", "found", "_", "node", "below", "place"]
theorem sc_lranks : FnScope nLRanks ["mixture"] (defScope p_least_ranks) := ⟨rfl, rfl, rfl, by decide +kernel, rfl, by decide +kernel, by decide +kernel⟩
def spLRanks : Sp := fun vs H Q _ => ∃ (D : Addr) (dots : List Str) (f : Str → List V), vs = [.ref D] ∧ MixW H D dots f ∧ Webs dots f ∧ dots.length ≤ 6 ∧ dots.Nodup ∧ ∀ v H', Evl.Ex H H' → RanksAt dots f v H H' → Q v H'
theorem ok_lranks {f : Addr} {fd : FuncData} (F : Fun K "least_ranks" "least_ranks" p_least_ranks f fd) (C2 : Cal P w K mg base 1 "nodes_behind" ["mixture", "node"] spBehind) (mAll : mg "all" = none) (mMax : mg "max" = none) (mLen : mg "len" = none) : FnOk P w K mg base CX0 2 f fd ["mixture"] spLRanks := by
  obtain ⟨f2, fd2, F2, k2, b2, g2⟩ := C2.ex
  refine F.ok sc_lranks (fun vs H Q E h => ?_) (fun cdv A outer s H vs Q E hr h => ?_)
  · obtain ⟨D, dots, f, rfl, _⟩ := h
    rfl
  · obtain ⟨D, dots, f, rfl, M, W, d6, dn, k⟩ := h
    have nd := sc_lranks.nd
    have hu := hu_of hr
    have hr1 : Room 1 _ := hr.mono (by decide)
    refine ⟨_, PSs.nox (pss_cons (ps_set (i := 1) nd rfl (.inr rfl) pe_dnewK)
      (pss_cons (ps_lock (ps_for PassesOwn.never rfl (pi_keys (pv 0)) (pg_name (i := 2) nd rfl (.inl rfl))
        (pss_one (ps_for PassesOwn.never rfl (pi_keys (pv 0)) (pg_name (i := 3) nd rfl (.inl rfl))
          (pss_cons (ps_set (i := 4) nd rfl (.inl rfl) (pe_call F2 hr1 rfl g2 k2 b2 .nil pass0 (pa_cons (pv 0) (pa_cons (pv 3) pa_nil))))
          (pss_one (ps_if (pt_val (pe_callB (cr_all rfl) (by rfl) mAll (by decide +kernel) (pa_cons (pe_lc (own := [("place", 5)]) (g := gName 5) (tt := tYes) (te := tDIn (tVar 5) (tVar 1)) rfl nd (pi_list (pv 4)) (blkOk_by (own := [("place", 5)]) (N := nLRanks) (sc := defScope p_least_ranks) (by decide +kernel))
              (fun _ _ _ _ _ => pg_name (i := 5) nd rfl (Or.inl rfl)) (fun _ _ _ _ _ => pts_nil) (fun _ _ _ _ _ => pe_cmp (pc_din hu (pv 5) (pv 1)) rfl)) pa_nil)))
            (pss_one (ps_dput hu (pv 1) (pv 3) (pe_callBK (cr_maxD rfl) (by rfl) mMax (by decide +kernel) (pa_cons (pe_lc (own := [("place", 5)]) (g := gName 5) (tt := tYes) (te := tOp (rI0 fun i j => V.int (i + j)) (tDGet (tVar 1) (tVar 5)) (tC (.int 1))) rfl nd (pi_list (pv 4)) (blkOk_by (own := [("place", 5)]) (N := nLRanks) (sc := defScope p_least_ranks) (by decide +kernel))
              (fun _ _ _ _ _ => pg_name (i := 5) nd rfl (Or.inl rfl)) (fun _ _ _ _ _ => pts_nil) (fun _ _ _ _ _ => pe_op op_add (pe_dget hu (pv 1) (pv 5) (fun _ _ => rfl)) pe_int)) pa_nil) (pk_cons pe_int pk_nil)) rfl)) pss_nil)))))))
      (pss_cons (ps_if (pt_cmpR op_lt (pe_callB call_lenD (by rfl) mLen PySem.boot_len (pa_cons (pv 1) pa_nil)) (pe_callB call_lenD (by rfl) mLen PySem.boot_len (pa_cons (pv 0) pa_nil)) (nomark _)) (pss_one (ps_ret pe_non)) pss_nil)
      (pss_one (ps_ret (pe_lock (pe_dc (own := [("node", 3)]) (g := gName 3) (tt := tYes) (tk := tVar 3) (tv := tDGet (tVar 1) (tVar 3)) rfl nd (pi_keys (pv 0)) (blkOk_by (own := [("node", 3)]) (N := nLRanks) (sc := defScope p_least_ranks) (by decide +kernel))
        (fun _ _ _ _ _ => pg_name (i := 3) nd rfl (Or.inl rfl)) (fun _ _ _ _ _ => pts_nil) (fun _ _ _ _ _ => pv 3) (fun _ _ _ _ _ => pe_dget hu (pv 1) (pv 3) (fun _ _ => rfl))))))))), ?_⟩
    have x1 := Evl.Ex.refl H
    obtain ⟨rs, r1, r2, r3⟩ := M.ex
    have rl : rs.length = dots.length := by rw [← r2, List.length_map]
    have tl : (tkv rs).length = dots.length := by rw [tkv_len, rl]
    -- found = {}
    refine fun Fd hF => ?_
    have FD : Fd ≠ D := (ne_of_none r1 hF).symm
    have d0 : (upd H Fd (.dK [])) D = some (.dK (tkv rs)) := by rw [upd_ne FD.symm]; exact r1
    refine ⟨D, .dK (tkv rs), d0, trivial, fun od => ?_⟩
    have hBF : (upd H D (.frz od (.dK (tkv rs)))) Fd = none := by rw [upd_ne FD]; exact hF
    have lockB : (upd H D (.frz od (.dK (tkv rs)))) D = some (.frz od (.dK (tkv rs))) := upd_same
    have back : ∀ {H4 : Hp}, Evl.Ex (upd H D (.frz od (.dK (tkv rs)))) H4 → Evl.Ex H (upd H4 D (.dK (tkv rs))) := fun {H4} x b u h => by
      by_cases q : b = D
      · subst q
        rw [upd_same, ← r1, h]
      · rw [upd_ne q]
        exact x _ _ (by rw [upd_ne q]; exact h)
    have xL : Evl.Ex (upd H D (.frz od (.dK (tkv rs)))) (upd (upd H Fd (.dK [])) D (.frz od (.dK (tkv rs)))) := fun c u h => by
      by_cases q : c = D
      · subst q
        rw [upd_same] at h ⊢
        exact h
      · rw [upd_ne q] at h ⊢
        by_cases q2 : c = Fd
        · subst q2
          rw [hF] at h
          cases h
        · rw [upd_ne q2]
          exact h
    have MB : MixR (upd H D (.frz od (.dK (tkv rs)))) D dots f := ⟨rs, .inr ⟨od, lockB⟩, r2, fun q hq => let ⟨l, e1, e3⟩ := r3 q hq; ⟨l, e1, by rw [upd_ne (ne_of e3 r1 (by intro z; cases z))]; exact e3⟩⟩
    have fL : (upd (upd H Fd (.dK [])) D (.frz od (.dK (tkv rs)))) Fd = some (.dK (tkv (numT [] fun _ => 0))) := by rw [upd_ne FD]; exact upd_same
    generalize upd (upd H Fd (.dK [])) D (.frz od (.dK (tkv rs))) = HL at xL fL
    generalize upd H D (.frz od (.dK (tkv rs))) = HB at hBF lockB back xL MB
    -- for _ in mixture
    refine ⟨.ref D, rfl, D, od, rfl, .inl ⟨tkv rs, xL _ _ lockB, for_it walk_keys
      (fun i σ H' => ∃ (x6 x7 x8 : Option V) (dom : List Str) (g : Str → Int), σ = [some (.ref D), some (.ref Fd), x6, x7, x8, none] ∧ Evl.Ex HB H' ∧ H' Fd = some (.dK (tkv (numT dom g))) ∧ Nums dots f dom g ∧ (i ≤ dom.length ∨ ∃ p, IsRing dots f p))
      ⟨none, none, none, [], _, rfl, xL, fL, nums_nil, .inl (Nat.zero_le _)⟩ (fun i σ H' _ ⟨_, _, _, _, _, _, x, _⟩ => x _ _ lockB) ?_ ?_⟩⟩
    · rintro i x σ H2 H2' hi ⟨x6, x7, x8, dom0, g0, rfl, x2, f2, N2, pr⟩ ⟨rfl, kk, v, hkv, rfl⟩
      rw [tl] at hi
      -- for node in mixture
      refine ⟨.ref D, rfl, D, od, rfl, .inl ⟨tkv rs, x2 _ _ lockB, for_it walk_keys
        (fun j σ H' => ∃ (x7 x8 : Option V) (mo : List Str) (g : Str → Int), σ = [some (.ref D), some (.ref Fd), some (kV kk), x7, x8, none] ∧ Evl.Ex HB H' ∧ H' Fd = some (.dK (tkv (numT (dom0 ++ mo) g))) ∧ Nums dots f (dom0 ++ mo) g ∧
          ∀ z ∈ dots.take j, (∀ y ∈ behind dots f z, y ∈ dom0) → z ∈ dom0 ++ mo)
        ⟨x7, x8, [], g0, rfl, x2, by rw [List.append_nil]; exact f2, by rw [List.append_nil]; exact N2, fun z hz => by cases hz⟩ (fun j σ H' _ ⟨_, _, _, _, _, x, _⟩ => x _ _ lockB) ?_ ?_⟩⟩
      · rintro j y0 σ H4 H4' hj ⟨y7, y8, mo, g, rfl, x4, f4, N4, seen⟩ ⟨rfl, k2, v2, hkv2, rfl⟩
        rw [tl] at hj
        obtain ⟨z, hz, rfl⟩ := key_at r2 hkv2
        have zd := List.mem_of_getElem? hz
        have nl := nums_len N4
        -- below = nodes_behind(mixture, node)
        refine ⟨.ref D, rfl, .str z, rfl, D, z, dots, f, rfl, MB.to x4, zd, W, fun p H5 x5 hp p5 => ?_⟩
        have two : (behind dots f z).length ≤ 2 := Nat.le_trans (List.length_filterMap_le _ _) (W.two z zd)
        have f5 := x5 _ _ f4
        generalize hys : behind dots f z = ys at p5 two
        -- all([place in found for place in below])
        refine ⟨.ref p, rfl, p, rfl, ⟨_, Evl.sq_of p5⟩, fun R hR => lc_list (K := K) (a := p) (xs := ys.map V.str) (fun i H' => Evl.Ex H5 H' ∧ H' R = some (.lst (((ys.take i).map fun y => decide (y ∈ dom0 ++ mo)).map V.bl)))
          ⟨Evl.Ex.new hR, upd_same⟩ (fun i H' _ h => Evl.sq_of (h.1 _ _ p5)) ?_ ?_⟩
        · rintro l y1 H6 hl ⟨x6', h6⟩
          obtain ⟨y, hy, rfl⟩ := str_at hl
          have et : ys.take (l + 1) = ys.take l ++ [y] := by rw [List.take_add_one, hy]; rfl
          refine ⟨rfl, yes_if ?_⟩
          refine ⟨.str y, rfl, .ref Fd, rfl, Fd, _, rfl, DGet.k (k := Sum.inr y) (x6' _ _ f5), _, h6, by rw [List.length_map, List.length_map, List.length_take]; exact small1000 (by omega), x6'.mut hR, ?_⟩
          rw [upd_same, numT_has, et, List.map_append, List.map_append]
          rfl
        · rintro H6 ⟨x6', h6⟩
          rw [List.length_map, List.take_length] at h6
          refine ⟨R, _, rfl, Evl.sq_of h6, _, rfl, ?_⟩
          have x46 := (x4.trans x5).trans x6'
          have f6 := x6' _ _ f5
          have p6 := x6' _ _ p5
          have et : dots.take (j + 1) = dots.take j ++ [z] := by rw [List.take_add_one, hz]; rfl
          by_cases hall : ∀ y ∈ ys, y ∈ dom0 ++ mo
          · have ea : ((ys.map fun y => decide (y ∈ dom0 ++ mo)).all id) = true := by
              rw [List.all_map, List.all_eq_true]
              exact fun y hy => decide_eq_true (hall y hy)
            rw [ea]
            refine iteT ?_
            -- found[node] = max(.., default=0)
            refine ⟨.ref p, rfl, p, rfl, ⟨_, Evl.sq_of p6⟩, fun R2 hR2 => lc_list (K := K) (a := p) (xs := ys.map V.str) (fun i H' => Evl.Ex H6 H' ∧ H' R2 = some (.lst (((ys.take i).map fun y => g y + 1).map V.int)))
              ⟨Evl.Ex.new hR2, upd_same⟩ (fun i H' _ h => Evl.sq_of (h.1 _ _ p6)) ?_ ?_⟩
            · rintro l y1 H7 hl ⟨x7', h7⟩
              obtain ⟨y, hy, rfl⟩ := str_at hl
              have et2 : ys.take (l + 1) = ys.take l ++ [y] := by rw [List.take_add_one, hy]; rfl
              refine ⟨rfl, yes_if ?_⟩
              refine ⟨.ref Fd, rfl, .str y, rfl, Fd, _, rfl, numT_dget (x7' _ _ f6) (hall y (List.mem_of_getElem? hy)), _, _, rfl, rfl, _, h7, by rw [List.length_map, List.length_map, List.length_take]; exact small1000 (by omega), x7'.mut hR2, ?_⟩
              rw [upd_same, et2, List.map_append, List.map_append]
              rfl
            · rintro H7 ⟨x7', h7⟩
              rw [List.length_map, List.take_length] at h7
              refine ⟨R2, ys.map (fun y => g y + 1), 0, rfl, rfl, Evl.sq_of h7, fun mx m1 m2 => ?_⟩
              have tm := isTop_max m1 m2
              have f7 := x7' _ _ f6
              refine ⟨.ref Fd, rfl, .str z, rfl, Fd, _, rfl, DPut.k (k := Sum.inr z) f7 (by rw [tkv_len, numT_len]; exact small1000 (by omega)), ?_⟩
              have x47 := x46.trans x7'
              by_cases zi : z ∈ dom0 ++ mo
              · have e1 := isTop_one (hys ▸ tm) (N4.top z zi)
                subst e1
                refine ⟨_, _, mo, g, rfl, x47.mut hBF, by rw [upd_same, numT_old zi], N4, fun t ht low => ?_⟩
                rw [et] at ht
                rcases List.mem_append.mp ht with ht | ht
                · exact seen t ht low
                · rw [List.mem_singleton.mp ht]; exact zi
              · refine ⟨_, _, mo ++ [z], putN g z mx, rfl, x47.mut hBF, by rw [upd_same, numT_new zi, List.append_assoc], ?_, fun t ht low => ?_⟩
                · rw [← List.append_assoc]
                  exact nums_new N4 zi zd (by rw [hys]; exact hall) (by rw [hys]; exact tm)
                · rw [← List.append_assoc]
                  rw [et] at ht
                  rcases List.mem_append.mp ht with ht | ht
                  · exact List.mem_append_left _ (seen t ht low)
                  · exact List.mem_append_right _ ht
          · have ea : ((ys.map fun y => decide (y ∈ dom0 ++ mo)).all id) = false := by
              rw [← Bool.not_eq_true]
              intro t
              rw [List.all_map, List.all_eq_true] at t
              exact hall fun y hy => of_decide_eq_true (t y hy)
            rw [ea]
            refine iteF ⟨_, _, mo, g, rfl, x46, f6, N4, fun t ht low => ?_⟩
            rw [et] at ht
            rcases List.mem_append.mp ht with ht | ht
            · exact seen t ht low
            · rw [List.mem_singleton.mp ht, hys] at low
              exact (hall fun y hy => List.mem_append_left _ (low y hy)).elim
      · rintro σ H4 ⟨y7, y8, mo, g, rfl, x4, f4, N4, seen⟩
        rw [tl, List.take_length] at seen
        refine ⟨_, y7, y8, dom0 ++ mo, g, rfl, x4, f4, N4, ?_⟩
        rcases pr with pr | pr
        · by_cases big : i + 1 ≤ (dom0 ++ mo).length
          · exact .inl big
          · rw [List.length_append] at big
            have e0 : mo = [] := List.eq_nil_of_length_eq_zero (by omega)
            subst e0
            rw [List.append_nil] at seen N4
            have : ∃ z, z ∈ dots ∧ z ∉ dom0 := by
              by_cases q : ∃ z, z ∈ dots ∧ z ∉ dom0
              · exact q
              · have := nodup_le dots dom0 dn fun z hz => by
                  by_cases q2 : z ∈ dom0
                  · exact q2
                  · exact absurd ⟨z, hz, q2⟩ q
                rw [List.length_nil] at big
                omega
            obtain ⟨z, zd, zn⟩ := this
            refine .inr (ring_of_stop dn (fun t td tn => ?_) zd zn)
            by_cases q : ∃ y ∈ behind dots f t, y ∉ dom0
            · exact q
            · refine absurd (seen t td fun y hy => ?_) tn
              by_cases q2 : y ∈ dom0
              · exact q2
              · exact absurd ⟨y, hy, q2⟩ q
        · exact .inr pr
    · rintro σ H4 ⟨x6, x7, x8, dom, g, rfl, x4, f4, N4, pr⟩
      rw [tl] at pr
      refine ⟨x4 _ _ lockB, ?_⟩
      have x5 := back x4
      have f5 : (upd H4 D (.dK (tkv rs))) Fd = some (.dK (tkv (numT dom g))) := by rw [upd_ne FD]; exact f4
      have d5 : (upd H4 D (.dK (tkv rs))) D = some (.dK (tkv rs)) := upd_same
      generalize upd H4 D (.dK (tkv rs)) = H5 at x5 f5 d5
      have x15 := x1.trans x5
      -- if len(found) < len(mixture)
      refine ⟨.ref Fd, rfl, Fd, _, rfl, f5, .ref D, rfl, D, _, rfl, d5, _, _, rfl, rfl, _, rfl, ?_⟩
      rw [tl, tkv_len, numT_len]
      by_cases sh : dom.length < dots.length
      · rw [decide_eq_true (show (dom.length : Int) < (dots.length : Int) by omega)]
        refine iteT (k .non H5 x15 (.inl ⟨rfl, ?_⟩))
        exact pr.elim (fun q => absurd sh (by omega)) id
      · rw [decide_eq_false (show ¬ (dom.length : Int) < (dots.length : Int) by omega)]
        refine iteF ?_
        have full := nums_full N4 dn (Nat.le_of_not_lt sh)
        have inD : ∀ z ∈ dots, z ∈ dom := fun z hz => nums_all N4 dn (Nat.le_of_not_lt sh) hz
        -- {node: found[node] for node in mixture}
        refine ⟨D, .dK (tkv rs), d5, trivial, fun od2 => ?_⟩
        have lock2 : (upd H5 D (.frz od2 (.dK (tkv rs)))) D = some (.frz od2 (.dK (tkv rs))) := upd_same
        have f6 : (upd H5 D (.frz od2 (.dK (tkv rs)))) Fd = some (.dK (tkv (numT dom g))) := by rw [upd_ne FD]; exact f5
        have back2 : ∀ {H7 : Hp}, Evl.Ex (upd H5 D (.frz od2 (.dK (tkv rs)))) H7 → Evl.Ex H5 (upd H7 D (.dK (tkv rs))) := fun {H7} x b u h => by
          by_cases q : b = D
          · subst q
            rw [upd_same, ← d5, h]
          · rw [upd_ne q]
            exact x _ _ (by rw [upd_ne q]; exact h)
        have hnone : ∀ {q : Addr}, (upd H5 D (.frz od2 (.dK (tkv rs)))) q = none → H q = none := fun {q} h => by
          by_cases e : q = D
          · subst e
            rw [upd_same] at h
            cases h
          · rw [upd_ne e] at h
            exact ex_none x15 h
        generalize upd H5 D (.frz od2 (.dK (tkv rs))) = H6 at lock2 f6 back2 hnone
        refine ⟨.ref D, rfl, D, od2, rfl, .inl ⟨tkv rs, lock2, fun R hR => dc_it walk_keys (fun i H' => Evl.Ex H6 H' ∧ H' R = some (.dK (tkv (numT (dots.take i) g))))
          ⟨Evl.Ex.new hR, upd_same⟩ (fun i H' _ h => h.1 _ _ lock2) ?_ ?_⟩⟩
        · rintro i x H7 H7' hi ⟨x7', h7⟩ ⟨rfl, kk, v, hkv, rfl⟩
          rw [tl] at hi
          obtain ⟨z, hz, rfl⟩ := key_at r2 hkv
          have zd := List.mem_of_getElem? hz
          have et : dots.take (i + 1) = dots.take i ++ [z] := by rw [List.take_add_one, hz]; rfl
          have zn : z ∉ dots.take i := fun hm => by
            have q1 : (dots.take (i + 1)).Nodup := dn.sublist (List.take_sublist _ _)
            rw [et] at q1
            exact (List.nodup_append.mp q1).2.2 z hm z (List.mem_singleton.mpr rfl) rfl
          refine ⟨rfl, yes_if ?_⟩
          refine ⟨.str z, rfl, .ref Fd, rfl, .str z, rfl, Fd, _, rfl, numT_dget (x7' _ _ f6) (inD z zd), _, Sum.inr z, rfl, h7, by rw [tkv_len, numT_len, List.length_take]; exact small1000 (by omega), x7'.mut hR, ?_⟩
          rw [upd_same, numT_snoc zn, et]
        · rintro H7 ⟨x7', h7⟩
          rw [tl, List.take_length] at h7
          refine ⟨x7' _ _ lock2, k (.ref R) _ (x15.trans (back2 x7')) (.inr ⟨R, g, rfl, hnone hR, ?_, full⟩)⟩
          rw [upd_ne (ne_of_none lock2 hR).symm]
          exact h7
theorem sc_ranks : FnScope ["net", "done", "lot", "goal"] ["net", "done", "lot", "goal"] (defScope p_ranks) := ⟨rfl, rfl, rfl, by decide +kernel, rfl, by decide +kernel, by decide +kernel⟩
theorem ok_ranks {f C : Addr} {fd : FuncData} (F : Fun K "ranks" "ranks" p_ranks f fd) (C1 : Cal P w K mg base 6 "ways" ["net", "done", "lot", "goal"] (spMix C)) (C2 : Cal P w K mg base 2 "least_ranks" ["mixture"] spLRanks) : FnOk P w K mg base CX0 7 f fd ["net", "done", "lot", "goal"] (spRanks C) := by
  obtain ⟨f1, fd1, F1, k1, b1, g1⟩ := C1.ex
  obtain ⟨f2, fd2, F2, k2, b2, g2⟩ := C2.ex
  refine F.ok sc_ranks (fun vs H Q E h => ?_) (fun cdv A outer s H vs Q E hr h => ?_)
  · obtain ⟨m, a, b, e, zs, ys, ends, dots, ss, ps, o, n, rfl, _⟩ := h
    rfl
  · obtain ⟨m, a, b, e, zs, ys, ends, dots, ss, ps, o, n, rfl, N, ok, he, t1, t2, La, Lb, dis, k⟩ := h
    refine ⟨_, pss_one (ps_ret (pe_call F2 (hr.mono (by decide)) rfl g2 k2 b2 .nil pass0 (pa_cons (pe_call F1 hr rfl g1 k1 b1 .nil pass0 (pa_cons (pv 0) (pa_cons (pv 1) (pa_cons (pv 2) (pa_cons (pv 3) pa_nil))))) pa_nil))), ?_⟩
    refine ⟨.ref m, rfl, .ref a, rfl, .ref b, rfl, .str e, rfl, m, a, b, e, zs, ys, ends, dots, ss, ps, o, n, rfl, N, ok, he, La, Lb, dis, fun D H1 x1 hD M => ?_⟩
    exact ⟨D, dots, _, rfl, M.mw, webs_of ok he t1 t2, ok.d6, ok.dn, fun v H' x h => k v H' (x1.trans x) (h.imp id fun ⟨p, g, e1, e2, e3⟩ => ⟨p, g, e1, ex_none x1 e2, e3⟩)⟩
end
end Rw
end T_R1

section T_G1
set_option Elab.async false
set_option linter.all false
set_option maxRecDepth 100000
set_option maxHeartbeats 2000000
namespace Rw
open PySem PySem.Spec PySem.Calls L2 PyProof.Rows
/-- the law's own call, its def a FnG -/
theorem law_goes {P : Program} {w : World} {K : PySem.W.Frag} {mg mb : Str → Option Value} {k : Nat} {fa a : Addr} {fd : FuncData} {x : Str} {sp : Sp} {s : Shared} {vs : List Value} {ns : List Int}
    (known : K.In s.heap) (globs : s.heap.Ns mainGlobals mg) (blt : s.heap.Ns builtinsNs mb) (blt_is : ∀ y : Str, y ≠ "__name__" → mb y = bootBuiltins y) (nolim : s.heap.NoLimit) (nogen : s.gens = #[])
    (scr : s.heap.get? a = some { cls := .type "list", data := .seq vs.toArray }) (intsOf : IntsAre vs ns) (few : ns.length ≤ sizeLine) (room : Room k callerA)
    (F : ∀ base : Heap, K.In base → base.Ns mainGlobals mg → FnG P w K mg base CX0 k fa fd [x] sp) (bind : ∀ (s : Shared) (u : Value), BindsTo s fd ⟨[u], []⟩ [(x, u)])
    (prom : ∀ H : Hp, SqL K H a (ns.map V.int) → sp [.ref a] H (fun v _ => v = .bl true) fun _ _ _ => False) :
    codeAny (model P w) callerA (.call (.ref fa) ⟨[.ref a], []⟩) (fun r s' => r = .ok (.ret (.bool true)) ∧ OldK s.heap s'.heap ∧ s'.os = s.os ∧ AllBare s'.gens) s := by
  have items := vals_ints intsOf
  have main : ∀ H : Hp, (∀ b u, H b = some u → b = a ∧ K.lookup a = none ∧ u = .frz { cls := .type "list", data := .seq vs.toArray } (.lst (ns.map V.int))) → SqL K H a (ns.map V.int) →
      codeAny (model P w) callerA (.call (.ref fa) ⟨[.ref a], []⟩) (fun r s' => r = .ok (.ret (.bool true)) ∧ OldK s.heap s'.heap ∧ s'.os = s.os ∧ AllBare s'.gens) s := by
    intro H sole reads
    have held : HOk P w H s.heap := fun b u z => by
      obtain ⟨rfl, _, rfl⟩ := sole b u z
      exact ⟨scr, by rw [List.length_map]; exact few, vs, _, items, scr⟩
    have ns_hid : ∀ {b : Addr} {m : Str → Option Value}, s.heap.Ns b m → (hidT s.heap H).Ns b m := by
      rintro b m ⟨o, es, ep, at_b, isD, rest⟩
      refine ⟨o, es, ep, hidT_get at_b ?_, isD, rest⟩
      cases z : H b with
      | none => rfl
      | some u =>
        obtain ⟨rfl, _, _⟩ := sole b u z
        rw [scr] at at_b
        cases at_b
        cases isD
    have known_hid : K.In (hidT s.heap H) := fun b o at_b => hidT_get (known b o at_b) (by
      cases z : H b with
      | none => rfl
      | some u =>
        obtain ⟨rfl, no, _⟩ := sole b u z
        rw [no] at at_b
        cases at_b)
    have lim_hid : (hidT s.heap H).NoLimit := by
      obtain ⟨mc, q1, q2⟩ := nolim
      exact ⟨mc, ns_hid q1, q2⟩
    have here : Env0 P w K mg (hidT s.heap H) callerA [] s H :=
      { frames := rfl, mod := ⟨known_hid, ns_hid globs, ⟨mb, ns_hid blt, blt_is⟩, lim_hid⟩, bs := fun b o => of_hidT, bsz := Nat.le_of_eq (hidT_size _ _), funs := trivial,
        frf := fun b hb => (by cases hb), hok := held, bare := .of_eq nogen }
    have ran := (F _ known_hid (ns_hid globs)).goes callerA [] s H ⟨[.ref a], []⟩ [.ref a] [.ref a] _ _ rfl room here (bind s (.ref a)) (.cons rfl .nil) (prom H reads)
    refine codeAny_mono ran fun out s' got => ?_
    match out, got with
    | .error _, got => exact got.elim
    | .ok .next, got => exact got.elim
    | .ok .brk, got => exact got.elim
    | .ok .cont, got => exact got.elim
    | .ok (.ret u), got =>
      obtain ⟨v, H', os, bare, un, held', rel, yes⟩ := got
      have yes' : v = .bl true := yes
      subst yes'
      have u_is : u = Value.bool true := rel
      subst u_is
      refine ⟨rfl, OldK.of_keep fun b o at_b => ?_, os, bare⟩
      cases z : H b with
      | none => exact un.keep b o at_b z (fun hb => by cases hb) (fun hb => by cases hb)
      | some u =>
        obtain ⟨rfl, _, rfl⟩ := sole b u z
        obtain ⟨still, _⟩ := held' b _ (un.frzs b _ _ z)
        rw [scr] at at_b
        cases at_b
        exact still
  cases kn : K.lookup a with
  | none =>
    refine main (fun b => if b = a then some (.frz { cls := .type "list", data := .seq vs.toArray } (.lst (ns.map V.int))) else none) (fun b u z => ?_) (.inl (.inr ⟨_, if_pos rfl⟩))
    by_cases e : b = a
    · rw [if_pos e] at z
      exact ⟨e, kn, (Option.some.inj z).symm⟩
    · rw [if_neg e] at z
      cases z
  | some o =>
    have o_is := known a o kn
    rw [scr] at o_is
    cases o_is
    exact main (fun _ => none) (fun b u z => by cases z) (.inr ⟨_, vs.toArray, _, kn, rfl, rfl, rfl, by rw [List.size_toArray, intsOf.length]; exact few, by simpa using items⟩)
/-- the end of a row, its law a FnG -/
theorem walk_ofG {l : PySem.W.OpenLaw} {n k : Nat} {q : Program} {loose : List Str} {XP : (Str → Option Value) → Heap → Prop} {YP : World → Heap → Prop} {d : DefRec} {K : Params → PySem.W.Frag} {sp : World → Sp} {x : Str}
    (most : l.most = some n) (small : n ≤ sizeLine) (nodef : d.params.defaults = []) (room : Room k callerA) (knows : ∀ (w : World) (h : Heap), YP w h → (K w.params).In h)
    (F : ∀ (w : World) (mg : Str → Option Value) (fa : Addr) (h : Heap), (K w.params).In h → h.Ns mainGlobals mg → mg d.name = some (.ref fa) →
      ∃ fd : FuncData, (∀ (s : Shared) (u : Value), BindsTo s fd ⟨[u], []⟩ [(x, u)]) ∧ ∀ base : Heap, (K w.params).In base → base.Ns mainGlobals mg → FnG l.prog w (K w.params) mg base CX0 k fa fd [x] (sp w))
    (prom : ∀ (w : World) (H : Hp) (a : Addr) (ns : List Int), ns.length ≤ n → SqL (K w.params) H a (ns.map V.int) → sp w [.ref a] H (fun v _ => v = .bl true) fun _ _ _ => False) :
    PySem.W.WalkO q loose XP YP l.row.toRowW d [] (fun f vs => PySem.call f vs) := by
  refine Att.attach_call most nodef ?_
  intro w s₀ s₁ mg mb fa o pm cd doc a vs ns G Y _ _ _ at_law scr intsOf few nogen
  obtain ⟨fd, bind, all⟩ := F w mg fa _ (knows w _ Y) G.T.g at_law
  exact law_goes (knows w _ Y) G.T.g G.T.b G.T.builtins G.T.nolimit nogen scr intsOf (Nat.le_trans few small) room all bind fun H reads => prom w H a ns few reads
end Rw
end T_G1

section T_G3
set_option Elab.async false
set_option linter.all false
set_option maxRecDepth 100000
set_option maxHeartbeats 2000000
namespace Rw
open PySem PySem.Spec PySem.Calls L2 PyProof.Rows
/-- the law's own call, its def a FnG, sys.modules a dict -/
theorem law_goesQ {P : Program} {w : World} {K : PySem.W.Frag} {mg mb : Str → Option Value} {k : Nat} {fa a : Addr} {fd : FuncData} {x : Str} {sp : Sp} {s : Shared} {vs : List Value} {ns : List Int}
    (known : K.In s.heap) (globs : s.heap.Ns mainGlobals mg) (blt : s.heap.Ns builtinsNs mb) (blt_is : ∀ y : Str, y ≠ "__name__" → mb y = bootBuiltins y) (nolim : s.heap.NoLimit) (nogen : s.gens = #[])
    (scr : s.heap.get? a = some { cls := .type "list", data := .seq vs.toArray }) (intsOf : IntsAre vs ns) (few : ns.length ≤ sizeLine) (room : Room k callerA)
    (sysd : SysDict s.heap) (F : ∀ base : Heap, K.In base → base.Ns mainGlobals mg → SysDict base → FnG P w K mg base CX0 k fa fd [x] sp) (bind : ∀ (s : Shared) (u : Value), BindsTo s fd ⟨[u], []⟩ [(x, u)])
    (prom : ∀ H : Hp, SqL K H a (ns.map V.int) → sp [.ref a] H (fun v _ => v = .bl true) fun _ _ _ => False) :
    codeAny (model P w) callerA (.call (.ref fa) ⟨[.ref a], []⟩) (fun r s' => r = .ok (.ret (.bool true)) ∧ OldK s.heap s'.heap ∧ s'.os = s.os ∧ AllBare s'.gens) s := by
  have items := vals_ints intsOf
  have main : ∀ H : Hp, (∀ b u, H b = some u → b = a ∧ K.lookup a = none ∧ u = .frz { cls := .type "list", data := .seq vs.toArray } (.lst (ns.map V.int))) → SqL K H a (ns.map V.int) →
      codeAny (model P w) callerA (.call (.ref fa) ⟨[.ref a], []⟩) (fun r s' => r = .ok (.ret (.bool true)) ∧ OldK s.heap s'.heap ∧ s'.os = s.os ∧ AllBare s'.gens) s := by
    intro H sole reads
    have held : HOk P w H s.heap := fun b u z => by
      obtain ⟨rfl, _, rfl⟩ := sole b u z
      exact ⟨scr, by rw [List.length_map]; exact few, vs, _, items, scr⟩
    have ns_hid : ∀ {b : Addr} {m : Str → Option Value}, s.heap.Ns b m → (hidT s.heap H).Ns b m := by
      rintro b m ⟨o, es, ep, at_b, isD, rest⟩
      refine ⟨o, es, ep, hidT_get at_b ?_, isD, rest⟩
      cases z : H b with
      | none => rfl
      | some u =>
        obtain ⟨rfl, _, _⟩ := sole b u z
        rw [scr] at at_b
        cases at_b
        cases isD
    have known_hid : K.In (hidT s.heap H) := fun b o at_b => hidT_get (known b o at_b) (by
      cases z : H b with
      | none => rfl
      | some u =>
        obtain ⟨rfl, no, _⟩ := sole b u z
        rw [no] at at_b
        cases at_b)
    have sys_hid : SysDict (hidT s.heap H) := by
      obtain ⟨o, es, ep, q1, q2⟩ := sysd
      refine ⟨o, es, ep, hidT_get q1 ?_, q2⟩
      cases z : H sysModules with
      | none => rfl
      | some u =>
        obtain ⟨ea, _, _⟩ := sole _ u z
        rw [ea, scr] at q1
        cases q1
        cases q2
    have lim_hid : (hidT s.heap H).NoLimit := by
      obtain ⟨mc, q1, q2⟩ := nolim
      exact ⟨mc, ns_hid q1, q2⟩
    have here : Env0 P w K mg (hidT s.heap H) callerA [] s H :=
      { frames := rfl, mod := ⟨known_hid, ns_hid globs, ⟨mb, ns_hid blt, blt_is⟩, lim_hid⟩, bs := fun b o => of_hidT, bsz := Nat.le_of_eq (hidT_size _ _), funs := trivial,
        frf := fun b hb => (by cases hb), hok := held, bare := .of_eq nogen }
    have ran := (F _ known_hid (ns_hid globs) sys_hid).goes callerA [] s H ⟨[.ref a], []⟩ [.ref a] [.ref a] _ _ rfl room here (bind s (.ref a)) (.cons rfl .nil) (prom H reads)
    refine codeAny_mono ran fun out s' got => ?_
    match out, got with
    | .error _, got => exact got.elim
    | .ok .next, got => exact got.elim
    | .ok .brk, got => exact got.elim
    | .ok .cont, got => exact got.elim
    | .ok (.ret u), got =>
      obtain ⟨v, H', os, bare, un, held', rel, yes⟩ := got
      have yes' : v = .bl true := yes
      subst yes'
      have u_is : u = Value.bool true := rel
      subst u_is
      refine ⟨rfl, OldK.of_keep fun b o at_b => ?_, os, bare⟩
      cases z : H b with
      | none => exact un.keep b o at_b z (fun hb => by cases hb) (fun hb => by cases hb)
      | some u =>
        obtain ⟨rfl, _, rfl⟩ := sole b u z
        obtain ⟨still, _⟩ := held' b _ (un.frzs b _ _ z)
        rw [scr] at at_b
        cases at_b
        exact still
  cases kn : K.lookup a with
  | none =>
    refine main (fun b => if b = a then some (.frz { cls := .type "list", data := .seq vs.toArray } (.lst (ns.map V.int))) else none) (fun b u z => ?_) (.inl (.inr ⟨_, if_pos rfl⟩))
    by_cases e : b = a
    · rw [if_pos e] at z
      exact ⟨e, kn, (Option.some.inj z).symm⟩
    · rw [if_neg e] at z
      cases z
  | some o =>
    have o_is := known a o kn
    rw [scr] at o_is
    cases o_is
    exact main (fun _ => none) (fun b u z => by cases z) (.inr ⟨_, vs.toArray, _, kn, rfl, rfl, rfl, by rw [List.size_toArray, intsOf.length]; exact few, by simpa using items⟩)
/-- the end of a row, its law a FnG -/
theorem walk_ofQ {l : PySem.W.OpenLaw} {n k : Nat} {q : Program} {loose : List Str} {XP : (Str → Option Value) → Heap → Prop} {YP : World → Heap → Prop} {d : DefRec} {K : Params → PySem.W.Frag} {sp : World → Sp} {x : Str}
    (most : l.most = some n) (small : n ≤ sizeLine) (clean : importsNone q = true) (nodef : d.params.defaults = []) (room : Room k callerA) (knows : ∀ (w : World) (h : Heap), YP w h → (K w.params).In h)
    (F : ∀ (w : World) (mg : Str → Option Value) (fa : Addr) (h : Heap), (K w.params).In h → h.Ns mainGlobals mg → mg d.name = some (.ref fa) →
      ∃ fd : FuncData, (∀ (s : Shared) (u : Value), BindsTo s fd ⟨[u], []⟩ [(x, u)]) ∧ ∀ base : Heap, (K w.params).In base → base.Ns mainGlobals mg → SysDict base → FnG l.prog w (K w.params) mg base CX0 k fa fd [x] (sp w))
    (prom : ∀ (w : World) (H : Hp) (a : Addr) (ns : List Int), ns.length ≤ n → SqL (K w.params) H a (ns.map V.int) → sp w [.ref a] H (fun v _ => v = .bl true) fun _ _ _ => False) :
    PySem.W.WalkO q loose XP YP l.row.toRowW d [] (fun f vs => PySem.call f vs) := by
  refine Att.attach_call most nodef ?_
  intro w s₀ s₁ mg mb fa o pm cd doc a vs ns G Y _ _ _ at_law scr intsOf few nogen
  obtain ⟨fd, bind, all⟩ := F w mg fa _ (knows w _ Y) G.T.g at_law
  exact law_goesQ (knows w _ Y) G.T.g G.T.b G.T.builtins G.T.nolimit nogen scr intsOf (Nat.le_trans few small) room (let ⟨_, ⟨o, es, ep, h1, h2, _⟩, _⟩ := (G.T.seer clean).mods; ⟨o, es, ep, h1, h2⟩) all bind fun H reads => prom w H a ns few reads
end Rw
end T_G3

section T_O1
set_option Elab.async false
set_option linter.all false
set_option maxRecDepth 100000
set_option maxHeartbeats 8000000
namespace Rw
open PySem PySem.Spec L2 PyProof.Rows
/-- the number and the row of a pair in the heap -/
def txtOf : V → Str
  | .str z => z
  | _ => Str.empty
def rowOf (H : Hp) (b : Addr) : List Str := match H b with
  | some (.tup vs) => vs.map txtOf
  | _ => []
def keyAt (H : Hp) : V → Int × List Str
  | .ref t => match H t with
    | some (.tup [.int i, .ref b]) => (i, rowOf H b)
    | _ => (0, [])
  | _ => (0, [])
theorem keyAt_of {H : Hp} {t b : Addr} {i : Int} {zs : List Str} (h1 : H t = some (.tup [.int i, .ref b])) (h2 : H b = some (.tup (zs.map V.str))) : keyAt H (.ref t) = (i, zs) := by
  have e : rowOf H b = zs := by
    unfold rowOf
    rw [h2]
    show (zs.map V.str).map txtOf = zs
    rw [List.map_map, show (txtOf ∘ V.str) = id from rfl, List.map_id]
  rw [← e]
  show (match H t with | some (.tup [.int i, .ref b]) => (i, rowOf H b) | _ => (0, [])) = (i, rowOf H b)
  rw [h1]
theorem tups_data {K : PySem.W.Frag} {H : Hp} {L : List (Addr × List Str)} (h : TupsAt H L) (nm : ∀ q ∈ L, ∀ z ∈ q.2, Nm z) : ∀ v ∈ L.map (fun q => V.ref q.1), DataV K H v := fun v hv => by
  obtain ⟨q, hq, rfl⟩ := List.mem_map.mp hv
  obtain ⟨ds, g1, g2, g3, g4⟩ := data_all (K := K) (H := H) (q.2.map V.str) fun u hu => by
    obtain ⟨z, hz, rfl⟩ := List.mem_map.mp hu
    exact strV_data (nm_ok (nm q hq z hz))
  have dep : ∀ (zs : List Str) (ds : List PyData), DpAll K H (zs.map V.str) ds → PyData.depthAll ds = 0 := fun zs => by
    induction zs with
    | nil => intro ds h; cases h; rfl
    | cons z zs ih =>
      intro ds h
      cases h with
      | cons h1 h2 =>
        cases h1
        show max 0 (PyData.depthAll _) = 0
        rw [ih _ h2]
        rfl
  refine ⟨.tuple ds, .tup (Evl.st_of (h q hq)) g1, g2, ?_⟩
  show PyData.depthAll ds + 1 ≤ 60
  rw [dep _ _ g1]
  decide
/-- rows by length, then ascending -/
def InOrder (L : List (List Str)) : Prop := L.Pairwise fun a b => numRow ((b.length : Int), b) ((a.length : Int), a) = false
/-- a ring, or that there is none, as data -/
def ringD (q : Option (List Str)) : PyData := match q with
  | none => .none
  | some p => .tuple (p.map PyData.str)
theorem dq_names {K : PySem.W.Frag} {H : Hp} : ∀ p : List Str, DqAll K H (p.map V.str) (p.map PyData.str)
  | [] => .nil
  | z :: p => .cons (.str z) (dq_names p)
theorem names_short : ∀ p : List Str, (∀ z ∈ p, Nm z) → PyData.leavesShortAll 13 (p.map PyData.str) = true ∧ PyData.weightAll (p.map PyData.str) ≤ 7 * p.length ∧ PyData.depthAll (p.map PyData.str) = 0 ∧ PyData.showableAll (p.map PyData.str) = true
  | [], _ => ⟨rfl, Nat.zero_le _, rfl, rfl⟩
  | z :: p, h => by
    obtain ⟨g1, g2, g3, g4⟩ := names_short p fun y hy => h y (List.mem_cons_of_mem _ hy)
    have hz := h z List.mem_cons_self
    refine ⟨?_, ?_, ?_, ?_⟩
    · show (PyData.leavesShort 13 (.str z) && PyData.leavesShortAll 13 (p.map PyData.str)) = true
      rw [g1, nm_short hz]
      rfl
    · show z.cps.size + 1 + PyData.weightAll (p.map PyData.str) ≤ 7 * (p.length + 1)
      have : z.cps.size ≤ 6 := nm_len hz
      omega
    · show max 0 (PyData.depthAll (p.map PyData.str)) = 0
      rw [g3]
      rfl
    · show (true && PyData.showableAll (p.map PyData.str)) = true
      rw [g4]
      rfl
/-- the best ring of a mixture, if there is one -/
def BestIs (dots : List Str) (f : Str → List V) : Option (List Str) → Prop
  | none => ∀ p, ¬ IsRing dots f p
  | some p => Best dots f p
theorem best_uniq {dots : List Str} {f : Str → List V} {p q : List Str} (h1 : Best dots f p) (h2 : Best dots f q) : p = q := by
  have a := h1.2 q h2.1
  have b := h2.2 p h1.1
  by_cases e : q.length = p.length
  · rw [numRow_even e] at a
    rw [numRow_even e.symm] at b
    exact lexS_tot b a
  · rcases Nat.lt_or_ge q.length p.length with l | l
    · rw [numRow_short l] at a
      cases a
    · rw [numRow_short (by omega)] at b
      cases b
theorem bestIs_uniq {dots : List Str} {f : Str → List V} {a b : Option (List Str)} (h1 : BestIs dots f a) (h2 : BestIs dots f b) : a = b := by
  cases a with
  | none =>
    cases b with
    | none => rfl
    | some q => exact absurd h2.1 (h1 q)
  | some p =>
    cases b with
    | none => exact absurd h1.1 (h2 p)
    | some q => rw [best_uniq h1 h2]
/-- v is the best ring, or None -/
def RingV (dots : List Str) (f : Str → List V) (v : V) (H : Hp) : Prop := ∃ q, BestIs dots f q ∧ match q with
  | none => v = .non
  | some p => ∃ a, v = .ref a ∧ H a = some (.tup (p.map V.str))
theorem RingIs.v {dots : List Str} {f : Str → List V} {v : V} {H : Hp} (h : RingIs dots f v H) : RingV dots f v H := by
  rcases h with ⟨e, h⟩ | ⟨a, p, e, h1, h2⟩
  · exact ⟨none, h, e⟩
  · exact ⟨some p, h2, a, e, h1⟩
theorem RingV.to {dots : List Str} {f : Str → List V} {v : V} {H H' : Hp} (h : RingV dots f v H) (x : Evl.Ex H H') : RingV dots f v H' := by
  obtain ⟨q, h1, h2⟩ := h
  refine ⟨q, h1, ?_⟩
  cases q with
  | none => exact h2
  | some p => obtain ⟨a, e, h⟩ := h2; exact ⟨a, e, x _ _ h⟩
theorem best_names {dots : List Str} {f : Str → List V} (nm : ∀ z ∈ dots, Nm z) (d6 : dots.length ≤ 6) {q : Option (List Str)} (h : BestIs dots f q) : match q with | none => True | some p => (∀ z ∈ p, Nm z) ∧ p.length ≤ 6 := by
  cases q with
  | none => trivial
  | some p => exact ⟨fun z hz => nm z (isWay_dots h.1.1 z hz), Nat.le_trans (nodup_le p dots (best_nodup h) (isWay_dots h.1.1)) d6⟩
/-- data of a ring -/
theorem ringV_data {dots : List Str} {f : Str → List V} (nm : ∀ z ∈ dots, Nm z) (d6 : dots.length ≤ 6) {q : Option (List Str)} (hq : BestIs dots f q) : (∀ {K : PySem.W.Frag} {H : Hp} {v : V}, RingV dots f v H → Dq K H v (ringD q)) ∧ (ringD q).showable = true ∧ (ringD q).depth ≤ 1 ∧ PyData.leavesShort 13 (ringD q) = true ∧ (ringD q).weight ≤ 42 := by
  have nmq := best_names nm d6 hq
  refine ⟨fun {K H v} h => ?_, ?_⟩
  · obtain ⟨q', h1, h2⟩ := h
    have e := bestIs_uniq hq h1
    subst e
    cases q with
    | none =>
      have h2' : v = .non := h2
      rw [h2']
      exact .non
    | some p =>
      obtain ⟨a, rfl, ha⟩ := h2
      exact .tup (Evl.st_of ha) (dq_names p)
  · cases q with
    | none => exact ⟨rfl, Nat.zero_le _, by decide, by decide⟩
    | some p =>
      obtain ⟨g1, g2, g3, g4⟩ := names_short p nmq.1
      have l6 := nmq.2
      refine ⟨g4, ?_, g1, ?_⟩
      · show PyData.depthAll (p.map PyData.str) + 1 ≤ 1
        rw [g3]
        decide
      · show PyData.weightAll (p.map PyData.str) ≤ 42
        omega
/-- [ring, mixture] is shown -/
theorem both_repr (f : Str → List V) (dots : List Str) (h : ∀ z ∈ dots, Nm z ∧ (∀ v ∈ f z, Spot v) ∧ (f z).length ≤ 2) (d6 : dots.length ≤ 6) {q : Option (List Str)} (hq : BestIs dots f q) : ∃ d : PyData,
    (∀ {K : PySem.W.Frag} {H0 H : Hp} {v : V} {D l : Addr}, RingV dots f v H → MixAt H0 H D dots f → H l = some (.lst [v, .ref D]) → Dq K H (.ref l) d) ∧ d.showable = true ∧ d.depth ≤ 64 ∧ d.shown.length ≤ sizeLine := by
  obtain ⟨kvs, g1, g2, g3, g4, g5⟩ := mix_kvs f dots h
  obtain ⟨r1, r2, r3, r4, r5⟩ := ringV_data (f := f) (fun z hz => (h z hz).1) d6 hq
  refine ⟨.list [ringD q, .dict kvs], fun {K H0 H v D l} R M hl => ?_, ?_, ?_, ?_⟩
  · obtain ⟨rs, h1, h2, h3⟩ := M.ex
    refine .lst (Evl.sq_of hl) (.cons (r1 R) (.cons (.dic (.inl h1) (g1 K H rs h2 fun p hp => ?_)) .nil))
    obtain ⟨l, l1, _, l3⟩ := h3 p hp
    exact ⟨l, l1, l3⟩
  · show ((ringD q).showable && (PyData.showableKv kvs && true)) = true
    rw [r2, g5]
    rfl
  · show max (ringD q).depth (max (PyData.depthKv kvs + 1) 0) + 1 ≤ 64
    omega
  · refine PyData.shown_fits (B := 13) (by decide) (by decide) ?_ (Nat.le_trans (show (PyData.list [ringD q, .dict kvs]).weight ≤ 300 from ?_) (by decide))
    · show (PyData.leavesShort 13 (ringD q) && (PyData.leavesShortKv 13 kvs && true)) = true
      rw [r4, g2]
      rfl
    · show (ringD q).weight + 1 + (PyData.weightKv kvs + 1 + 0) ≤ 300
      omega
/-- a + b of tuples that stand in the heap -/
def rCatU : R2 := fun x y H Q => ∃ (a b : Addr) (xs ys : List V), x = .ref a ∧ y = .ref b ∧ H a = some (.tup xs) ∧ H b = some (.tup ys) ∧ xs.length + ys.length ≤ sizeLine ∧ ∀ q H', Evl.Ex H H' → H' q = some (.tup (xs ++ ys)) → Q (.ref q) H'
theorem op_catU {X : Cx} : OpR X (binaryOp .Add) rCatU := by
  intro pins s σ H x y v u Q I rx ry h
  obtain ⟨a, b, xs, ys, rfl, rfl, ha, hb, hz, k⟩ := h
  refine op_catA pins s σ H _ _ v u Q I rx ry ⟨a, b, xs, ys, rfl, rfl, Evl.st_of ha, Evl.st_of hb, hz, fun e => ?_, fun _ e => ?_, fun _ _ p hp => ?_⟩
  · subst e
    exact k b H (Evl.Ex.refl H) hb
  · subst e
    refine k a H (Evl.Ex.refl H) ?_
    rw [List.append_nil]
    exact ha
  · exact k p _ (Evl.Ex.new hp) upd_same
/-- repr of None, or of data -/
def rReprV (K : PySem.W.Frag) : List V → Hp → VK → Prop := fun xs H Q => ∃ (v : V) (d : PyData), xs = [v] ∧ (v = .non ∨ ∃ a, v = .ref a) ∧ Dq K H v d ∧ d.showable = true ∧ d.depth ≤ 64 ∧ d.shown.length ≤ sizeLine ∧ Q (.str d.shown) H
theorem none_shown : PyData.shown .none = "None" := by kernel_rfl
theorem call_reprV {X : Cx} (hg : X.A.guards = some []) (hu : X.A.units + 70 < cLine) (sys : SysDict X.base) : CallR X (.builtin "repr") (rReprV X.K) := by
  intro pins s σ H xs us Q I r h
  obtain ⟨v, d, rfl, hv, hd, h1, h3, h4, q⟩ := h
  rcases hv with rfl | ⟨a, rfl⟩
  · cases hd
    obtain ⟨u, rfl, ru⟩ := vals1 r
    cases ru
    rw [none_shown] at q
    exact PySem.P.repr_of_none ⟨.str "None", H, I.tok _, ⟨_, rfl⟩, q⟩
  · exact call_reprQ hg hu sys pins s σ H [.ref a] us Q I r ⟨a, d, rfl, hd, h1, h3, h4, q⟩
/-- the first of some, or None -/
def firstV : List (Addr × List Str) → V
  | [] => .non
  | q :: _ => .ref q.1
theorem first_or {K : PySem.W.Frag} {H : Hp} {sl : Addr} {i : Nat} {σ : L2.St} {Q : VK} (L : List (Addr × List Str)) (hs : H sl = some (.lst (L.map fun q => V.ref q.1))) (slot : σ[i]? = some (some (.ref sl))) (h : Q (firstV L) H) :
    if (!(L.map fun q => V.ref q.1).isEmpty) = true then tOp (rIxL K) (tVar i) (tC (.int 0)) σ H Q else tC .non σ H Q := by
  cases L with
  | nil => exact iteF h
  | cons q r => exact iteT ⟨.ref sl, slot, sl, _, 0, .ref q.1, rfl, rfl, Evl.sq_of hs, atI_nat (j := 0) rfl, h⟩
theorem first_ring {dots : List Str} {f : Str → List V} {H : Hp} {L : List (Addr × List Str)} (tu : TupsAt H L) (isr : ∀ q ∈ L, IsRing dots f q.2) (hit : ∀ b, Best dots f b → ∃ q ∈ L, q.2 = b) (ord : InOrder (L.map (·.2)))
    (some_ : (∀ p, ¬ IsRing dots f p) ∨ ∃ p, Best dots f p) : RingV dots f (firstV L) H := by
  cases L with
  | nil =>
    rcases some_ with h | ⟨p, h⟩
    · exact ⟨none, h, rfl⟩
    · obtain ⟨q, hq, _⟩ := hit p h
      cases hq
  | cons q0 L =>
    rcases some_ with h | ⟨p, h⟩
    · exact absurd (isr q0 List.mem_cons_self) (h q0.2)
    · refine ⟨some p, h, q0.1, rfl, ?_⟩
      have e : q0.2 = p := by
        obtain ⟨q, hq, e⟩ := hit p h
        have b := h.2 q0.2 (isr q0 List.mem_cons_self)
        have a : numRow ((p.length : Int), p) ((q0.2.length : Int), q0.2) = false := by
          rcases List.mem_cons.mp hq with rfl | hq
          · rw [e]
            unfold numRow
            rw [if_pos rfl]
            exact lexS_self p
          · have o := (List.pairwise_cons.mp ord).1 q.2 (List.mem_map_of_mem hq)
            rw [e] at o
            exact o
        by_cases el : q0.2.length = p.length
        · rw [numRow_even el] at b
          rw [numRow_even el.symm] at a
          exact lexS_tot b a
        · rcases Nat.lt_or_ge q0.2.length p.length with l | l
          · rw [numRow_short l] at b
            cases b
          · rw [numRow_short (by omega)] at a
            cases a
      rw [← e]
      exact tu q0 List.mem_cons_self
theorem RingV.or {dots : List Str} {f : Str → List V} {v : V} {H : Hp} (h : RingV dots f v H) : (∀ p, ¬ IsRing dots f p) ∨ ∃ p, Best dots f p := by
  obtain ⟨q, h1, _⟩ := h
  cases q with
  | none => exact .inl h1
  | some p => exact .inr ⟨p, h1⟩
theorem RingV.kind {dots : List Str} {f : Str → List V} {v : V} {H : Hp} (h : RingV dots f v H) : v = .non ∨ ∃ a, v = .ref a := by
  obtain ⟨q, _, h2⟩ := h
  cases q with
  | none => exact .inl h2
  | some p => exact .inr ⟨_, h2.choose_spec.1⟩
theorem firstV_kind (L : List (Addr × List Str)) : firstV L = .non ∨ ∃ a, firstV L = .ref a := by
  cases L with
  | nil => exact .inl rfl
  | cons q L => exact .inr ⟨_, rfl⟩
/-- the rows of a model with other tables -/
theorem rows_ok {H : Hp} {ends dots : List Str} {rows : List (Str × V)} {o n : Str → List (Str × V)} (h : RowsAt H ends dots rows o n) : ∀ e ∈ ends, TabOk dots e (o e) ∧ TabOk dots e (n e) := fun e he => by
  obtain ⟨_, _, _, _, pa⟩ := h e he
  exact ⟨pa.o1, pa.o2⟩
/-- a pair, or None, that stands in the heap -/
def DueV (q : Option (List Str)) (v : V) (H : Hp) : Prop := match q with
  | none => v = .non
  | some p => ∃ a, v = .ref a ∧ H a = some (.tup (p.map V.str))
theorem DueV.to {q : Option (List Str)} {v : V} {H H' : Hp} (h : DueV q v H) (x : Evl.Ex H H') : DueV q v H' := by
  cases q with
  | none => exact h
  | some p => obtain ⟨a, e, h⟩ := h; exact ⟨a, e, x _ _ h⟩
theorem dp_names {K : PySem.W.Frag} {H : Hp} : ∀ p : List Str, DpAll K H (p.map V.str) (p.map PyData.str)
  | [] => .nil
  | z :: p => .cons (.str z) (dp_names p)
theorem names_lay : ∀ p : List Str, (∀ z ∈ p, Nm z) → PyData.canLayAll0 (p.map PyData.str) = true ∧ PyData.depthAll (p.map PyData.str) = 0
  | [], _ => ⟨rfl, rfl⟩
  | z :: p, h => by
    obtain ⟨g1, g2⟩ := names_lay p fun y hy => h y (List.mem_cons_of_mem _ hy)
    refine ⟨?_, ?_⟩
    · show (PyData.strOk z && PyData.canLayAll0 (p.map PyData.str)) = true
      rw [nm_ok (h z List.mem_cons_self), g1]
      rfl
    · show max 0 (PyData.depthAll (p.map PyData.str)) = 0
      rw [g2]
      rfl
theorem dueV_data {q : Option (List Str)} (nm : ∀ p, q = some p → ∀ z ∈ p, Nm z) : (∀ {K : PySem.W.Frag} {H : Hp} {v : V}, DueV q v H → Dp K H v (ringD q)) ∧ SeqAt.shaped (ringD q) = true ∧ PyData.eqv (ringD q) (ringD q) = true := by
  cases q with
  | none =>
    refine ⟨fun {K H v} h => ?_, rfl, rfl⟩
    have h' : v = .non := h
    rw [h']
    exact .non
  | some p =>
    obtain ⟨l1, l2⟩ := names_lay p (nm p rfl)
    refine ⟨fun {K H v} h => ?_, ?_, SeqAt.eqv_refl _ l1⟩
    · obtain ⟨a, rfl, ha⟩ := h
      exact .tup (Evl.st_of ha) (dp_names p)
    · exact shaped_tup l1 (by rw [l2]; decide)
theorem dueV_kind {q : Option (List Str)} {v : V} {H : Hp} (h : DueV q v H) : decide (v = .non) = q.isNone := by
  cases q with
  | none => rw [show v = .non from h]; rfl
  | some p => obtain ⟨a, e, _⟩ := h; rw [e]; exact decide_eq_false (fun z => nomatch z)
end Rw
end T_O1

section T_V4
set_option Elab.async false
set_option linter.all false
set_option maxRecDepth 100000
set_option maxHeartbeats 4000000
/-! ### == of dicts whose values are data; of dicts of numbers, or None -/
namespace L2
open PySem PySem.Spec PyProof.Rows
section
variable {X : Cx}
theorem hits_data {pins : List (Addr × Obj)} {σ : St} {H : Hp} {s : Shared} (I : Inv X pins σ H s) (hu : X.A.units + 66 < cLine) {kvs : List (Key × V)} {vb : List (Key × Value)} (rb : KV kvs vb) {ks : List (Key × V)} {va : List (Key × Value)} (ra : KV ks va) :
    (∀ p ∈ ks, ∃ v d, valV kvs p.1 = some v ∧ Dp X.K H p.2 d ∧ Dp X.K H v d ∧ SeqAt.shaped d = true ∧ d.canLay0 = true) → PySem.W.KeqHits X.A.in1 s vb va true := by
  unfold KV at ra
  induction ra with
  | nil => intro _; exact .nil
  | @cons p q ps qs h t ih =>
    intro hp
    obtain ⟨h1, h2⟩ := h
    obtain ⟨v0, d, e, g1, g2, sh, cl⟩ := hp p List.mem_cons_self
    have rr : RelO (some v0) (valueAt vb p.1) := by rw [← e]; exact rb.val p.1
    obtain ⟨y, hy, ry⟩ := rr.some_of
    obtain ⟨k, v⟩ := q
    have h1' : p.1 = k := h1
    rw [h1'] at hy
    show PySem.W.KeqHits X.A.in1 s vb ((k, v) :: qs) (true && true)
    obtain ⟨as, r1⟩ := Dp.reads I d p.2 v g1 h2
    obtain ⟨bs, r2⟩ := Dp.reads I d v0 y g2 ry
    have dep : d.depth ≤ 64 := by
      unfold SeqAt.shaped at sh
      rw [Bool.and_eq_true] at sh
      exact of_decide_eq_true sh.2
    have q := SeqAt.eqAt_reads d d X.A.in1 s v y as bs r1 r2 cl cl (by show X.A.units + 1 + min d.depth d.depth < cLine; omega)
    rw [SeqAt.eqv_refl d cl] at q
    exact .hit hy q (ih fun p' hm => hp p' (List.mem_cons_of_mem _ hm))
/-- two dicts with the same keys, and data that is alike -/
def AlikeD (K : PySem.W.Frag) (x y : V) (H : Hp) : Prop := ∃ a b ks ls, x = .ref a ∧ y = .ref b ∧ H a = some (.dK ks) ∧ H b = some (.dK ls) ∧ ks.length = ls.length ∧ ∀ p ∈ ks, ∃ v d, valV ls p.1 = some v ∧ Dp K H p.2 d ∧ Dp K H v d ∧ SeqAt.shaped d = true ∧ d.canLay0 = true
theorem op_neDD (hu : X.A.units + 66 < cLine) : OpR X (compareOp .NotEq) (fun x y H Q => AlikeD X.K x y H ∧ Q (.bl false) H) := by
  intro pins s σ H x y v u Q I rx ry h
  obtain ⟨⟨a, b, ks, ls, rfl, rfl, ea, eb, hlen, hp⟩, q⟩ := h
  obtain rfl : v = Value.ref a := rx
  obtain rfl : u = Value.ref b := ry
  obtain ⟨_, ya, va, ra, da⟩ := (show ObjOk X.prog X.w H s.heap a (.dK ks) from I.hok a _ ea)
  obtain ⟨_, yb, vb, rb, db⟩ := (show ObjOk X.prog X.w H s.heap b (.dK ls) from I.hok b _ eb)
  have hl : va.length = vb.length := by rw [← ra.length, ← rb.length]; exact hlen
  exact PySem.W.keq_ne (knd := mixKind X.prog X.w) (r := true) ya yb da db (by omega) (fun _ => hits_data I hu rb ra hp) (fin_bl I q (by simp [hl]))
/-- None and None, or dicts of flat things that are alike -/
def AlikeN (x y : V) (H : Hp) : Prop := (x = .non ∧ y = .non) ∨ ∃ a b ks ls, x = .ref a ∧ y = .ref b ∧ H a = some (.dK ks) ∧ H b = some (.dK ls) ∧ ks.length = ls.length ∧ ∀ p ∈ ks, valV ls p.1 = some p.2 ∧ flatB p.2 = true
theorem op_eqN (hu : X.A.units + 66 < cLine) : OpR X (compareOp .Eq) (fun x y H Q => AlikeN x y H ∧ Q (.bl true) H) := by
  intro pins s σ H x y v u Q I rx ry h
  obtain ⟨h, q⟩ := h
  rcases h with ⟨rfl, rfl⟩ | ⟨a, b, ks, ls, rfl, rfl, h1, h2, h3, h4⟩
  · exact op_eq pins s σ H _ _ v u Q I rx ry ⟨rfl, q⟩
  · exact op_eq_dictA (by omega) pins s σ H _ _ v u Q I rx ry ⟨a, b, ks, ls, rfl, rfl, h1, h2, h3, h4, q⟩
end
end L2
end T_V4

section T_A0
set_option Elab.async false
set_option linter.all false
set_option maxRecDepth 100000
set_option maxHeartbeats 8000000
namespace Rw
open PySem PySem.Spec L2 PyProof.Rows
/-! ### ascending -/
theorem rising_of : ∀ (r : List Str) (p : Str), (p :: r).Pairwise TLe → risingS p r = true
  | [], _, _ => rfl
  | x :: r, p, h => by
    obtain ⟨h1, h2⟩ := List.pairwise_cons.mp h
    show (!ltCps x.cps.toList p.cps.toList && risingS x r) = true
    rw [rising_of r x h2, Bool.and_true]
    have a : p.cps.toList ≤ x.cps.toList := h1 x List.mem_cons_self
    have e : ltCps x.cps.toList p.cps.toList = false := by
      rw [ltCps_eq]
      exact decide_eq_false (List.not_lt.mpr a)
    rw [e]
    rfl
theorem sorted_of {l : List Str} (h : l.Pairwise TLe) : sortedS l = true := by
  cases l with
  | nil => rfl
  | cons x r => exact rising_of r x h
theorem sorted_sub {l m : List Str} (h : sortedS m = true) (s : l.Sublist m) : sortedS l = true := sorted_of ((sorted_pair h).sublist s)
section
variable {dots ends : List Str} {o n : Str → List (Str × V)} {zs ys : List Str} {e : Str}
/-! ### the net turned about -/
theorem diff_turned (z : Str) : diffB ends n o z = diffB ends o n z := by
  unfold diffB
  refine List.map_congr_left fun e _ => ?_
  rw [show decide (look (n e) z = look (o e) z) = decide (look (o e) z = look (n e) z) from decide_eq_decide.mpr eq_comm]
theorem moving_turned : moving ends dots n o = moving ends dots o n := by
  unfold moving
  exact List.filter_congr fun z _ => by rw [diff_turned]
theorem still {z : Str} (hz : z ∈ dots) (h : z ∉ moving ends dots o n) (he : e ∈ ends) : look (o e) z = look (n e) z := by
  by_cases q : look (o e) z = look (n e) z
  · exact q
  · refine absurd (List.mem_filter.mpr ⟨hz, ?_⟩) h
    refine List.any_eq_true.mpr ⟨true, ?_, rfl⟩
    unfold diffB
    exact List.mem_map.mpr ⟨e, he, by rw [decide_eq_false q]; rfl⟩
def restOf (ends dots : List Str) (o n : Str → List (Str × V)) (zs ys : List Str) : List Str := (moving ends dots o n).filter fun z => !decide (z ∈ zs ++ ys)
theorem mem_rest {z : Str} : z ∈ restOf ends dots o n zs ys ↔ z ∈ moving ends dots o n ∧ z ∉ zs ∧ z ∉ ys := by
  unfold restOf
  rw [List.mem_filter, Bool.not_eq_true', decide_eq_false_iff_not, List.mem_append, not_or]
theorem spots_turned (hz : ∀ z ∈ zs, z ∈ moving ends dots o n) (dis : ∀ y ∈ ys, y ∉ zs) (he : e ∈ ends) {z : Str} (zd : z ∈ dots) : spotsOf (n e) (o e) (restOf ends dots o n zs ys) ys z = (spotsOf (o e) (n e) zs ys z).reverse := by
  unfold spotsOf
  by_cases m1 : z ∈ zs
  · have r : z ∉ restOf ends dots o n zs ys := fun h => (mem_rest.mp h).2.1 m1
    have y : z ∉ ys := fun h => dis z h m1
    rw [if_neg r, if_pos m1, decide_eq_false y, Bool.false_and, if_neg (by decide)]
    rfl
  · by_cases m2 : z ∈ ys
    · have r : z ∉ restOf ends dots o n zs ys := fun h => (mem_rest.mp h).2.2 m2
      rw [if_neg r, if_neg m1, decide_eq_true m2, Bool.true_and, Bool.true_and]
      by_cases q : look (o e) z = look (n e) z
      · rw [decide_eq_true q, decide_eq_true q.symm, if_neg (by decide), if_neg (by decide), q]
        rfl
      · rw [decide_eq_false q, decide_eq_false (fun t => q t.symm), if_pos (by decide), if_pos (by decide)]
        rfl
    · have R : (if z ∈ zs then [look (n e) z] else if (decide (z ∈ ys) && !decide (look (o e) z = look (n e) z)) = true then [look (o e) z, look (n e) z] else [look (o e) z]) = [look (o e) z] := by rw [if_neg m1, decide_eq_false m2, Bool.false_and, if_neg (by decide)]
      rw [R]
      by_cases m3 : z ∈ moving ends dots o n
      · rw [if_pos (mem_rest.mpr ⟨m3, m1, m2⟩)]
        rfl
      · rw [if_neg (fun h => m3 (mem_rest.mp h).1), decide_eq_false m2, Bool.false_and, if_neg (by decide), still zd m3 he]
        rfl
theorem spots_same (hz : ∀ z ∈ zs, z ∈ moving ends dots o n) (dis : ∀ y ∈ ys, y ∉ zs) (he : e ∈ ends) {z : Str} (zd : z ∈ dots) (v : V) : v ∈ spotsOf (n e) (o e) (restOf ends dots o n zs ys) ys z ↔ v ∈ spotsOf (o e) (n e) zs ys z := by
  rw [spots_turned hz dis he zd, List.mem_reverse]
end
section
variable {dots : List Str} {f f' : Str → List V}
theorem way_mono (h : ∀ z ∈ dots, ∀ y, V.str y ∈ f z → V.str y ∈ f' z) : ∀ (r : List Str) (x : Str), (∀ z ∈ x :: r, z ∈ dots) → Way f x r → Way f' x r
  | [], _, _, _ => trivial
  | y :: r, x, hd, hw => ⟨h x (hd x List.mem_cons_self) y hw.1, way_mono h r y (fun z hz => hd z (List.mem_cons_of_mem _ hz)) hw.2⟩
theorem isWay_mono (h : ∀ z ∈ dots, ∀ y, V.str y ∈ f z → V.str y ∈ f' z) {p : List Str} (hp : IsWay dots f p) : IsWay dots f' p := by
  cases p with
  | nil => exact hp
  | cons x r => exact ⟨way_mono h r x hp.2 hp.1, hp.2⟩
theorem isRing_mono (h : ∀ z ∈ dots, ∀ y, V.str y ∈ f z → V.str y ∈ f' z) {p : List Str} (hp : IsRing dots f p) : IsRing dots f' p := by
  obtain ⟨x, r, rfl⟩ := ring_cons hp
  exact ⟨isWay_mono h hp.1, h _ (hp.1.2 _ (last_in r x)) x hp.2⟩
theorem ring_same (h : ∀ z ∈ dots, ∀ v, v ∈ f z ↔ v ∈ f' z) {p : List Str} : IsRing dots f p ↔ IsRing dots f' p :=
  ⟨isRing_mono fun z hz y => (h z hz _).mp, isRing_mono fun z hz y => (h z hz _).mpr⟩
theorem bestIs_same (h : ∀ z ∈ dots, ∀ v, v ∈ f z ↔ v ∈ f' z) {q : Option (List Str)} (hq : BestIs dots f q) : BestIs dots f' q := by
  cases q with
  | none => exact fun p hp => hq p ((ring_same h).mpr hp)
  | some p => exact ⟨(ring_same h).mp hq.1, fun r hr => hq.2 r ((ring_same h).mpr hr)⟩
theorem isTop_set {g : Str → Int} {xs ys : List Str} {m : Int} (h : IsTop g xs m) (e : ∀ y, y ∈ xs ↔ y ∈ ys) : IsTop g ys m := by
  refine ⟨fun q => h.1 ?_, fun q => ?_, fun y hy => h.2.2 y ((e y).mpr hy)⟩
  · cases xs with
    | nil => rfl
    | cons a r =>
      have := (e a).mp List.mem_cons_self
      rw [q] at this
      cases this
  · have ne : xs ≠ [] := fun z => by
      cases ys with
      | nil => exact q rfl
      | cons a r =>
        have := (e a).mpr List.mem_cons_self
        rw [z] at this
        cases this
    obtain ⟨y, hy, em⟩ := h.2.1 ne
    exact ⟨y, (e y).mp hy, em⟩
theorem isTop_low {g : Str → Int} {xs : List Str} {m : Int} (h : IsTop g xs m) (h0 : ∀ y ∈ xs, 0 ≤ g y) : 0 ≤ m := by
  by_cases e : xs = []
  · rw [h.1 e]; exact Int.le_refl _
  · obtain ⟨y, hy, em⟩ := h.2.1 e
    have := h0 y hy
    omega
theorem nums_low {g : Str → Int} (N : Nums dots f dots g) : ∀ z ∈ dots, 0 ≤ g z := fun z hz => by
  have := N.top z hz
  by_cases e : behind dots f z = []
  · rw [this.1 e]; exact Int.le_refl _
  · by_cases q : 0 ≤ g z
    · exact q
    · exfalso
      -- numbers below fall for ever
      have go : ∀ (k : Nat) (x : Str), x ∈ dots → g x < 0 → ∃ y ∈ dots, g y < -(k : Int) := fun k => by
        induction k with
        | zero => intro x hx h; exact ⟨x, hx, by simpa using h⟩
        | succ k ih =>
          intro x hx h
          obtain ⟨y, hy, hg⟩ := ih x hx h
          have t := N.top y hy
          by_cases e' : behind dots f y = []
          · have := t.1 e'
            omega
          · obtain ⟨u, hu, em⟩ := t.2.1 e'
            exact ⟨u, (mem_behind.mp hu).2, by omega⟩
      have bound : ∃ B : Nat, ∀ x ∈ dots, -(B : Int) ≤ g x := by
        have gen : ∀ l : List Str, ∃ B : Nat, ∀ x ∈ l, -(B : Int) ≤ g x := fun l => by
          induction l with
          | nil => exact ⟨0, fun x hx => nomatch hx⟩
          | cons a r ih =>
            obtain ⟨B, hB⟩ := ih
            refine ⟨B + (g a).natAbs, fun x hx => ?_⟩
            rcases List.mem_cons.mp hx with rfl | hx
            · omega
            · have := hB x hx
              omega
        exact gen dots
      obtain ⟨B, hB⟩ := bound
      obtain ⟨y, hy, hg⟩ := go B z hz (by omega)
      have := hB y hy
      omega
theorem nums_same {g g' : Str → Int} (h : ∀ z ∈ dots, ∀ v, v ∈ f z ↔ v ∈ f' z) (N : Nums dots f dots g) (N' : Nums dots f' dots g') : ∀ z ∈ dots, g z = g' z := by
  have beh : ∀ z ∈ dots, ∀ y, y ∈ behind dots f z ↔ y ∈ behind dots f' z := fun z hz y => by rw [mem_behind, mem_behind, h z hz]
  have go : ∀ (k : Nat) (z : Str), z ∈ dots → (g z).toNat ≤ k → g z = g' z := fun k => by
    induction k with
    | zero =>
      intro z hz hk
      refine isTop_one (N.top z hz) (isTop_same (isTop_set (N'.top z hz) fun y => (beh z hz y).symm) fun y hy => ?_)
      have := (N.top z hz).2.2 y hy
      have := nums_low N y (mem_behind.mp hy).2
      omega
    | succ k ih =>
      intro z hz hk
      refine isTop_one (N.top z hz) (isTop_same (isTop_set (N'.top z hz) fun y => (beh z hz y).symm) fun y hy => ?_)
      have a := (N.top z hz).2.2 y hy
      have b := nums_low N y (mem_behind.mp hy).2
      exact ih y (mem_behind.mp hy).2 (by omega)
  exact fun z hz => go _ z hz (Nat.le_refl _)
/-- ranks of two mixtures with the same ways are alike -/
theorem ranks_alike {H0 H1 H : Hp} {v1 v2 : V} (h : ∀ z ∈ dots, ∀ v, v ∈ f z ↔ v ∈ f' z) (h1 : RanksAt dots f v1 H0 H1) (x : Evl.Ex H1 H) (h2 : RanksAt dots f' v2 H1 H) : AlikeN v1 v2 H := by
  rcases h1 with ⟨rfl, p, hp⟩ | ⟨a, g, rfl, _, ha, N⟩ <;> rcases h2 with ⟨rfl, p', hp'⟩ | ⟨b, g', rfl, _, hb, N'⟩
  · exact .inl ⟨rfl, rfl⟩
  · have hq := (ring_same h).mp hp
    obtain ⟨y, r, rfl⟩ := ring_cons hq
    exact (no_ring N' hq (hq.1.2 y List.mem_cons_self)).elim
  · have hq := (ring_same h).mpr hp'
    obtain ⟨y, r, rfl⟩ := ring_cons hq
    exact (no_ring N hq (hq.1.2 y List.mem_cons_self)).elim
  · refine .inr ⟨a, b, _, _, rfl, rfl, x _ _ ha, hb, by rw [tkv_len, tkv_len, numT_len, numT_len], fun p hp => ?_⟩
    unfold tkv numT at hp
    rw [List.map_map] at hp
    obtain ⟨z, hz, rfl⟩ := List.mem_map.mp hp
    refine ⟨?_, rfl⟩
    show valV (tkv (numT dots g')) (Sum.inr z) = some (.int (g z))
    rw [numT_get hz, nums_same h N N' z hz]
end
/-! ### parts of a round -/
section
variable {o n : List (Str × V)} {zs ys us vs ws : List Str} {z : Str} {v : V}
theorem spots_first (sub : ∀ y ∈ us, y ∈ ys) (h : v ∈ spotsOf o n zs us z) : v ∈ spotsOf o n zs ys z := by
  rcases mem_spots.mp h with ⟨a, b⟩ | ⟨a, b⟩
  · exact mem_spots.mpr (.inl ⟨a, b⟩)
  · exact mem_spots.mpr (.inr ⟨a.elim .inl fun t => .inr (sub z t), b⟩)
theorem spots_second (h1 : ∀ y, y ∈ ws ↔ y ∈ zs ∨ y ∈ us) (s1 : ∀ y ∈ us, y ∈ ys) (s2 : ∀ y ∈ vs, y ∈ ys) (h : v ∈ spotsOf o n ws vs z) : v ∈ spotsOf o n zs ys z := by
  rcases mem_spots.mp h with ⟨a, b⟩ | ⟨a, b⟩
  · exact mem_spots.mpr (.inl ⟨fun q => a ((h1 z).mpr (.inl q)), b⟩)
  · refine mem_spots.mpr (.inr ⟨?_, b⟩)
    rcases a with a | a
    · exact ((h1 z).mp a).elim .inl fun t => .inr (s1 z t)
    · exact .inr (s2 z a)
end
/-! ### other names -/
def nuV (nu : Str → Str) : V → V
  | .str z => .str (nu z)
  | v => v
/-- a place of these names -/
def In (S : List Str) (v : V) : Prop := v = .non ∨ ∃ y ∈ S, v = .str y
theorem nuV_inj {nu : Str → Str} {S : List Str} (inj : ∀ x ∈ S, ∀ y ∈ S, nu x = nu y → x = y) {u v : V} (hu : In S u) (hv : In S v) (e : nuV nu u = nuV nu v) : u = v := by
  rcases hu with rfl | ⟨x, hx, rfl⟩ <;> rcases hv with rfl | ⟨y, hy, rfl⟩
  · rfl
  · cases e
  · cases e
  · rw [inj x hx y hy (V.str.inj e)]
theorem nu_mem {nu : Str → Str} {S zs : List Str} (inj : ∀ x ∈ S, ∀ y ∈ S, nu x = nu y → x = y) (hz : ∀ z ∈ zs, z ∈ S) {y : Str} (hy : y ∈ S) : nu y ∈ zs.map nu ↔ y ∈ zs :=
  ⟨fun h => by obtain ⟨x, hx, e⟩ := List.mem_map.mp h; rw [← inj x (hz x hx) y hy e]; exact hx, List.mem_map_of_mem⟩
/-- the same mixture under other names -/
structure Twin (nu : Str → Str) (S dots : List Str) (f : Str → List V) (dots' : List Str) (f' : Str → List V) : Prop where
  inj : ∀ x ∈ S, ∀ y ∈ S, nu x = nu y → x = y
  sub : ∀ z ∈ dots, z ∈ S
  dd : dots'.Perm (dots.map nu)
  sp : ∀ z ∈ dots, ∀ v ∈ f z, In S v
  ff : ∀ z ∈ dots, f' (nu z) = (f z).map (nuV nu)
section
variable {nu : Str → Str} {S dots dots' : List Str} {f f' : Str → List V}
theorem Twin.mem (T : Twin nu S dots f dots' f') {z y : Str} (hz : z ∈ dots) (hy : y ∈ S) : V.str (nu y) ∈ f' (nu z) ↔ V.str y ∈ f z := by
  rw [T.ff z hz]
  refine ⟨fun h => ?_, fun h => List.mem_map.mpr ⟨_, h, rfl⟩⟩
  obtain ⟨v, hv, e⟩ := List.mem_map.mp h
  have := nuV_inj T.inj (T.sp z hz v hv) (.inr ⟨y, hy, rfl⟩) e
  rw [← this]
  exact hv
theorem Twin.mem_non (T : Twin nu S dots f dots' f') {z : Str} (hz : z ∈ dots) : V.non ∈ f' (nu z) ↔ V.non ∈ f z := by
  rw [T.ff z hz]
  refine ⟨fun h => ?_, fun h => List.mem_map.mpr ⟨_, h, rfl⟩⟩
  obtain ⟨v, hv, e⟩ := List.mem_map.mp h
  have := nuV_inj T.inj (T.sp z hz v hv) (.inl rfl) (by exact e)
  rw [← this]
  exact hv
theorem Twin.dot (T : Twin nu S dots f dots' f') {z : Str} (hz : z ∈ dots) : nu z ∈ dots' := T.dd.mem_iff.mpr (List.mem_map_of_mem hz)
theorem Twin.from (T : Twin nu S dots f dots' f') {y : Str} (hy : y ∈ dots') : ∃ z ∈ dots, nu z = y := List.mem_map.mp (T.dd.mem_iff.mp hy)
theorem nu_last : ∀ (r : List Str) (x : Str), lastS (nu x) (r.map nu) = nu (lastS x r)
  | [], _ => rfl
  | y :: r, _ => nu_last r y
theorem Twin.way (T : Twin nu S dots f dots' f') : ∀ (r : List Str) (x : Str), (∀ z ∈ x :: r, z ∈ dots) → (Way f' (nu x) (r.map nu) ↔ Way f x r)
  | [], _, _ => ⟨fun _ => trivial, fun _ => trivial⟩
  | y :: r, x, h => by
    show (V.str (nu y) ∈ f' (nu x) ∧ Way f' (nu y) (r.map nu)) ↔ (V.str y ∈ f x ∧ Way f y r)
    rw [T.mem (h x List.mem_cons_self) (T.sub y (h y (List.mem_cons_of_mem _ List.mem_cons_self))), T.way r y fun z hz => h z (List.mem_cons_of_mem _ hz)]
theorem Twin.isWay (T : Twin nu S dots f dots' f') {p : List Str} (h : ∀ z ∈ p, z ∈ dots) : IsWay dots' f' (p.map nu) ↔ IsWay dots f p := by
  cases p with
  | nil => exact Iff.rfl
  | cons x r =>
    show (Way f' (nu x) (r.map nu) ∧ ∀ z ∈ (x :: r).map nu, z ∈ dots') ↔ (Way f x r ∧ ∀ z ∈ x :: r, z ∈ dots)
    rw [T.way r x h]
    exact and_congr_right fun _ => ⟨fun _ => h, fun q y hy => by obtain ⟨z, hz, rfl⟩ := List.mem_map.mp hy; exact T.dot (q z hz)⟩
theorem Twin.back (T : Twin nu S dots f dots' f') : ∀ (p : List Str), (∀ z ∈ p, z ∈ dots') → ∃ q : List Str, p = q.map nu ∧ ∀ z ∈ q, z ∈ dots
  | [], _ => ⟨[], rfl, fun z hz => nomatch hz⟩
  | y :: p, h => by
    obtain ⟨z, hz, rfl⟩ := T.from (h y List.mem_cons_self)
    obtain ⟨q, rfl, hq⟩ := T.back p fun x hx => h x (List.mem_cons_of_mem _ hx)
    refine ⟨z :: q, rfl, fun x hx => ?_⟩
    rcases List.mem_cons.mp hx with rfl | hx
    · exact hz
    · exact hq x hx
theorem Twin.ring (T : Twin nu S dots f dots' f') {p : List Str} (h : ∀ z ∈ p, z ∈ dots) : IsRing dots' f' (p.map nu) ↔ IsRing dots f p := by
  cases p with
  | nil => exact ⟨fun q => q.1.elim, fun q => q.1.elim⟩
  | cons x r =>
    show (IsWay dots' f' ((x :: r).map nu) ∧ V.str (nu x) ∈ f' (lastS (nu x) (r.map nu))) ↔ (IsWay dots f (x :: r) ∧ V.str x ∈ f (lastS x r))
    rw [T.isWay h, nu_last, T.mem (h _ (last_in r x)) (T.sub x (h x List.mem_cons_self))]
theorem Twin.reach (T : Twin nu S dots f dots' f') {z : Str} (hz : z ∈ dots) (y : Str) : Reach dots' f' (nu z) y ↔ ∃ x, Reach dots f z x ∧ nu x = y := by
  constructor
  · rintro ⟨r, h1, h2⟩
    obtain ⟨q, rfl, hq⟩ := T.back r fun x hx => h1.2 x (List.mem_cons_of_mem _ hx)
    have all : ∀ x ∈ z :: q, x ∈ dots := fun x hx => (List.mem_cons.mp hx).elim (fun e => e ▸ hz) (hq x)
    rw [nu_last] at h2
    exact ⟨lastS z q, ⟨q, (T.isWay all).mp h1, rfl⟩, h2⟩
  · rintro ⟨x, ⟨r, h1, h2⟩, e⟩
    refine ⟨r.map nu, (T.isWay (p := z :: r) h1.2).mpr h1, ?_⟩
    rw [nu_last, h2, e]
/-- rings are there alike, the shortest of one length -/
theorem Twin.best (T : Twin nu S dots f dots' f') {q q' : Option (List Str)} (h : BestIs dots f q) (h' : BestIs dots' f' q') : q.map List.length = q'.map List.length := by
  have to : ∀ {p : List Str}, IsRing dots f p → IsRing dots' f' (p.map nu) := fun {p} hp => (T.ring (isWay_dots hp.1)).mpr hp
  have fro : ∀ {p : List Str}, IsRing dots' f' p → ∃ r, IsRing dots f r ∧ r.length = p.length := fun {p} hp => by
    obtain ⟨r, rfl, hr⟩ := T.back p (isWay_dots hp.1)
    exact ⟨r, (T.ring hr).mp hp, (List.length_map _).symm⟩
  cases q with
  | none =>
    cases q' with
    | none => rfl
    | some b => obtain ⟨r, hr, _⟩ := fro h'.1; exact absurd hr (h r)
  | some p =>
    cases q' with
    | none => exact absurd (to h.1) (h' _)
    | some b =>
      have l1 : ¬ p.length < b.length := fun l => by
        have := h'.2 _ (to h.1)
        rw [numRow_short (by rw [List.length_map]; exact l)] at this
        cases this
      have l2 : ¬ b.length < p.length := fun l => by
        obtain ⟨r, hr, e⟩ := fro h'.1
        have := h.2 r hr
        rw [numRow_short (by rw [e]; exact l)] at this
        cases this
      show some p.length = some b.length
      rw [show p.length = b.length by omega]
end
/-- walks under other names -/
theorem track_twin {nu : Str → Str} {S : List Str} {tb tb' : List (Str × V)} (inj : ∀ x ∈ S, ∀ y ∈ S, nu x = nu y → x = y) (sp : ∀ y ∈ S, ∀ v, valV (tkv tb) (Sum.inr y) = some v → In S v)
    (tt : ∀ y ∈ S, valV (tkv tb') (Sum.inr (nu y)) = (valV (tkv tb) (Sum.inr y)).map (nuV nu)) : ∀ (k : Nat) (zs : List Str) (v : V), (∀ z ∈ zs, z ∈ S) → In S v → track tb' k (zs.map nu) (nuV nu v) = (track tb k zs v).map (nuV nu) := by
  have base : ∀ (zs : List Str) (v : V), (zs.map nu).map V.str ++ [nuV nu v] = (zs.map V.str ++ [v]).map (nuV nu) := fun zs v => by
    rw [List.map_append, List.map_map, List.map_map]
    rfl
  intro k
  induction k with
  | zero => intro zs v _ _; exact base zs v
  | succ k ih =>
    intro zs v hz hv
    rcases hv with rfl | ⟨y, hy, rfl⟩
    · show track tb' (k + 1) (zs.map nu) .non = _
      rw [track_non, track_non]
      exact base zs .non
    · show track tb' (k + 1) (zs.map nu) (.str (nu y)) = _
      have t := tt y hy
      cases q : valV (tkv tb) (Sum.inr y) with
      | none =>
        rw [q] at t
        rw [track_out q, track_out (show valV (tkv tb') (Sum.inr (nu y)) = none from t)]
        exact base zs (.str y)
      | some u =>
        rw [q] at t
        by_cases m : y ∈ zs
        · rw [track_ring m, track_ring ((nu_mem inj hz hy).mpr m)]
          exact base zs (.str y)
        · rw [track_on q m, track_on (show valV (tkv tb') (Sum.inr (nu y)) = some (nuV nu u) from t) (fun h => m ((nu_mem inj hz hy).mp h)), show zs.map nu ++ [nu y] = (zs ++ [y]).map nu by rw [List.map_append]; rfl]
          refine ih (zs ++ [y]) u (fun z hz' => ?_) (sp y hy u q)
          rcases List.mem_append.mp hz' with h | h
          · exact hz z h
          · rw [List.mem_singleton.mp h]; exact hy
end Rw
end T_A0

section T_A1
set_option Elab.async false
set_option linter.all false
set_option maxRecDepth 100000
set_option maxHeartbeats 8000000
namespace Rw
open PySem PySem.Spec L2 PyProof.Rows
theorem nflds_turned (T N S P : Addr) : (nflds T N S P).lookup ("turned" : Str) = none := by kernel_rfl
/-! ### places as data -/
def spotD : V → PyData
  | .str z => .str z
  | _ => .none
theorem dp_spots {K : PySem.W.Frag} {H : Hp} : ∀ {vs : List V}, (∀ v ∈ vs, Spot v) → DpAll K H vs (vs.map spotD)
  | [], _ => .nil
  | v :: vs, h => by
    rcases h v List.mem_cons_self with rfl | ⟨y, rfl, _⟩
    · exact .cons .non (dp_spots fun u hu => h u (List.mem_cons_of_mem _ hu))
    · exact .cons (.str y) (dp_spots fun u hu => h u (List.mem_cons_of_mem _ hu))
theorem spots_lay : ∀ {vs : List V}, (∀ v ∈ vs, Spot v) → PyData.canLayAll0 (vs.map spotD) = true ∧ PyData.depthAll (vs.map spotD) = 0
  | [], _ => ⟨rfl, rfl⟩
  | v :: vs, h => by
    obtain ⟨g1, g2⟩ := spots_lay fun u hu => h u (List.mem_cons_of_mem _ hu)
    rcases h v List.mem_cons_self with rfl | ⟨y, rfl, hy⟩
    · refine ⟨?_, ?_⟩
      · show (true && PyData.canLayAll0 (vs.map spotD)) = true
        rw [g1]
        rfl
      · show max 0 (PyData.depthAll (vs.map spotD)) = 0
        rw [g2]
        rfl
    · refine ⟨?_, ?_⟩
      · show (PyData.strOk y && PyData.canLayAll0 (vs.map spotD)) = true
        rw [nm_ok hy, g1]
        rfl
      · show max 0 (PyData.depthAll (vs.map spotD)) = 0
        rw [g2]
        rfl
theorem spots_dataL {vs : List V} (h : ∀ v ∈ vs, Spot v) : (PyData.list (vs.map spotD)).canLay0 = true ∧ SeqAt.shaped (.list (vs.map spotD)) = true := by
  obtain ⟨g1, g2⟩ := spots_lay h
  refine ⟨g1, ?_⟩
  unfold SeqAt.shaped
  rw [show PyData.canLay0 (.list (vs.map spotD)) = PyData.canLayAll0 (vs.map spotD) from rfl, g1, show PyData.depth (.list (vs.map spotD)) = PyData.depthAll (vs.map spotD) + 1 from rfl, g2]
  rfl
/-- a mixture's dict and another one, with lists that are alike -/
theorem mix_alike {K : PySem.W.Frag} {H0 H : Hp} {D D2 : Addr} {dots : List Str} {f : Str → List V} {rs2 : List (Str × V)} (sp : ∀ z ∈ dots, ∀ v ∈ f z, Spot v) (M : MixAt H0 H D dots f) (h2 : H D2 = some (.dK (tkv rs2))) (k2 : rs2.map (·.1) = dots) (dn : dots.Nodup)
    (l2 : ∀ q ∈ rs2, ∃ a : Addr, q.2 = .ref a ∧ H a = some (.lst (f q.1))) : AlikeD K (.ref D) (.ref D2) H := by
  obtain ⟨rs, r1, r2, r3⟩ := M.ex
  refine ⟨D, D2, _, _, rfl, rfl, r1, h2, ?_, fun p hp => ?_⟩
  · rw [tkv_len, tkv_len, ← List.length_map (f := (·.1)), r2, ← k2, List.length_map]
  · unfold tkv at hp
    obtain ⟨q, hq, rfl⟩ := List.mem_map.mp hp
    obtain ⟨a, ea, _, ha⟩ := r3 q hq
    have zd : q.1 ∈ dots := by rw [← r2]; exact List.mem_map_of_mem hq
    obtain ⟨v, hv, hm⟩ := tkv_some (tb := rs2) (z := q.1) (by rw [k2]; exact zd)
    obtain ⟨b, eb, hb⟩ := l2 _ hm
    have eb' : v = .ref b := eb
    subst eb'
    obtain ⟨g1, g2⟩ := spots_dataL (sp q.1 zd)
    refine ⟨.ref b, .list ((f q.1).map spotD), hv, ?_, .lst (Evl.sq_of hb) (dp_spots (sp q.1 zd)), g2, g1⟩
    show Dp K H q.2 _
    rw [ea]
    exact .lst (Evl.sq_of ha) (dp_spots (sp q.1 zd))
theorem MixAt.to {H0 H H' : Hp} {D : Addr} {dots : List Str} {f : Str → List V} (M : MixAt H0 H D dots f) (x : Evl.Ex H H') : MixAt H0 H' D dots f := by
  obtain ⟨rs, r1, r2, r3⟩ := M.ex
  exact ⟨rs, x _ _ r1, r2, fun q hq => let ⟨l, l1, l2, l3⟩ := r3 q hq; ⟨l, l1, l2, x _ _ l3⟩⟩
theorem MixAt.same {H0 H : Hp} {D : Addr} {dots : List Str} {f f' : Str → List V} (M : MixAt H0 H D dots f) (h : ∀ z ∈ dots, f z = f' z) : MixAt H0 H D dots f' := by
  obtain ⟨rs, r1, r2, r3⟩ := M.ex
  refine ⟨rs, r1, r2, fun q hq => ?_⟩
  obtain ⟨l, l1, l2, l3⟩ := r3 q hq
  exact ⟨l, l1, l2, by rw [← h q.1 (by rw [← r2]; exact List.mem_map_of_mem hq)]; exact l3⟩
theorem RingIs.due {dots : List Str} {f : Str → List V} {v : V} {H : Hp} (h : RingIs dots f v H) : ∃ q, BestIs dots f q ∧ DueV q v H := by
  obtain ⟨q, h1, h2⟩ := h.v
  exact ⟨q, h1, h2⟩
section
variable {P : Program} {w : World} {K : PySem.W.Frag} {mg : Str → Option Value} {base : Heap}
/-- of some nodes those that are in no lot: a lot -/
theorem rest_lot {ends dots ss ps : List Str} {o n : Str → List (Str × V)} {zs ys : List Str} {H : Hp} {a : Addr} (ok : ModelOk ends dots ss ps) (ha : H a = some (.tup ((restOf ends dots o n zs ys).map V.str))) : LotAt H a (restOf ends dots o n zs ys) (moving ends dots n o) := by
  have sub : ∀ z ∈ restOf ends dots o n zs ys, z ∈ moving ends dots o n := fun z hz => (mem_rest.mp hz).1
  have sl : (restOf ends dots o n zs ys).Sublist dots := by
    unfold restOf moving
    exact List.filter_sublist.trans List.filter_sublist
  have d6 := ok.d6
  exact ⟨ha, fun z hz => by rw [moving_turned]; exact sub z hz, ok.dn.sublist sl, sorted_sub ok.ds sl, fun z hz => ok.dm z (sl.subset hz), by have := sl.length_le; omega⟩
def spTurnedRight (C : Addr) : Sp := fun vs H Q _ => ∃ (m tb db sb pb nt ra rb : Addr) (e : Str) (zs ys ends dots ss ps : List Str) (rows : List (Str × V)) (o n : Str → List (Str × V)), vs = [.ref m, .ref nt, .ref ra, .ref rb, .str e] ∧ ModelAt H m tb db sb pb ends dots ss ps rows ∧ RowsAt H ends dots rows o n ∧
  NetAt C H nt ends dots ss ps o n ∧ e ∈ ends ∧ LotAt H ra zs (moving ends dots o n) ∧ LotAt H rb ys (moving ends dots o n) ∧ (∀ y ∈ ys, y ∉ zs) ∧ ∀ H', Evl.Ex H H' → Q (.bl true) H'
abbrev nTR : List Str := ["model", "made", "ready", "part", "end", "rest", "here", "there", "dot"]
theorem sc_tr : FnScope nTR ["model", "made", "ready", "part", "end"] (defScope s_turned_right) := ⟨rfl, rfl, rfl, by decide +kernel, rfl, by decide +kernel, by decide +kernel⟩
theorem ok_turned_right {f C ft : Addr} {fd fdt : FuncData} (F : Fun K "_law_turned_right" "_law_turned_right" s_turned_right f fd) (T : NetTxt K C) (CV : Cal P w K mg base 1 "_law_moving_dots" ["model"] spMoves) (CW : Cal P w K mg base 6 "ways" ["net", "done", "lot", "goal"] (spMix C))
    (CG : Cal P w K mg base 7 "ring" ["net", "done", "lot", "goal"] (spRing C)) (CK : Cal P w K mg base 7 "ranks" ["net", "done", "lot", "goal"] (spRanks C)) (M : Meth K C "turned" ft) (TT : FnOk P w K mg base CX0 6 ft fdt ["self"] (spTurned C)) (bt : Binds K fdt ["self"] [])
    (mTup : mg "tuple" = none) (mDict : mg "dict" = none) : FnOk P w K mg base CX0 8 f fd ["model", "made", "ready", "part", "end"] (spTurnedRight C) := by
  obtain ⟨fV, fdV, MV, kV', bV, gV⟩ := CV.ex
  obtain ⟨fW, fdW, WY, kW, bW, gW⟩ := CW.ex
  obtain ⟨fG, fdG, RG, kG, bG, gG⟩ := CG.ex
  obtain ⟨fK, fdK, RK, kK, bK, gK⟩ := CK.ex
  refine F.ok sc_tr (fun vs H Q E h => ?_) (fun cdv A outer s H vs Q E hr h => ?_)
  · obtain ⟨m, tb, db, sb, pb, nt, ra, rb, e, zs, ys, ends, dots, ss, ps, rows, o, n, rfl, _⟩ := h
    rfl
  · obtain ⟨m, tb, db, sb, pb, nt, ra, rb, e, zs, ys, ends, dots, ss, ps, rows, o, n, rfl, MA, ro, N, he, La, Lb, dis, k⟩ := h
    have nd := sc_tr.nd
    have hu := hu_of hr
    have hr1 : Room 1 _ := hr.mono (by decide)
    have hr6 : Room 6 _ := hr.mono (by decide)
    have un70 := hr.un
    have hu66 : (A.deeper (envOfC "_law_turned_right" (defScope s_turned_right) s.heap.objs.size f cdv)).units + 66 < cLine := by omega
    refine ⟨_, pss_cons (ps_set (i := 5) nd rfl (.inl rfl) (pe_callTy call_tuple_of (by rfl) mTup (by decide +kernel) (pa_cons
        (pe_lc (own := [("dot", 8)]) (g := gName 8) (tt := tTest (tOp (rIn K true) (tVar 8) (tOp rCatU (tVar 2) (tVar 3)))) (te := tVar 8) rfl nd (pi_list (pe_call MV hr1 rfl gV kV' bV .nil pass0 (pa_cons (pv 0) pa_nil))) (blkOk_by (own := [("dot", 8)]) (N := nTR) (sc := defScope s_turned_right) (by decide +kernel))
          (fun _ _ _ _ _ => pg_name (i := 8) nd rfl (Or.inl rfl)) (fun _ _ _ _ _ => pts_one (pt_cmpR op_notIn_seq (pv 8) (pe_op op_catU (pv 2) (pv 3)) rfl)) (fun _ _ _ _ _ => pv 8)) pa_nil)))
      (pss_cons (ps_asg (pe_tup (pa_cons (pe_call WY hr6 rfl gW kW bW .nil pass0 (pa_cons (pv 1) (pa_cons (pv 2) (pa_cons (pv 3) (pa_cons (pv 4) pa_nil))))) (pa_cons (pe_call WY hr6 rfl gW kW bW .nil pass0 (pa_cons (pe_meth0 (pv 1) T.cl M TT hr6 bt .nil pass0) (pa_cons (pv 5) (pa_cons (pv 3) (pa_cons (pv 4) pa_nil))))) pa_nil)))
          (pg_tup rfl (pgs_cons (pg_name (i := 6) nd rfl (.inr rfl)) (pgs_cons (pg_name (i := 7) nd rfl (.inl rfl)) pgs_nil))))
      (pss_cons (ps_if (pt_cmpR (op_neDD hu66) (pv 7) (pe_callTy (call_dictP rfl) (by rfl) mDict (by decide +kernel) (pa_cons (pe_lock (pe_lc (own := [("dot", 8)]) (g := gName 8) (tt := tYes) (te := tTup (tCons (tVar 8) (tCons (tRevL K (tDGet (tVar 6) (tVar 8))) tNil))) rfl nd (pi_keys (pv 6)) (blkOk_by (own := [("dot", 8)]) (N := nTR) (sc := defScope s_turned_right) (by decide +kernel))
          (fun _ _ _ _ _ => pg_name (i := 8) nd rfl (Or.inl rfl)) (fun _ _ _ _ _ => pts_nil) (fun _ _ _ _ _ => pe_tup (pa_cons (pv 8) (pa_cons (pe_revL (pe_dget hu (pv 6) (pv 8) (fun _ _ => rfl))) pa_nil))))) pa_nil)) (nomark _)) (pss_one (ps_ret pe_bl)) pss_nil)
      (pss_cons (ps_if (pt_cmpR (op_neD hr.units) (pe_call RG hr rfl gG kG bG .nil pass0 (pa_cons (pe_meth0 (pv 1) T.cl M TT hr6 bt .nil pass0) (pa_cons (pv 5) (pa_cons (pv 3) (pa_cons (pv 4) pa_nil))))) (pe_call RG hr rfl gG kG bG .nil pass0 (pa_cons (pv 1) (pa_cons (pv 2) (pa_cons (pv 3) (pa_cons (pv 4) pa_nil))))) (nomark _)) (pss_one (ps_ret pe_bl)) pss_nil)
      (pss_one (ps_ret (pe_cmpR (op_eqN hu66) (pe_call RK hr rfl gK kK bK .nil pass0 (pa_cons (pe_meth0 (pv 1) T.cl M TT hr6 bt .nil pass0) (pa_cons (pv 5) (pa_cons (pv 3) (pa_cons (pv 4) pa_nil))))) (pe_call RK hr rfl gK kK bK .nil pass0 (pa_cons (pv 1) (pa_cons (pv 2) (pa_cons (pv 3) (pa_cons (pv 4) pa_nil))))) (nomark _))))))), ?_⟩
    have ok := MA.ok
    have d6 := ok.d6
    have e2 := ok.e2
    have za := La.few
    have yb := Lb.few
    obtain ⟨pr, po, pn, hv, pa⟩ := ro e he
    have W : Webs dots (spotsOf (o e) (n e) zs ys) := webs_of ok he pa.o1 pa.o2
    have W' : Webs dots (spotsOf (n e) (o e) (restOf ends dots o n zs ys) ys) := webs_of ok he pa.o2 pa.o1
    have same : ∀ z ∈ dots, ∀ v, v ∈ spotsOf (n e) (o e) (restOf ends dots o n zs ys) ys z ↔ v ∈ spotsOf (o e) (n e) zs ys z := fun z hz v => spots_same La.sub dis he hz v
    -- rest
    refine ⟨.ref m, rfl, m, tb, db, sb, pb, ends, dots, ss, ps, rows, o, n, rfl, MA, ro, fun p H1 x1 hp hp1 => ?_⟩
    refine ⟨p, rfl, ⟨_, Evl.sq_of hp1⟩, fun S hS => lc_list (K := K) (a := p) (xs := (moving ends dots o n).map V.str)
      (fun i H' => Evl.Ex H1 H' ∧ H' S = some (.lst ((((moving ends dots o n).take i).filter fun z => !decide (z ∈ zs ++ ys)).map V.str))) ⟨Evl.Ex.new hS, upd_same⟩ (fun i H' _ h => Evl.sq_of (h.1 _ _ hp1)) ?_ ?_⟩
    · rintro i v H2 hi ⟨x2, s2⟩
      obtain ⟨z, hz, rfl⟩ := str_at hi
      have hil := (List.getElem?_eq_some_iff.mp hz).1
      have ml : (moving ends dots o n).length ≤ 6 := Nat.le_trans (List.length_filter_le _ _) d6
      have et : ((moving ends dots o n).take (i + 1)).filter (fun z => !decide (z ∈ zs ++ ys)) = ((moving ends dots o n).take i).filter (fun z => !decide (z ∈ zs ++ ys)) ++ if (!decide (z ∈ zs ++ ys)) = true then [z] else [] := by
        rw [List.take_add_one, hz, List.filter_append]
        show _ ++ List.filter _ [z] = _
        rw [List.filter_cons]
        rfl
      refine ⟨rfl, ?_⟩
      have x12 := x1.trans x2
      refine ⟨.str z, rfl, .ref ra, rfl, .ref rb, rfl, ra, rb, zs.map V.str, ys.map V.str, rfl, rfl, x12 _ _ La.ha, x12 _ _ Lb.ha, by rw [List.length_map, List.length_map]; exact Nat.le_of_lt (small1000 (by omega)), fun q H3 x3 hq => ?_⟩
      rw [← List.map_append] at hq
      refine ⟨q, _, rfl, .inr (Evl.st_of hq), rfl, flat_strs _, _, rfl, ?_⟩
      show if (!inV (.str z) ((zs ++ ys).map V.str)) = true then _ else _
      rw [inV_str]
      by_cases kp : (!decide (z ∈ zs ++ ys)) = true
      · rw [if_pos kp] at et
        rw [kp]
        refine iteT ⟨.str z, rfl, _, x3 _ _ s2, ?_, (x2.trans x3).mut hS, ?_⟩
        · rw [List.length_map]
          refine small1000 (Nat.le_trans (List.length_filter_le _ _) ?_)
          rw [List.length_take]
          omega
        · rw [upd_same, et, List.map_append]
          rfl
      · have kp' : (!decide (z ∈ zs ++ ys)) = false := by
          cases q : (!decide (z ∈ zs ++ ys)) with
          | true => exact absurd q kp
          | false => rfl
        rw [if_neg kp, List.append_nil] at et
        rw [kp']
        refine iteF ⟨x2.trans x3, ?_⟩
        rw [et]
        exact x3 _ _ s2
    rintro H2 ⟨x2, s2⟩
    rw [List.length_map, List.take_length] at s2
    have s2' : H2 S = some (.lst ((restOf ends dots o n zs ys).map V.str)) := s2
    refine ⟨S, _, rfl, .inl ⟨Evl.sq_of s2', fun rt hrt => ?_⟩⟩
    have y3 : Evl.Ex H2 (upd H2 rt (.tup ((restOf ends dots o n zs ys).map V.str))) := Evl.Ex.new hrt
    have r3 : (upd H2 rt (.tup ((restOf ends dots o n zs ys).map V.str))) rt = some (.tup ((restOf ends dots o n zs ys).map V.str)) := upd_same
    generalize upd H2 rt (.tup ((restOf ends dots o n zs ys).map V.str)) = H3 at y3 r3
    have x3 := (x1.trans x2).trans y3
    have Lr := rest_lot ok r3
    have mt : moving ends dots n o = moving ends dots o n := moving_turned
    have dis' : ∀ y ∈ ys, y ∉ restOf ends dots o n zs ys := fun y hy h => (mem_rest.mp h).2.2 hy
    -- made.turned(), wherever it is asked
    have turned : ∀ {Hx : Hp} {R : V → Hp → Prop}, Evl.Ex H3 Hx → (∀ tn Hy, Evl.Ex Hx Hy → NetAt C Hy tn ends dots ss ps n o → LotAt Hy rt (restOf ends dots o n zs ys) (moving ends dots n o) → LotAt Hy rb ys (moving ends dots n o) → R (.ref tn) Hy) → spTurned C [.ref nt] Hx R E0 := by
      intro Hx R x go
      refine ⟨nt, ends, dots, ss, ps, o, n, rfl, N.to (x3.trans x), ok, fun tn Hy y _ NN => go tn Hy y NN (Lr.ex (x.trans y)) ?_⟩
      rw [mt]
      exact Lb.ex ((x3.trans x).trans y)
    have isI : ∀ {Hx : Hp}, Evl.Ex H3 Hx → ∃ dx fs, Hx nt = some (.ins C dx fs) ∧ fs.lookup ("turned" : Str) = none := fun {Hx} x => by
      obtain ⟨dx, T', N', S', Po, rows0, h1, _⟩ := (N.to (x3.trans x)).ex
      exact ⟨dx, _, h1, nflds_turned _ _ _ _⟩
    -- here
    refine ⟨.ref nt, rfl, .ref ra, rfl, .ref rb, rfl, .str e, rfl, nt, ra, rb, e, zs, ys, ends, dots, ss, ps, o, n, rfl, N.to x3, ok, he, La.ex x3, Lb.ex x3, dis, fun D H4 x4 hD MH => ?_⟩
    obtain ⟨dx4, fs4, i4, j4⟩ := isI x4
    refine ⟨.ref nt, rfl, nt, dx4, _, rfl, i4, j4, ?_⟩
    unfold tNil
    refine turned x4 fun tn H5 x5 NT L1 L2 => ?_
    refine ⟨.ref rt, rfl, .ref rb, rfl, .str e, rfl, tn, rt, rb, e, restOf ends dots o n zs ys, ys, ends, dots, ss, ps, n, o, rfl, NT, ok, he, L1, L2, dis', fun D' H6 x6 hD' MT => ⟨by show 2 ≤ sizeLine; decide, fun tp htp => ⟨tp, _, rfl, Evl.st_of upd_same, rfl, _, _, rfl, _, [], rfl, rfl, ?_⟩⟩⟩
    have y7 : Evl.Ex H6 (upd H6 tp (.tup [.ref D, .ref D'])) := Evl.Ex.new htp
    generalize upd H6 tp (.tup [.ref D, .ref D']) = H7 at y7
    have MH7 := MH.to ((x5.trans x6).trans y7)
    have MT7 := MT.to y7
    have x37 := (x4.trans x5).trans (x6.trans y7)
    -- there != dict([(dot, here[dot][::-1]) for dot in here])
    obtain ⟨rs, r1, r2, rr⟩ := MH7.ex
    have rl : rs.length = dots.length := by rw [← r2, List.length_map]
    refine ⟨.ref D', rfl, D, .dK (tkv rs), r1, trivial, fun od => ?_⟩
    have lockB : (upd H7 D (.frz od (.dK (tkv rs)))) D = some (.frz od (.dK (tkv rs))) := upd_same
    have back : ∀ {H4 : Hp}, Evl.Ex (upd H7 D (.frz od (.dK (tkv rs)))) H4 → Evl.Ex H7 (upd H4 D (.dK (tkv rs))) := fun {H4} x b u h => by
      by_cases q : b = D
      · subst q
        rw [upd_same, ← r1, h]
      · rw [upd_ne q]
        exact x _ _ (by rw [upd_ne q]; exact h)
    have lstB : ∀ {a : Addr} {vs : List V}, H7 a = some (.lst vs) → (upd H7 D (.frz od (.dK (tkv rs)))) a = some (.lst vs) := fun {a vs} h => by rw [upd_ne (ne_of h r1 (by intro z; cases z))]; exact h
    generalize upd H7 D (.frz od (.dK (tkv rs))) = HB at lockB back lstB
    refine ⟨.ref D, rfl, D, od, rfl, .inl ⟨tkv rs, lockB, fun Dl hDl => lc_it walk_keys
      (fun j H' => Evl.Ex HB H' ∧ ∃ (qs : List Addr) (rs2 : List (Str × V)), qs.length = j ∧ H' Dl = some (.lst (qs.map V.ref)) ∧ rs2.map (·.1) = dots.take j ∧ Paired (fun p kv => H' p = some (.tup [kV kv.1, kv.2])) qs (tkv rs2) ∧ ∀ q ∈ rs2, ∃ a : Addr, q.2 = .ref a ∧ H' a = some (.lst (spotsOf (o e) (n e) zs ys q.1).reverse) ∧ a ≠ Dl)
      ⟨Evl.Ex.new hDl, [], [], rfl, upd_same, rfl, .nil, fun q hq => nomatch hq⟩ (fun j H' _ h => h.1 _ _ lockB) ?_ ?_⟩⟩
    · rintro j x H8 H8' hj ⟨x8, qs, rs2, ql, d8, k8, p8, a8⟩ ⟨rfl, kk, v, hkv, rfl⟩
      rw [tkv_len, rl] at hj
      obtain ⟨z, hz, rfl⟩ := key_at r2 hkv
      have zd := List.mem_of_getElem? hz
      have vz : ∃ a : Addr, v = .ref a ∧ H7 a = some (.lst (spotsOf (o e) (n e) zs ys z)) := by
        have hm : (z, v) ∈ rs := by
          unfold tkv at hkv
          rw [List.getElem?_map] at hkv
          cases q : rs[j]? with
          | none => rw [q] at hkv; cases hkv
          | some q' =>
            rw [q] at hkv
            have e1 := Option.some.inj hkv
            have e2 : q'.1 = z := Sum.inr.inj (congrArg Prod.fst e1)
            have e3 : q'.2 = v := congrArg Prod.snd e1
            rw [← e2, ← e3]
            exact List.mem_of_getElem? q
        obtain ⟨a, ea, _, ha⟩ := rr _ hm
        exact ⟨a, ea, ha⟩
      obtain ⟨az, rfl, haz⟩ := vz
      have gz : valV (tkv rs) (Sum.inr z) = some (.ref az) := by
        refine tkv_val (by rw [r2]; exact ok.dn) ?_
        unfold tkv at hkv
        rw [List.getElem?_map] at hkv
        cases q : rs[j]? with
        | none => rw [q] at hkv; cases hkv
        | some q' =>
          rw [q] at hkv
          have e1 := Option.some.inj hkv
          have e2 : q'.1 = z := Sum.inr.inj (congrArg Prod.fst e1)
          have e3 : q'.2 = .ref az := congrArg Prod.snd e1
          rw [← e2, ← e3]
          exact List.mem_of_getElem? q
      have et : dots.take (j + 1) = dots.take j ++ [z] := by rw [List.take_add_one, hz]; rfl
      refine ⟨rfl, ?_⟩
      refine yes_if ?_
      refine ⟨.str z, rfl, .ref D, rfl, .str z, rfl, D, .ref az, rfl, dget_rd (k := Sum.inr z) (.inr ⟨od, x8 _ _ lockB⟩) gz, az, _, rfl, Evl.sq_of (x8 _ _ (lstB haz)), fun rv hrv => ?_⟩
      have y9 : Evl.Ex H8' (upd H8' rv (.lst (spotsOf (o e) (n e) zs ys z).reverse)) := Evl.Ex.new hrv
      have v9 : (upd H8' rv (.lst (spotsOf (o e) (n e) zs ys z).reverse)) rv = some (.lst (spotsOf (o e) (n e) zs ys z).reverse) := upd_same
      generalize upd H8' rv (.lst (spotsOf (o e) (n e) zs ys z).reverse) = H9 at y9 v9
      refine ⟨by show 2 ≤ sizeLine; decide, fun t ht => ?_⟩
      have yA : Evl.Ex H9 (upd H9 t (.tup [.str z, .ref rv])) := Evl.Ex.new ht
      have d9 := y9 _ _ d8
      have htD : t ≠ Dl := (ne_of_none d9 ht).symm
      have nrv : rv ≠ Dl := (ne_of_none d8 hrv).symm
      have x8A := x8.trans (y9.trans yA)
      refine ⟨_, yA _ _ d9, by rw [List.length_map]; exact small1000 (by omega), x8A.mut hDl, qs ++ [t], rs2 ++ [(z, .ref rv)], by rw [List.length_append, ql]; rfl, by rw [upd_same, List.map_append]; rfl, by rw [List.map_append, k8, et]; rfl, ?_, fun q hq => ?_⟩
      · unfold tkv
        rw [List.map_append]
        refine Paired.snoc (Paired.mapP p8 fun p kv hp => ?_) ?_
        · rw [upd_ne (ne_of hp d8 (by intro z; cases z))]
          exact yA _ _ (y9 _ _ hp)
        · rw [upd_ne htD, upd_same]
          rfl
      · rcases List.mem_append.mp hq with hq | hq
        · obtain ⟨a, ea, ha, na⟩ := a8 q hq
          exact ⟨a, ea, by rw [upd_ne na]; exact yA _ _ (y9 _ _ ha), na⟩
        · rw [List.mem_singleton.mp hq]
          exact ⟨rv, rfl, by rw [upd_ne nrv]; exact yA _ _ v9, nrv⟩
    rintro H8 ⟨x8, qs, rs2, ql, d8, k8, p8, a8⟩
    rw [tkv_len, rl, List.take_length] at k8
    refine ⟨x8 _ _ lockB, ?_⟩
    have l8 := x8 _ _ lockB
    have ke : ∀ {a : Addr} {u : HO}, H8 a = some u → (∀ w1 w2, u ≠ .frz w1 w2) → (upd H8 D (.dK (tkv rs))) a = some u := fun {a u} h ne => by
      rw [upd_ne (fun q => by
        rw [q, l8] at h
        exact ne _ _ (Option.some.inj h).symm)]
      exact h
    have y8 := back x8
    have d9 := ke d8 (by intro w1 w2 z; cases z)
    have p9 : Paired (fun p kv => (upd H8 D (.dK (tkv rs))) p = some (.tup [kV kv.1, kv.2])) qs (tkv rs2) := Paired.mapP p8 fun p kv hp => ke hp (by intro w1 w2 z; cases z)
    have a9 : ∀ q ∈ rs2, ∃ a : Addr, q.2 = .ref a ∧ (upd H8 D (.dK (tkv rs))) a = some (.lst (spotsOf (o e) (n e) zs ys q.1).reverse) := fun q hq => by
      obtain ⟨a, ea, ha, _⟩ := a8 q hq
      exact ⟨a, ea, ke ha (by intro w1 w2 z; cases z)⟩
    generalize upd H8 D (.dK (tkv rs)) = H9 at y8 d9 p9 a9
    refine ⟨Dl, qs, tkv rs2, rfl, Evl.sq_of d9, Paired.mapP p9 (fun p kv hp => Evl.st_of hp), fun D2 hD2 => ?_⟩
    rw [merge_tkv (by rw [k8]; exact ok.dn)]
    have yA : Evl.Ex H9 (upd H9 D2 (.dK (tkv rs2))) := Evl.Ex.new hD2
    have dA : (upd H9 D2 (.dK (tkv rs2))) D2 = some (.dK (tkv rs2)) := upd_same
    generalize upd H9 D2 (.dK (tkv rs2)) = HA at yA dA
    have MTA := ((MT7.to (y8.trans yA)).same (fun z hz => spots_turned La.sub dis he hz))
    refine ⟨mix_alike (fun z hz v hv' => W.sp z hz v (List.mem_reverse.mp hv')) MTA dA k8 ok.dn fun q hq => ?_, _, rfl, ?_⟩
    · obtain ⟨a, ea, ha⟩ := a9 q hq
      exact ⟨a, ea, yA _ _ ha⟩
    refine iteF ?_
    have x3A := x37.trans (y8.trans yA)
    -- ring(..) != ring(..)
    obtain ⟨dxA, fsA, iA, jA⟩ := isI x3A
    refine ⟨.ref nt, rfl, nt, dxA, _, rfl, iA, jA, turned x3A fun tn2 HB' xB NT2 L3 L4 => ?_⟩
    refine ⟨.ref rt, rfl, .ref rb, rfl, .str e, rfl, tn2, rt, rb, e, restOf ends dots o n zs ys, ys, ends, dots, ss, ps, n, o, rfl, NT2, ok, he, pa.o2, pa.o1, L3, L4, dis', fun v1 HC xC hr1' => ?_⟩
    have x3C := x3A.trans (xB.trans xC)
    refine ⟨.ref nt, rfl, .ref ra, rfl, .ref rb, rfl, .str e, rfl, nt, ra, rb, e, zs, ys, ends, dots, ss, ps, o, n, rfl, N.to (x3.trans x3C), ok, he, pa.o1, pa.o2, La.ex (x3.trans x3C), Lb.ex (x3.trans x3C), dis, fun v2 HD xD hr2' => ?_⟩
    obtain ⟨q1, b1, u1⟩ := hr1'.due
    obtain ⟨q2, b2, u2⟩ := hr2'.due
    have eq := bestIs_uniq (bestIs_same same b1) b2
    subst eq
    have nmq : ∀ p, q1 = some p → ∀ z ∈ p, Nm z := fun p ep z hz => by
      subst ep
      exact ok.dm z (isWay_dots b1.1.1 z hz)
    obtain ⟨g1, g2, g3⟩ := dueV_data nmq
    refine ⟨ringD q1, ringD q1, g1 (u1.to xD), g1 u2, g2, g2, _, rfl, ?_⟩
    rw [g3]
    refine iteF ?_
    have x3D := x3C.trans xD
    -- ranks(..) == ranks(..)
    obtain ⟨dxD, fsD, iD, jD⟩ := isI x3D
    refine ⟨.ref nt, rfl, nt, dxD, _, rfl, iD, jD, turned x3D fun tn3 HE xE NT3 L5 L6 => ?_⟩
    refine ⟨.ref rt, rfl, .ref rb, rfl, .str e, rfl, tn3, rt, rb, e, restOf ends dots o n zs ys, ys, ends, dots, ss, ps, n, o, rfl, NT3, ok, he, pa.o2, pa.o1, L5, L6, dis', fun w1 HF xF k1 => ?_⟩
    have x3F := x3D.trans (xE.trans xF)
    refine ⟨.ref nt, rfl, .ref ra, rfl, .ref rb, rfl, .str e, rfl, nt, ra, rb, e, zs, ys, ends, dots, ss, ps, o, n, rfl, N.to (x3.trans x3F), ok, he, pa.o1, pa.o2, La.ex (x3.trans x3F), Lb.ex (x3.trans x3F), dis, fun w2 HG xG k2 => ?_⟩
    exact ⟨ranks_alike same k1 xG k2, k HG (x3.trans (x3F.trans xG))⟩
end
end Rw
end T_A1

section T_A2
set_option Elab.async false
set_option linter.all false
set_option maxRecDepth 100000
set_option maxHeartbeats 8000000
namespace Rw
open PySem PySem.Spec L2 PyProof.Rows
section
variable {P : Program} {w : World} {K : PySem.W.Frag} {mg : Str → Option Value} {base : Heap}
theorem ring_non {dots : List Str} {f : Str → List V} {v : V} {H : Hp} (h : RingIs dots f v H) : v = .non ↔ ∀ p, ¬ IsRing dots f p := by
  rcases h with ⟨e, h⟩ | ⟨a, p, e, _, b⟩
  · exact ⟨fun _ => h, fun _ => e⟩
  · exact ⟨fun z => (by rw [e] at z; cases z), fun z => absurd b.1 (z p)⟩
theorem lot_sub {H : Hp} {a : Addr} {zs ys mv : List Str} (h : LotAt H a zs mv) {b : Addr} {us : List Str} {H' : Hp} (s : us.Sublist zs) (hb : H' b = some (.tup (us.map V.str))) : LotAt H' b us mv :=
  ⟨hb, fun z hz => h.sub z (s.subset hz), h.nd.sublist s, sorted_sub h.so s, fun z hz => h.nm z (s.subset hz), Nat.le_trans s.length_le h.few⟩
def spPartsRight (C : Addr) : Sp := fun vs H Q _ => ∃ (d g c nt ra rb : Addr) (e : Str) (zs ys ends dots ss ps : List Str) (o n : Str → List (Str × V)), vs = [.ref d, .ref nt, .ref ra, .ref rb, .str e] ∧ DrawAt H d g c ∧ NetAt C (off d g H) nt ends dots ss ps o n ∧ ModelOk ends dots ss ps ∧ e ∈ ends ∧ TabOk dots e (o e) ∧ TabOk dots e (n e) ∧
  LotAt (off d g H) ra zs (moving ends dots o n) ∧ LotAt (off d g H) rb ys (moving ends dots o n) ∧ (∀ y ∈ ys, y ∉ zs) ∧ ∀ H', DrawAt H' d g c → Evl.Ex (off d g H) (off d g H') → Q (.bl true) H'
abbrev nPR : List Str := ["draw", "made", "ready", "part", "end", "lot_here", "rest", "here", "first", "second", "dot", "spot"]
theorem sc_pr : FnScope nPR ["draw", "made", "ready", "part", "end"] (defScope s_parts_right) := ⟨rfl, rfl, rfl, by decide +kernel, rfl, by decide +kernel, by decide +kernel⟩
theorem ok_parts_right {f C : Addr} {fd : FuncData} (F : Fun K "_law_parts_right" "_law_parts_right" s_parts_right f fd) (CT : Cal P w K mg base 2 "_law_take" ["draw", "size"] spTake) (CW : Cal P w K mg base 6 "ways" ["net", "done", "lot", "goal"] (spMix C)) (CG : Cal P w K mg base 7 "ring" ["net", "done", "lot", "goal"] (spRing C))
    (mTup : mg "tuple" = none) (mSorted : mg "sorted" = none) : FnOk P w K mg base CX0 8 f fd ["draw", "made", "ready", "part", "end"] (spPartsRight C) := by
  obtain ⟨fT, fdT, TK, kT, bT, gT⟩ := CT.ex
  obtain ⟨fW, fdW, WY, kW, bW, gW⟩ := CW.ex
  obtain ⟨fG, fdG, RG, kG, bG, gG⟩ := CG.ex
  refine F.ok sc_pr (fun vs H Q E h => ?_) (fun cdv A outer s H vs Q E hr h => ?_)
  · obtain ⟨d, g, c, nt, ra, rb, e, zs, ys, ends, dots, ss, ps, o, n, rfl, _⟩ := h
    rfl
  · obtain ⟨d, g, c, nt, ra, rb, e, zs, ys, ends, dots, ss, ps, o, n, rfl, D, N, ok, he, o1, o2, La, Lb, dis, k⟩ := h
    have nd := sc_pr.nd
    have hu := hu_of hr
    have hr2 : Room 2 _ := hr.mono (by decide)
    have hr6 : Room 6 _ := hr.mono (by decide)
    refine ⟨_, PSs.nox (pss_cons (ps_set (i := 5) nd rfl (.inr rfl) (pe_callTy call_tuple_of (by rfl) mTup (by decide +kernel) (pa_cons
        (pe_lc (own := [("dot", 10)]) (g := gName 10) (tt := tTest (tOp rEq (tCall spTake [] E0 (tCons (tVar 0) (tCons (tC (.int 2)) tNil))) (tC (.int 0)))) (te := tVar 10) rfl nd (pi_tup (pv 3)) (blkOk_by (own := [("dot", 10)]) (N := nPR) (sc := defScope s_parts_right) (by decide +kernel))
          (fun _ _ _ _ _ => pg_name (i := 10) nd rfl (Or.inl rfl)) (fun _ _ _ _ _ => pts_one (pt_cmpR op_eq (pe_call TK hr2 rfl gT kT bT .nil pass0 (pa_cons (pv 0) (pa_cons pe_int pa_nil))) pe_int (nomark _))) (fun _ _ _ _ _ => pv 10)) pa_nil)))
      (pss_cons (ps_set (i := 6) nd rfl (.inl rfl) (pe_callTy call_tuple_of (by rfl) mTup (by decide +kernel) (pa_cons
        (pe_lc (own := [("dot", 10)]) (g := gName 10) (tt := tTest (tOp (rIn K true) (tVar 10) (tVar 5))) (te := tVar 10) rfl nd (pi_tup (pv 3)) (blkOk_by (own := [("dot", 10)]) (N := nPR) (sc := defScope s_parts_right) (by decide +kernel))
          (fun _ _ _ _ _ => pg_name (i := 10) nd rfl (Or.inl rfl)) (fun _ _ _ _ _ => pts_one (pt_cmpR op_notIn_seq (pv 10) (pv 5) rfl)) (fun _ _ _ _ _ => pv 10)) pa_nil)))
      (pss_cons (ps_asg (pe_tup (pa_cons (pe_call WY hr6 rfl gW kW bW .nil pass0 (pa_cons (pv 1) (pa_cons (pv 2) (pa_cons (pv 3) (pa_cons (pv 4) pa_nil))))) (pa_cons (pe_call WY hr6 rfl gW kW bW .nil pass0 (pa_cons (pv 1) (pa_cons (pv 2) (pa_cons (pv 5) (pa_cons (pv 4) pa_nil))))) pa_nil)))
          (pg_tup rfl (pgs_cons (pg_name (i := 7) nd rfl (.inr rfl)) (pgs_cons (pg_name (i := 8) nd rfl (.inl rfl)) pgs_nil))))
      (pss_cons (ps_set (i := 9) nd rfl (.inl rfl) (pe_call WY hr6 rfl gW kW bW .nil pass0 (pa_cons (pv 1) (pa_cons (pe_callTy call_tuple_of (by rfl) mTup (by decide +kernel) (pa_cons (pe_callB cr_sortedU (by rfl) mSorted (by decide +kernel) (pa_cons (pe_op op_catU (pv 2) (pv 5)) pa_nil)) pa_nil)) (pa_cons (pv 6) (pa_cons (pv 4) pa_nil))))))
      (pss_cons (ps_lock (ps_for PassesOwn.never rfl (pi_keys (pv 7)) (pg_name (i := 10) nd rfl (.inr rfl))
        (pss_one (ps_if (pt_cmpR (op_neD hr.units) (pe_lc (own := [("spot", 11)]) (g := gName 11) (tt := tTest (tOp (rIn K true) (tVar 11) (tDGet (tVar 7) (tVar 10)))) (te := tVar 11) rfl nd (pi_list (pe_op op_cat (pe_dget hu (pv 8) (pv 10) (fun _ _ => rfl)) (pe_dget hu (pv 9) (pv 10) (fun _ _ => rfl)))) (blkOk_by (own := [("spot", 11)]) (N := nPR) (sc := defScope s_parts_right) (by decide +kernel))
            (fun _ _ _ _ _ => pg_name (i := 11) nd rfl (Or.inl rfl)) (fun _ _ _ _ _ => pts_one (pt_cmpR op_notIn_seq (pv 11) (pe_dget hu (pv 7) (pv 10) (fun _ _ => rfl)) rfl)) (fun _ _ _ _ _ => pv 11)) (pe_lst pa_nil) (nomark _)) (pss_one (ps_ret pe_bl)) pss_nil))))
      (pss_cons (ps_if (PW.pt (pw_and (pt_cmpR op_isN (pe_call RG hr rfl gG kG bG .nil pass0 (pa_cons (pv 1) (pa_cons (pv 2) (pa_cons (pv 3) (pa_cons (pv 4) pa_nil))))) pe_non (nomark _)) (pw_and1 (pt_cmpR op_notN (pe_call RG hr rfl gG kG bG .nil pass0 (pa_cons (pv 1) (pa_cons (pv 2) (pa_cons (pv 5) (pa_cons (pv 4) pa_nil))))) pe_non (nomark _))))) (pss_one (ps_ret pe_bl)) pss_nil)
      (pss_one (ps_ret (pe_or (pe_cmpR op_notN (pe_call RG hr rfl gG kG bG .nil pass0 (pa_cons (pv 1) (pa_cons (pv 2) (pa_cons (pv 3) (pa_cons (pv 4) pa_nil))))) pe_non (nomark _))
        (pe_one (pe_cmpR op_isN (pe_call RG hr rfl gG kG bG .nil pass0 (pa_cons (pv 1) (pa_cons (pe_callTy call_tuple_of (by rfl) mTup (by decide +kernel) (pa_cons (pe_callB cr_sortedU (by rfl) mSorted (by decide +kernel) (pa_cons (pe_op op_catU (pv 2) (pv 5)) pa_nil)) pa_nil)) (pa_cons (pv 6) (pa_cons (pv 4) pa_nil))))) pe_non (nomark _)))))))))))), ?_⟩
    have d6 := ok.d6
    have e2 := ok.e2
    have za := La.few
    have yb := Lb.few
    have mvl : (moving ends dots o n).length ≤ 6 := Nat.le_trans (List.length_filter_le _ _) d6
    have H_ : ∀ {Hx : Hp} {a : Addr} {u : HO}, Evl.Ex (off d g H) (off d g Hx) → off d g H a = some u → Hx a = some u := fun {Hx a u} x h => (off_some (x _ _ h)).2.2
    have refl0 := Evl.Ex.refl (off d g H)
    -- lot_here
    refine ⟨.ref rb, rfl, rb, rfl, ⟨_, Evl.st_of (H_ refl0 Lb.ha)⟩, fun S hS => lc_tup (K := K) (a := rb) (xs := ys.map V.str)
      (fun i H' => DrawAt H' d g c ∧ Evl.Ex (off d g H) (off d g H') ∧ ∃ us : List Str, H' S = some (.lst (us.map V.str)) ∧ us.Sublist (ys.take i)) ⟨D.new hS, off_ex (Evl.Ex.new hS), [], upd_same, List.nil_sublist _⟩ (fun i H' _ h => Evl.st_of (H_ h.2.1 Lb.ha)) ?_ ?_⟩
    · rintro i v H1 hi ⟨D1, x1, us, s1, sl⟩
      obtain ⟨z, hz, rfl⟩ := str_at hi
      have il := (List.getElem?_eq_some_iff.mp hz).1
      have et : ys.take (i + 1) = ys.take i ++ [z] := by rw [List.take_add_one, hz]; rfl
      have nS := D.ned hS
      have ul := sl.length_le
      rw [List.length_take] at ul
      refine ⟨rfl, ?_⟩
      refine ⟨.ref d, rfl, d, g, c, 2, rfl, by decide, by decide, D1, fun kk H2 k0 k1 D2 x2 => ⟨rfl, _, rfl, ?_⟩⟩
      have s2 := (off_some (x2 _ _ (off_of s1 nS.1 nS.2.1))).2.2
      refine ite2 (fun _ => ⟨.str z, rfl, _, s2, by rw [List.length_map]; exact small1000 (by omega), D2.mut nS.1 nS.2.1 nS.2.2, off_mut (x1.trans x2) (off_free hS), us ++ [z], by rw [upd_same, List.map_append]; rfl, by rw [et]; exact sl.append (List.Sublist.refl _)⟩) (fun _ => ⟨D2, x1.trans x2, us, s2, by rw [et]; exact sl.trans (List.sublist_append_left _ _)⟩)
    rintro H1 ⟨D1, x1, us, s1, sl⟩
    rw [List.length_map, List.take_length] at sl
    have usl := sl.length_le
    refine ⟨S, _, rfl, .inl ⟨Evl.sq_of s1, fun l1 hl1 => ?_⟩⟩
    obtain ⟨D2, x2, l2, _, y2⟩ := off_new (o := .tup (us.map V.str)) D1 x1 hl1
    have raw2 : (upd H1 l1 (.tup (us.map V.str))) l1 = some (.tup (us.map V.str)) := upd_same
    generalize upd H1 l1 (.tup (us.map V.str)) = H2 at D2 x2 l2 y2 raw2
    -- from here on no draw is taken
    have N2 : NetAt C H2 nt ends dots ss ps o n := (N.to x2).to (ex_off d g H2)
    have La2 : LotAt H2 ra zs (moving ends dots o n) := (La.ex x2).ex (ex_off d g H2)
    have Lb2 : LotAt H2 rb ys (moving ends dots o n) := (Lb.ex x2).ex (ex_off d g H2)
    have Lu2 : LotAt H2 l1 us (moving ends dots o n) := lot_sub (zs := ys) (ys := ys) Lb2 sl raw2
    have fin : ∀ {Hx : Hp}, Evl.Ex H2 Hx → Q (.bl true) Hx := fun {Hx} x => k Hx (D2.ext x) (x2.trans (off_ex x))
    clear k y2 l2 x2 D2 x1 D1 s1
    -- rest
    refine ⟨.ref rb, rfl, rb, rfl, ⟨_, Evl.st_of Lb2.ha⟩, fun S2 hS2 => lc_tup (K := K) (a := rb) (xs := ys.map V.str)
      (fun i H' => Evl.Ex H2 H' ∧ H' S2 = some (.lst (((ys.take i).filter fun z => !decide (z ∈ us)).map V.str))) ⟨Evl.Ex.new hS2, upd_same⟩ (fun i H' _ h => Evl.st_of (h.1 _ _ Lb2.ha)) ?_ ?_⟩
    · rintro i v H3 hi ⟨x3, s3⟩
      obtain ⟨z, hz, rfl⟩ := str_at hi
      have il := (List.getElem?_eq_some_iff.mp hz).1
      have et : (ys.take (i + 1)).filter (fun z => !decide (z ∈ us)) = (ys.take i).filter (fun z => !decide (z ∈ us)) ++ if (!decide (z ∈ us)) = true then [z] else [] := by
        rw [List.take_add_one, hz, List.filter_append]
        show _ ++ List.filter _ [z] = _
        rw [List.filter_cons]
        rfl
      refine ⟨rfl, ?_⟩
      refine ⟨.str z, rfl, .ref l1, rfl, l1, _, rfl, .inr (Evl.st_of (x3 _ _ raw2)), rfl, flat_strs _, _, rfl, ?_⟩
      show if (!inV (.str z) (us.map V.str)) = true then _ else _
      rw [inV_str]
      by_cases kp : (!decide (z ∈ us)) = true
      · rw [if_pos kp] at et
        rw [kp]
        refine iteT ⟨.str z, rfl, _, s3, ?_, x3.mut hS2, ?_⟩
        · rw [List.length_map]
          refine small1000 (Nat.le_trans (List.length_filter_le _ _) ?_)
          rw [List.length_take]
          omega
        · rw [upd_same, et, List.map_append]
          rfl
      · have kp' : (!decide (z ∈ us)) = false := by
          cases q : (!decide (z ∈ us)) with
          | true => exact absurd q kp
          | false => rfl
        rw [if_neg kp, List.append_nil] at et
        rw [kp']
        refine iteF ⟨x3, ?_⟩
        rw [et]
        exact s3
    rintro H3 ⟨x3, s3⟩
    rw [List.length_map, List.take_length] at s3
    obtain ⟨ws, hws⟩ : ∃ ws, ws = ys.filter fun z => !decide (z ∈ us) := ⟨_, rfl⟩
    rw [← hws] at s3
    have wsl : ws.Sublist ys := by rw [hws]; exact List.filter_sublist
    have wnu : ∀ y ∈ ws, y ∉ us := fun y hy h => by
      rw [hws] at hy
      have := (List.mem_filter.mp hy).2
      rw [decide_eq_true h] at this
      cases this
    refine ⟨S2, _, rfl, .inl ⟨Evl.sq_of s3, fun rt hrt => ?_⟩⟩
    have y4 : Evl.Ex H3 (upd H3 rt (.tup (ws.map V.str))) := Evl.Ex.new hrt
    have r4 : (upd H3 rt (.tup (ws.map V.str))) rt = some (.tup (ws.map V.str)) := upd_same
    generalize upd H3 rt (.tup (ws.map V.str)) = H4 at y4 r4
    have x4 := x3.trans y4
    have Lw4 : LotAt H4 rt ws (moving ends dots o n) := lot_sub (zs := ys) (ys := ys) Lb2 wsl r4
    have dus : ∀ y ∈ us, y ∉ zs := fun y hy => dis y (sl.subset hy)
    have unz : (zs ++ us).Nodup := List.nodup_append.mpr ⟨La2.nd, Lu2.nd, fun a ha b hb e => dus b hb (e ▸ ha)⟩
    have unl : (zs ++ us).length ≤ 6 := Nat.le_trans (nodup_le _ (moving ends dots o n) unz fun y hy => (List.mem_append.mp hy).elim (La2.sub y) (Lu2.sub y)) mvl
    have both : ∀ {Hx Hy : Hp} {b : Addr} {vs : List Str}, vs.Perm (zs ++ us) → sortedS vs = true → Hy b = some (.tup (vs.map V.str)) → LotAt Hy b vs (moving ends dots o n) ∧ (∀ y ∈ ws, y ∉ vs) := fun {Hx Hy b vs} hp hs hb =>
      ⟨⟨hb, fun y hy => (List.mem_append.mp (hp.mem_iff.mp hy)).elim (La2.sub y) (Lu2.sub y), hp.nodup_iff.mpr unz, hs, fun y hy => (List.mem_append.mp (hp.mem_iff.mp hy)).elim (La2.nm y) (Lu2.nm y), by rw [hp.length_eq]; omega⟩,
        fun y hy h => (List.mem_append.mp (hp.mem_iff.mp h)).elim (dis y (wsl.subset hy)) (wnu y hy)⟩
    -- here, first
    refine ⟨.ref nt, rfl, .ref ra, rfl, .ref rb, rfl, .str e, rfl, nt, ra, rb, e, zs, ys, ends, dots, ss, ps, o, n, rfl, N2.to x4, ok, he, La2.ex x4, Lb2.ex x4, dis, fun DH H5 x5 hDH MH => ?_⟩
    refine ⟨.ref nt, rfl, .ref ra, rfl, .ref l1, rfl, .str e, rfl, nt, ra, l1, e, zs, us, ends, dots, ss, ps, o, n, rfl, N2.to (x4.trans x5), ok, he, La2.ex (x4.trans x5), Lu2.ex (x4.trans x5), dus, fun DF H6 x6 hDF MF => ⟨by show 2 ≤ sizeLine; decide, fun tp htp => ⟨tp, _, rfl, Evl.st_of upd_same, rfl, _, _, rfl, _, [], rfl, rfl, ?_⟩⟩⟩
    have y7 : Evl.Ex H6 (upd H6 tp (.tup [.ref DH, .ref DF])) := Evl.Ex.new htp
    generalize upd H6 tp (.tup [.ref DH, .ref DF]) = H7 at y7
    have x7 := (x4.trans x5).trans (x6.trans y7)
    -- second
    refine ⟨.ref nt, rfl, .ref ra, rfl, .ref l1, rfl, ra, l1, zs.map V.str, us.map V.str, rfl, rfl, x7 _ _ La2.ha, x7 _ _ Lu2.ha, by rw [List.length_map, List.length_map]; exact Nat.le_of_lt (small1000 (by omega)), fun q H8 x8 hq => ?_⟩
    rw [← List.map_append] at hq
    refine ⟨q, zs ++ us, rfl, Evl.st_of hq, by omega, fun vs sv hvs hso hsv => ?_⟩
    refine ⟨sv, _, rfl, .inl ⟨Evl.sq_of upd_same, fun vt hvt => ?_⟩⟩
    have y9 : Evl.Ex H8 (upd (upd H8 sv (.lst (vs.map V.str))) vt (.tup (vs.map V.str))) := (Evl.Ex.new hsv).trans (Evl.Ex.new hvt)
    have v9 : (upd (upd H8 sv (.lst (vs.map V.str))) vt (.tup (vs.map V.str))) vt = some (.tup (vs.map V.str)) := upd_same
    generalize upd (upd H8 sv (.lst (vs.map V.str))) vt (.tup (vs.map V.str)) = H9 at y9 v9
    have x9 := x7.trans (x8.trans y9)
    obtain ⟨Lv, dv⟩ := both (Hx := H9) hvs hso v9
    refine ⟨.ref rt, rfl, .str e, rfl, nt, vt, rt, e, vs, ws, ends, dots, ss, ps, o, n, rfl, N2.to x9, ok, he, Lv, Lw4.ex (((x5.trans x6).trans y7).trans (x8.trans y9)), dv, fun DS HA xA hDS MS => ?_⟩
    have x2A := x9.trans xA
    have MHA := MH.to (((x6.trans y7).trans (x8.trans y9)).trans xA)
    have MFA := MF.to ((y7.trans (x8.trans y9)).trans xA)
    have m1 : ∀ y, y ∈ vs ↔ y ∈ zs ∨ y ∈ us := fun y => by rw [hvs.mem_iff, List.mem_append]
    have W : Webs dots (spotsOf (o e) (n e) zs ys) := webs_of ok he o1 o2
    have W1 : Webs dots (spotsOf (o e) (n e) zs us) := webs_of ok he o1 o2
    have W2 : Webs dots (spotsOf (o e) (n e) vs ws) := webs_of ok he o1 o2
    have in1 : ∀ {z : Str} {v : V}, v ∈ spotsOf (o e) (n e) zs us z → v ∈ spotsOf (o e) (n e) zs ys z := fun h => spots_first (fun y hy => sl.subset hy) h
    have in2 : ∀ {z : Str} {v : V}, v ∈ spotsOf (o e) (n e) vs ws z → v ∈ spotsOf (o e) (n e) zs ys z := fun h => spots_second m1 (fun y hy => sl.subset hy) (fun y hy => wsl.subset hy) h
    -- for dot in here
    obtain ⟨rs, r1, r2, rr⟩ := MHA.ex
    have rl : rs.length = dots.length := by rw [← r2, List.length_map]
    refine ⟨DH, .dK (tkv rs), r1, trivial, fun od => ?_⟩
    have lockB : (upd HA DH (.frz od (.dK (tkv rs)))) DH = some (.frz od (.dK (tkv rs))) := upd_same
    have back : ∀ {H4 : Hp}, Evl.Ex (upd HA DH (.frz od (.dK (tkv rs)))) H4 → Evl.Ex HA (upd H4 DH (.dK (tkv rs))) := fun {H4} x b u h => by
      by_cases q : b = DH
      · subst q
        rw [upd_same, ← r1, h]
      · rw [upd_ne q]
        exact x _ _ (by rw [upd_ne q]; exact h)
    have lstB : ∀ {a : Addr} {vs : List V}, HA a = some (.lst vs) → (upd HA DH (.frz od (.dK (tkv rs)))) a = some (.lst vs) := fun {a vs} h => by rw [upd_ne (ne_of h r1 (by intro z; cases z))]; exact h
    have MHB : MixR (upd HA DH (.frz od (.dK (tkv rs)))) DH dots (spotsOf (o e) (n e) zs ys) := ⟨rs, .inr ⟨od, lockB⟩, r2, fun q hq => let ⟨l, e1, _, e3⟩ := rr q hq; ⟨l, e1, lstB e3⟩⟩
    have nDF : DF ≠ DH := fun q => by
      obtain ⟨rs', q1, _, _⟩ := MH.ex
      rw [q, q1] at hDF
      cases hDF
    have nDS : DS ≠ DH := fun q => by
      obtain ⟨rs', q1, _, _⟩ := MH.ex
      rw [q, ((x6.trans y7).trans (x8.trans y9)) _ _ q1] at hDS
      cases hDS
    have MFB : MixR (upd HA DH (.frz od (.dK (tkv rs)))) DF dots (spotsOf (o e) (n e) zs us) := by
      obtain ⟨rs', q1, q2, q3⟩ := MFA.ex
      exact ⟨rs', .inl (by rw [upd_ne nDF]; exact q1), q2, fun q hq => let ⟨l, e1, _, e3⟩ := q3 q hq; ⟨l, e1, lstB e3⟩⟩
    have MSB : MixR (upd HA DH (.frz od (.dK (tkv rs)))) DS dots (spotsOf (o e) (n e) vs ws) := by
      obtain ⟨rs', q1, q2, q3⟩ := MS.ex
      exact ⟨rs', .inl (by rw [upd_ne nDS]; exact q1), q2, fun q hq => let ⟨l, e1, _, e3⟩ := q3 q hq; ⟨l, e1, lstB e3⟩⟩
    generalize upd HA DH (.frz od (.dK (tkv rs))) = HB at lockB back lstB MHB MFB MSB
    refine ⟨.ref DH, rfl, DH, od, rfl, .inl ⟨tkv rs, lockB, for_it walk_keys
      (fun j σ H' => ∃ x10 : Option V, σ = [some (.ref d), some (.ref nt), some (.ref ra), some (.ref rb), some (.str e), some (.ref l1), some (.ref rt), some (.ref DH), some (.ref DF), some (.ref DS), x10, none] ∧ Evl.Ex HB H')
      ⟨_, rfl, Evl.Ex.refl _⟩ (fun j σ H' _ ⟨_, _, x⟩ => x _ _ lockB) ?_ ?_⟩⟩
    · rintro j x σ HC HC' hj ⟨x10, rfl, xC⟩ ⟨rfl, kk, v, hkv, rfl⟩
      rw [tkv_len, rl] at hj
      obtain ⟨z, hz, rfl⟩ := key_at r2 hkv
      have zd := List.mem_of_getElem? hz
      obtain ⟨lf, gf, hlf⟩ := (MFB.to xC).get zd
      obtain ⟨ls, gs, hls⟩ := (MSB.to xC).get zd
      have t1 := W1.two z zd
      have t2 := W2.two z zd
      refine ⟨.ref DF, rfl, .str z, rfl, DF, .ref lf, rfl, gf, .ref DS, rfl, .str z, rfl, DS, .ref ls, rfl, gs, lf, ls, _, _, rfl, rfl, hlf, hls, Nat.le_of_lt (small1000 (by omega)), fun ct hct => ?_⟩
      have yD : Evl.Ex HC' (upd HC' ct (.lst (spotsOf (o e) (n e) zs us z ++ spotsOf (o e) (n e) vs ws z))) := Evl.Ex.new hct
      have cD : (upd HC' ct (.lst (spotsOf (o e) (n e) zs us z ++ spotsOf (o e) (n e) vs ws z))) ct = some (.lst (spotsOf (o e) (n e) zs us z ++ spotsOf (o e) (n e) vs ws z)) := upd_same
      generalize upd HC' ct (.lst (spotsOf (o e) (n e) zs us z ++ spotsOf (o e) (n e) vs ws z)) = HD at yD cD
      have MHD := MHB.to (xC.trans yD)
      refine ⟨ct, rfl, ⟨_, Evl.sq_of cD⟩, fun E0' hE0 => lc_list (K := K) (a := ct) (xs := spotsOf (o e) (n e) zs us z ++ spotsOf (o e) (n e) vs ws z)
        (fun i H' => Evl.Ex HD H' ∧ H' E0' = some (.lst [])) ⟨Evl.Ex.new hE0, upd_same⟩ (fun i H' _ h => Evl.sq_of (h.1 _ _ cD)) ?_ ?_⟩
      · rintro i v HE hi ⟨xE, eE⟩
        have mv := List.mem_of_getElem? hi
        have inn : v ∈ spotsOf (o e) (n e) zs ys z := (List.mem_append.mp mv).elim in1 in2
        have spv := W.sp z zd v inn
        obtain ⟨lh, gh, hlh⟩ := (MHD.to xE).get zd
        refine ⟨rfl, ?_⟩
        refine ⟨v, rfl, .ref DH, rfl, .str z, rfl, DH, .ref lh, rfl, gh, lh, _, rfl, .inl (Evl.sq_of hlh), ?_, flat_spots (W.sp z zd), _, rfl, ?_⟩
        · rcases spv with rfl | ⟨y, rfl, _⟩ <;> rfl
        · show if (!inV v (spotsOf (o e) (n e) zs ys z)) = true then _ else _
          have iv : inV v (spotsOf (o e) (n e) zs ys z) = true := by
            rcases spv with rfl | ⟨y, rfl, _⟩
            · rw [inV_non (W.sp z zd)]; exact decide_eq_true inn
            · rw [inV_spots y (W.sp z zd)]; exact decide_eq_true inn
          rw [iv]
          exact iteF ⟨xE, eE⟩
      · rintro HE ⟨xE, eE⟩
        refine ⟨Nat.zero_le _, fun pe hpe => ?_⟩
        have yF : Evl.Ex HE (upd HE pe (.lst [])) := Evl.Ex.new hpe
        obtain ⟨dd, w1, w2, w3⟩ := data_list (K := K) (Evl.sq_of (yF _ _ eE)) (fun v hv => nomatch hv)
        refine ⟨dd, .list [], w1, .lst (Evl.sq_of upd_same) .nil, w2, by rfl, _, rfl, ?_⟩
        rw [w3]
        refine iteF ?_
        exact ⟨_, rfl, (xC.trans yD).trans (xE.trans yF)⟩
    · rintro σ HC ⟨x10, rfl, xC⟩
      refine ⟨xC _ _ lockB, ?_⟩
      have bx := back xC
      have x2C := x2A.trans bx
      generalize upd HC DH (.dK (tkv rs)) = HD at x2C bx
      have mono1 : (∀ p, ¬ IsRing dots (spotsOf (o e) (n e) zs ys) p) → ∀ p, ¬ IsRing dots (spotsOf (o e) (n e) zs us) p := fun h p hp => h p (isRing_mono (fun z _ y => in1) hp)
      have mono2 : (∀ p, ¬ IsRing dots (spotsOf (o e) (n e) zs ys) p) → ∀ p, ¬ IsRing dots (spotsOf (o e) (n e) vs ws) p := fun h p hp => h p (isRing_mono (fun z _ y => in2) hp)
      -- the last row, wherever it stands
      have last : ∀ {Hx : Hp} {R : V → Hp → Prop}, Evl.Ex H2 Hx → (∀ v Hy, Evl.Ex Hx Hy → RingIs dots (spotsOf (o e) (n e) zs ys) v Hy → R v Hy) → spRing C [.ref nt, .ref ra, .ref rb, .str e] Hx R E0 := by
        intro Hx R x go
        exact ⟨nt, ra, rb, e, zs, ys, ends, dots, ss, ps, o, n, rfl, N2.to x, ok, he, o1, o2, La2.ex x, Lb2.ex x, dis, fun v Hy y r => go v Hy y r⟩
      have tail : ∀ {Hx : Hp}, Evl.Ex H2 Hx → Evl.Ex H4 Hx → ∀ {R : V → Hp → Prop}, (∀ v Hy, Evl.Ex H2 Hy → RingIs dots (spotsOf (o e) (n e) vs ws) v Hy → R v Hy) → ∀ vt' vs', vs' = vs → Hx vt' = some (.tup (vs'.map V.str)) → spRing C [.ref nt, .ref vt', .ref rt, .str e] Hx R E0 := by
        intro Hx x x' R go vt' vs' ev hv'
        subst ev
        obtain ⟨Lv', dv'⟩ := both (Hx := Hx) hvs hso hv'
        exact ⟨nt, vt', rt, e, vs', ws, ends, dots, ss, ps, o, n, rfl, N2.to x, ok, he, o1, o2, Lv', Lw4.ex x', dv', fun v Hy y r => go v Hy (x.trans y) r⟩
      have x4D : Evl.Ex H4 HD := (((x5.trans x6).trans y7).trans (x8.trans y9)).trans (xA.trans bx)
      refine ⟨.ref nt, rfl, .ref ra, rfl, .ref rb, rfl, .str e, rfl, ?_⟩
      refine last x2C fun v1 HE xE g1 => ⟨rfl, _, rfl, ?_⟩
      have x2E := x2C.trans xE
      have x4E := x4D.trans xE
      by_cases q : v1 = .non
      · rw [decide_eq_true q]
        have no := (ring_non g1).mp q
        refine iteT ⟨.ref nt, rfl, .ref ra, rfl, .ref l1, rfl, .str e, rfl, nt, ra, l1, e, zs, us, ends, dots, ss, ps, o, n, rfl, N2.to x2E, ok, he, o1, o2, La2.ex x2E, Lu2.ex x2E, dus, fun v2 HF xF g2 => ⟨rfl, _, rfl, ?_⟩⟩
        rw [decide_eq_true ((ring_non g2).mpr (mono1 no))]
        refine iteF ?_
        have x2F := x2E.trans xF
        have x4F := x4E.trans xF
        refine ⟨.ref nt, rfl, .ref ra, rfl, .ref rb, rfl, .str e, rfl, ?_⟩
        refine last x2F fun v3 HG xG g3 => ⟨rfl, false, congrArg V.bl (by rw [decide_eq_true ((ring_non g3).mpr no)]; rfl), ?_⟩
        have x2G := x2F.trans xG
        have x4G := x4F.trans xG
        refine ⟨.ref nt, rfl, .ref ra, rfl, .ref l1, rfl, ra, l1, zs.map V.str, us.map V.str, rfl, rfl, x2G _ _ La2.ha, x2G _ _ Lu2.ha, by rw [List.length_map, List.length_map]; exact Nat.le_of_lt (small1000 (by omega)), fun q2 HH xH hq2 => ?_⟩
        rw [← List.map_append] at hq2
        refine ⟨q2, zs ++ us, rfl, Evl.st_of hq2, by omega, fun vs2 sv2 hvs2 hso2 hsv2 => ?_⟩
        have ev : vs2 = vs := sorted_uniq hso2 hso (hvs2.trans hvs.symm)
        refine ⟨sv2, _, rfl, .inl ⟨Evl.sq_of upd_same, fun vt2 hvt2 => ?_⟩⟩
        have yI : Evl.Ex HH (upd (upd HH sv2 (.lst (vs2.map V.str))) vt2 (.tup (vs2.map V.str))) := (Evl.Ex.new hsv2).trans (Evl.Ex.new hvt2)
        have vI : (upd (upd HH sv2 (.lst (vs2.map V.str))) vt2 (.tup (vs2.map V.str))) vt2 = some (.tup (vs2.map V.str)) := upd_same
        generalize upd (upd HH sv2 (.lst (vs2.map V.str))) vt2 (.tup (vs2.map V.str)) = HI at yI vI
        refine ⟨.ref rt, rfl, .str e, rfl, ?_⟩
        refine tail (x2G.trans (xH.trans yI)) (x4G.trans (xH.trans yI)) (fun v4 HJ xJ g4 => ⟨rfl, ?_⟩) vt2 vs2 ev vI
        rw [decide_eq_true ((ring_non g4).mpr (mono2 no))]
        exact fin xJ
      · rw [decide_eq_false q]
        refine iteF ?_
        refine ⟨.ref nt, rfl, .ref ra, rfl, .ref rb, rfl, .str e, rfl, ?_⟩
        refine last x2E fun v3 HG xG g3 => ⟨rfl, true, congrArg V.bl (by rw [decide_eq_false (fun z => q ((ring_non g1).mpr ((ring_non g3).mp z)))]; rfl), ?_⟩
        exact fin (x2E.trans xG)
end
end Rw
end T_A2

section T_A3
set_option Elab.async false
set_option linter.all false
set_option maxRecDepth 100000
set_option maxHeartbeats 8000000
namespace Rw
open PySem PySem.Spec L2 PyProof.Rows
/-! ### a dict under a lock -/
theorem lock_in {H : Hp} {D : Addr} {u : HO} (h : H D = some u) (od : Obj) : ∃ HL, HL = upd H D (.frz od u) ∧ HL D = some (.frz od u) ∧ (∀ {a v}, H a = some v → a ≠ D → HL a = some v) ∧ (∀ {H4}, Evl.Ex HL H4 → Evl.Ex H (upd H4 D u)) ∧
    ∀ {H4 a v}, Evl.Ex HL H4 → H4 a = some v → (∀ w1 w2, v ≠ .frz w1 w2) → (upd H4 D u) a = some v := by
  refine ⟨_, rfl, upd_same, fun {a v} h ne => by rw [upd_ne ne]; exact h, fun {H4} x b w hb => ?_, fun {H4 a v} x ha ne => ?_⟩
  · by_cases q : b = D
    · subst q
      rw [upd_same, ← h, hb]
    · rw [upd_ne q]
      exact x _ _ (by rw [upd_ne q]; exact hb)
  · have nq : a ≠ D := fun q => by
      rw [q, x _ _ upd_same] at ha
      exact ne _ _ (Option.some.inj ha).symm
    rw [upd_ne nq]
    exact ha
/-! ### a model under other names -/
def tbN (nu : Str → Str) (tb : List (Str × V)) : List (Str × V) := tb.map fun q => (nu q.1, nuV nu q.2)
theorem tbN_keys (nu : Str → Str) (tb : List (Str × V)) : (tbN nu tb).map (·.1) = (tb.map (·.1)).map nu := by
  unfold tbN
  rw [List.map_map, List.map_map]
  rfl
def invN (S : List Str) (nu : Str → Str) (y : Str) : Str := (S.find? fun e => nu e == y).getD y
theorem inv_nu {S : List Str} {nu : Str → Str} (inj : ∀ x ∈ S, ∀ y ∈ S, nu x = nu y → x = y) {e : Str} (he : e ∈ S) : invN S nu (nu e) = e := by
  unfold invN
  cases q : S.find? (fun x => nu x == nu e) with
  | none =>
    have := List.find?_eq_none.mp q e he
    simp at this
  | some x =>
    have h1 := List.mem_of_find?_eq_some q
    have h2 := List.find?_some q
    show x = e
    exact inj x h1 e he (beq_iff_eq.mp h2)
theorem nu_nodup {nu : Str → Str} {S : List Str} (inj : ∀ x ∈ S, ∀ y ∈ S, nu x = nu y → x = y) : ∀ {l : List Str}, (∀ z ∈ l, z ∈ S) → l.Nodup → (l.map nu).Nodup
  | [], _, _ => List.nodup_nil
  | z :: l, hs, h => by
    obtain ⟨h1, h2⟩ := List.nodup_cons.mp h
    refine List.nodup_cons.mpr ⟨fun m => ?_, nu_nodup inj (fun y hy => hs y (List.mem_cons_of_mem _ hy)) h2⟩
    obtain ⟨y, hy, e⟩ := List.mem_map.mp m
    have := inj y (hs y (List.mem_cons_of_mem _ hy)) z (hs z List.mem_cons_self) e
    rw [this] at hy
    exact h1 hy
theorem two_sorted : ∀ l : List Str, l.length ≤ 2 → ∃ l' : List Str, l'.Perm l ∧ sortedS l' = true
  | [], _ => ⟨[], .refl _, rfl⟩
  | [a], _ => ⟨[a], .refl _, rfl⟩
  | [a, b], _ => by
    by_cases q : b.cps.toList < a.cps.toList
    · refine ⟨[b, a], List.Perm.swap a b [], sorted_of (List.pairwise_cons.mpr ⟨fun x hx => ?_, List.pairwise_singleton _ _⟩)⟩
      rw [List.mem_singleton.mp hx]
      exact List.not_lt.mp fun z => List.lt_irrefl _ (List.lt_trans q z)
    · refine ⟨[a, b], .refl _, sorted_of (List.pairwise_cons.mpr ⟨fun x hx => ?_, List.pairwise_singleton _ _⟩)⟩
      rw [List.mem_singleton.mp hx]
      exact q
section
variable {nu : Str → Str} {ends dots dots2 : List Str} {e : Str} {tb : List (Str × V)}
theorem tbN_ok (inj : ∀ x ∈ ends ++ dots, ∀ y ∈ ends ++ dots, nu x = nu y → x = y) (hd : dots2.Perm (dots.map nu)) (h : TabOk dots e tb) : TabOk dots2 (nu e) (tbN nu tb) := by
  refine ⟨by rw [tbN_keys]; exact (h.ks.map nu).trans hd.symm, fun q hq => ?_⟩
  unfold tbN at hq
  obtain ⟨r, hr, rfl⟩ := List.mem_map.mp hq
  have rk : r.1 ∈ dots := h.ks.mem_iff.mp (List.mem_map_of_mem hr)
  show PlaceOk dots2 (nu e) (nu r.1) (nuV nu r.2)
  rcases h.ps r hr with z | z | ⟨y, hy, hne, z⟩
  · rw [z]; exact .inl rfl
  · rw [z]; exact .inr (.inl rfl)
  · rw [z]
    exact .inr (.inr ⟨nu y, hd.mem_iff.mpr (List.mem_map_of_mem hy), fun q => hne (inj y (List.mem_append_right _ hy) r.1 (List.mem_append_right _ rk) q), rfl⟩)
theorem tbN_look (inj : ∀ x ∈ ends ++ dots, ∀ y ∈ ends ++ dots, nu x = nu y → x = y) (dn : dots.Nodup) (h : TabOk dots e tb) {z : Str} (hz : z ∈ dots) : look (tbN nu tb) (nu z) = nuV nu (look tb z) := by
  obtain ⟨v, h1, h2⟩ := tkv_some (tb := tb) (z := z) (h.ks.mem_iff.mpr hz)
  have kn : ((tbN nu tb).map (·.1)).Nodup := by
    rw [tbN_keys]
    exact nu_nodup inj (fun y hy => List.mem_append_right _ (h.ks.mem_iff.mp hy)) (h.ks.nodup_iff.mpr dn)
  unfold look
  rw [h1, tkv_val kn (show (nu z, nuV nu v) ∈ tbN nu tb from List.mem_map.mpr ⟨(z, v), h2, rfl⟩)]
  rfl
end
/-- parts of a net stand at m, its goals in any order -/
structure ModelP (H : Hp) (m tb db sb pb : Addr) (ends dots ss ps : List Str) (rows : List (Str × V)) : Prop where
  hm : H m = some (.dK (mkv tb db sb pb))
  ht : H tb = some (.dK (tkv rows))
  hd : H db = some (.lst (dots.map V.str))
  hs : H sb = some (.lst (ss.map V.str))
  hp : H pb = some (.lst (ps.map V.str))
  rk : (rows.map (·.1)).Perm ends
  ro : RowsOk H dots rows
  ok : ModelOk ends dots ss ps
section
variable {P : Program} {w : World} {K : PySem.W.Frag} {mg : Str → Option Value} {base : Heap}
def spNetP (C : Addr) : Sp := fun vs H Q _ => ∃ (m tb db sb pb : Addr) (ends dots ss ps : List Str) (rows : List (Str × V)) (o n : Str → List (Str × V)), vs = [.ref m] ∧ ModelP H m tb db sb pb ends dots ss ps rows ∧ RowsAt H ends dots rows o n ∧
  ∀ x H', Evl.Ex H H' → H x = none → NetAt C (rest H H') x ends dots ss ps o n → Q (.ref x) H'
theorem ok_netP {f C fi : Addr} {fd fdi : FuncData} (F : Fun K "_law_net" "_law_net" s_net f fd) (M : Mk K C fi) (I_ : FnOk P w K mg base CX0 4 fi fdi ["self", "tables", "sources", "posts"] (spInit C)) (bi : Binds K fdi ["self", "tables", "sources", "posts"] []) (mNet : mg "Net" = some (.ref C)) :
    FnOk P w K mg base CX0 6 f fd ["model"] (spNetP C) := by
  refine F.ok sc_net (fun vs H Q E h => ?_) (fun cdv A outer s H vs Q E hr h => ?_)
  · obtain ⟨m, tb, db, sb, pb, ends, dots, ss, ps, rows, o, n, rfl, _⟩ := h
    rfl
  · obtain ⟨m, tb, db, sb, pb, ends, dots, ss, ps, rows, o, n, rfl, MA, ro, k⟩ := h
    have hu := hu_of hr
    refine ⟨_, pss_one (ps_ret (pe_make M I_ hr rfl mNet bi .nil pass0 (pa_cons (pe_dget hu (pv 0) pe_str (fun _ _ => rfl)) (pa_cons (pe_dget hu (pv 0) pe_str (fun _ _ => rfl)) (pa_cons (pe_dget hu (pv 0) pe_str (fun _ _ => rfl)) pa_nil))))), ?_⟩
    refine ⟨.ref m, rfl, m, _, rfl, dget_of MA.hm (mkv_tables _ _ _ _), .ref m, rfl, m, _, rfl, dget_of MA.hm (mkv_sources _ _ _ _), .ref m, rfl, m, _, rfl, dget_of MA.hm (mkv_posts _ _ _ _), fun x dx hx hdx ne => ?_⟩
    have nb : (upd H dx (.own x)) x = none := by rw [upd_ne ne.symm]; exact hx
    have xb : Evl.Ex H (upd H dx (.own x)) := Evl.Ex.new hdx
    refine ⟨upd H dx (.own x), x, dx, tb, sb, pb, ends, dots, ss, ps, rows, o, n, rfl, nb, Evl.Ex.new nb, upd_same, xb _ _ MA.ht, MA.rk, MA.ro.ex xb, ro.ex xb, .inl (xb _ _ MA.hs), .inl (xb _ _ MA.hp), MA.ok, fun H' x' N => ⟨rfl, ?_⟩⟩
    exact k x H' (xb.trans x') hx (N _ (rest_less xb) fun z => by rw [xb _ _ MA.hp] at z; cases z)
/-- [names[dot] for dot in a list or tuple] -/
abbrev tNameOf (i j : Nat) : TE := tDGet (tVar i) (tVar j)
/-- names stand at nm -/
structure NamesAt (H : Hp) (nm : Addr) (S : List Str) (nu : Str → Str) : Prop where
  at_ : ∃ nt : List (Str × V), H nm = some (.dK (tkv nt)) ∧ ∀ z ∈ S, valV (tkv nt) (Sum.inr z) = some (.str (nu z))
  nm_ : ∀ z ∈ S, Nm (nu z)
  inj : ∀ x ∈ S, ∀ y ∈ S, nu x = nu y → x = y
theorem NamesAt.to {H H' : Hp} {nm : Addr} {S : List Str} {nu : Str → Str} (h : NamesAt H nm S nu) (x : Evl.Ex H H') : NamesAt H' nm S nu := by
  obtain ⟨⟨nt, h1, h2⟩, h3, h4⟩ := h
  exact ⟨⟨nt, x _ _ h1, h2⟩, h3, h4⟩
theorem NamesAt.get {H : Hp} {nm : Addr} {S : List Str} {nu : Str → Str} (h : NamesAt H nm S nu) {z : Str} (hz : z ∈ S) : DGet H nm (.str z) (some (.str (nu z))) := by
  obtain ⟨⟨nt, h1, h2⟩, _, _⟩ := h
  exact dget_of (k := Sum.inr z) h1 (h2 z hz)
theorem NamesAt.up {H : Hp} {nm D : Addr} {u : HO} {S : List Str} {nu : Str → Str} (h : NamesAt H nm S nu) (ne : nm ≠ D) : NamesAt (upd H D u) nm S nu := by
  obtain ⟨⟨nt, h1, h2⟩, h3, h4⟩ := h
  exact ⟨⟨nt, by rw [upd_ne ne]; exact h1, h2⟩, h3, h4⟩
def spNamed : Sp := fun vs H Q _ => ∃ (Hb : Hp) (m tb db sb pb nm : Addr) (ends dots ss ps : List Str) (rows : List (Str × V)) (o n : Str → List (Str × V)) (nu : Str → Str), vs = [.ref m, .ref nm] ∧ Evl.Ex Hb H ∧ Hb nm = none ∧ ModelAt Hb m tb db sb pb ends dots ss ps rows ∧ RowsAt Hb ends dots rows o n ∧ NamesAt H nm (ends ++ dots) nu ∧
  ∀ (m2 tb2 db2 sb2 pb2 : Addr) (ends2 dots2 ss2 : List Str) (rows2 : List (Str × V)) (H' : Hp), Evl.Ex H H' → ModelP H' m2 tb2 db2 sb2 pb2 ends2 dots2 ss2 (ps.map nu) rows2 → RowsAt H' ends2 dots2 rows2 (fun y => tbN nu (o (invN ends nu y))) (fun y => tbN nu (n (invN ends nu y))) → ends2.Perm (ends.map nu) → dots2.Perm (dots.map nu) → Q (.ref m2) H'
abbrev nNamed : List Str := ["model", "names", "rows", "end", "pair", "row", "found", "dot"]
theorem sc_named : FnScope nNamed ["model", "names"] (defScope s_named) := ⟨rfl, rfl, rfl, by decide +kernel, rfl, by decide +kernel, by decide +kernel⟩
abbrev rIsNon : R2 := fun x y H Q => y = .non ∧ Q (.bl (decide (x = .non))) H
end
end Rw
end T_A3

section T_A4
set_option Elab.async false
set_option linter.all false
set_option maxRecDepth 100000
set_option maxHeartbeats 8000000
namespace Rw
open PySem PySem.Spec L2 PyProof.Rows
theorem name_step {H0 Hx : Hp} {S nm : Addr} {Sn zs : List Str} {nu : Str → Str} {i : Nat} {z : Str} (na : NamesAt H0 nm Sn nu) (x : Evl.Ex H0 Hx) (hS : H0 S = none) (s : Hx S = some (.lst (((zs.take i).map nu).map V.str))) (hz : zs[i]? = some z) (zS : z ∈ Sn) (few : zs.length ≤ 100) :
    DGet Hx nm (.str z) (some (.str (nu z))) ∧ ∃ acc, Hx S = some (.lst acc) ∧ acc.length < sizeLine ∧ (Evl.Ex H0 (upd Hx S (.lst (acc ++ [.str (nu z)]))) ∧ (upd Hx S (.lst (acc ++ [.str (nu z)]))) S = some (.lst (((zs.take (i + 1)).map nu).map V.str))) := by
  refine ⟨(na.to x).get zS, _, s, ?_, x.mut hS, ?_⟩
  · rw [List.length_map, List.length_map, List.length_take]
    exact small1000 (by omega)
  · rw [upd_same, List.take_add_one, hz, List.map_append, List.map_append]
    rfl
theorem tkv_item {t : List (Str × V)} {j : Nat} {kk : Key} {v : V} (h : (tkv t)[j]? = some (kk, v)) : ∃ z, kk = Sum.inr z ∧ t[j]? = some (z, v) := by
  unfold tkv at h
  rw [List.getElem?_map] at h
  cases q : t[j]? with
  | none => rw [q] at h; cases h
  | some r =>
    rw [q] at h
    have e := Option.some.inj h
    exact ⟨r.1, (congrArg Prod.fst e).symm, by rw [← show r.2 = v from congrArg Prod.snd e]⟩
/-- the rows made so far -/
def rowsN (nu : Str → Str) (rs : List (Str × Addr)) : List (Str × V) := rs.map fun q => (nu q.1, V.ref q.2)
theorem rowsN_keys (nu : Str → Str) (rs : List (Str × Addr)) : (rowsN nu rs).map (·.1) = (rs.map (·.1)).map nu := by
  unfold rowsN
  rw [List.map_map, List.map_map]
  rfl
structure MadeAt (H : Hp) (nu : Str → Str) (o n : Str → List (Str × V)) (rs : List (Str × Addr)) : Prop where
  all : ∀ q ∈ rs, ∃ a b : Addr, H q.2 = some (.tup [.ref a, .ref b]) ∧ H a = some (.dK (tkv (tbN nu (o q.1)))) ∧ H b = some (.dK (tkv (tbN nu (n q.1))))
theorem MadeAt.to {H H' : Hp} {nu : Str → Str} {o n : Str → List (Str × V)} {rs : List (Str × Addr)} (h : MadeAt H nu o n rs) (x : Evl.Ex H H') : MadeAt H' nu o n rs := ⟨fun q hq => let ⟨a, b, h1, h2, h3⟩ := h.all q hq; ⟨a, b, x _ _ h1, x _ _ h2, x _ _ h3⟩⟩
/-- a list changes -/
theorem MadeAt.lst {H : Hp} {nu : Str → Str} {o n : Str → List (Str × V)} {rs : List (Str × Addr)} {P : Addr} {l l' : List V} (h : MadeAt H nu o n rs) (hP : H P = some (.lst l)) : MadeAt (upd H P (.lst l')) nu o n rs := ⟨fun q hq => by
  obtain ⟨a, b, h1, h2, h3⟩ := h.all q hq
  exact ⟨a, b, by rw [upd_ne (ne_of h1 hP (by intro z; cases z))]; exact h1, by rw [upd_ne (ne_of h2 hP (by intro z; cases z))]; exact h2, by rw [upd_ne (ne_of h3 hP (by intro z; cases z))]; exact h3⟩⟩
/-- the rows' dict is no table -/
theorem rows_no_tab {nu : Str → Str} {dots : List Str} {e : Str} {tb : List (Str × V)} {rs : List (Str × Addr)} (h : TabOk dots e tb) (d0 : dots ≠ []) : tkv (rowsN nu rs) ≠ tkv (tbN nu tb) := fun q => by
  have e1 := tkv_inj q
  have ne : tb ≠ [] := fun z => by
    have := h.ks.length_eq
    rw [z] at this
    cases dots with
    | nil => exact d0 rfl
    | cons _ _ => simp at this
  cases tb with
  | nil => exact ne rfl
  | cons r tb =>
    cases rs with
    | nil => cases e1
    | cons r0 rs =>
      have e2 : V.ref r0.2 = nuV nu r.2 := congrArg Prod.snd (List.cons.inj e1).1
      rcases h.ps r List.mem_cons_self with z | z | ⟨_, _, _, z⟩ <;> rw [z] at e2 <;> cases e2
section
variable {P : Program} {w : World} {K : PySem.W.Frag} {mg : Str → Option Value} {base : Heap}
theorem ok_named {f : Addr} {fd : FuncData} (F : Fun K "_law_named" "_law_named" s_named f fd) (mDict : mg "dict" = none) (mTup : mg "tuple" = none) (mSorted : mg "sorted" = none) : FnOk P w K mg base CX0 1 f fd ["model", "names"] spNamed := by
  refine F.ok sc_named (fun vs H Q E h => ?_) (fun cdv A outer s H vs Q E hr h => ?_)
  · obtain ⟨Hb, m, tb, db, sb, pb, nm, ends, dots, ss, ps, rows, o, n, nu, rfl, _⟩ := h
    rfl
  · obtain ⟨Hb, m, tb, db, sb, pb, nm, ends, dots, ss, ps, rows, o, n, nu, rfl, xb, nm0, MA, ro, na, k⟩ := h
    have nd := sc_named.nd
    have hu := hu_of hr
    refine ⟨_, PSs.nox (pss_cons (ps_set (i := 2) nd rfl (.inl rfl) pe_dnewK)
      (pss_cons (ps_lock (ps_for PassesOwn.never rfl (pi_keys (pe_dget hu (pv 0) pe_str (fun _ _ => rfl))) (pg_name (i := 3) nd rfl (.inl rfl))
        (pss_cons (ps_set (i := 4) nd rfl (.inl rfl) (pe_lst pa_nil))
        (pss_cons (ps_for PassesOwn.never rfl (pi_tup (pe_dget hu (pe_dget hu (pv 0) pe_str (fun _ _ => rfl)) (pv 3) (fun _ _ => rfl))) (pg_name (i := 5) nd rfl (.inr rfl))
          (pss_one (ps_expr (pe_bm PySem.F.plainAttrs_list PySem.F.slot_list_append PySem.F.type_list_append mt_append (pv 4) (pa_cons (pe_callTy (call_dictP rfl) (by rfl) mDict (by decide +kernel) (pa_cons (pe_lock
            (pe_lc (own := [("dot", 7)]) (g := gName 7) (tt := tYes) (te := tTup (tCons (tDGet (tVar 1) (tVar 7)) (tCons (tIf (tTest (tOp rIsNon (tDGet (tVar 5) (tVar 7)) (tC .non))) (tC .non) (tDGet (tVar 1) (tDGet (tVar 5) (tVar 7)))) tNil))) rfl nd (pi_keys (pv 5)) (blkOk_by (own := [("dot", 7)]) (N := nNamed) (sc := defScope s_named) (by decide +kernel))
              (fun _ _ _ _ _ => pg_name (i := 7) nd rfl (Or.inl rfl)) (fun _ _ _ _ _ => pts_nil)
              (fun _ _ _ _ _ => pe_tup (pa_cons (pe_dget hu (pv 1) (pv 7) (fun _ _ => rfl)) (pa_cons (pe_ifExp (pt_cmpR op_isN (pe_dget hu (pv 5) (pv 7) (fun _ _ => rfl)) pe_non (nomark _)) pe_non (pe_dget hu (pv 1) (pe_dget hu (pv 5) (pv 7) (fun _ _ => rfl)) (fun _ _ => rfl))) pa_nil))))) pa_nil)) pa_nil)))))
        (pss_one (ps_dput hu (pv 2) (pe_dget hu (pv 1) (pv 3) (fun _ _ => rfl)) (pe_callTy call_tuple_of (by rfl) mTup (by decide +kernel) (pa_cons (pv 4) pa_nil)) rfl))))))
      (pss_cons (ps_set (i := 6) nd rfl (.inl rfl) (pe_disp (pps_cons pe_str (pv 2) (pps_cons pe_str (pe_callB cr_sortedS (by rfl) mSorted (by decide +kernel) (pa_cons
          (pe_lc (own := [("dot", 7)]) (g := gName 7) (tt := tYes) (te := tDGet (tVar 1) (tVar 7)) rfl nd (pi_list (pe_dget hu (pv 0) pe_str (fun _ _ => rfl))) (blkOk_by (own := [("dot", 7)]) (N := nNamed) (sc := defScope s_named) (by decide +kernel))
            (fun _ _ _ _ _ => pg_name (i := 7) nd rfl (Or.inl rfl)) (fun _ _ _ _ _ => pts_nil) (fun _ _ _ _ _ => pe_dget hu (pv 1) (pv 7) (fun _ _ => rfl))) pa_nil)) pps_nil)) (by rfl) (by rfl) (fun z => by cases z) (by decide)))
      (pss_cons (ps_dput hu (pv 6) pe_str (pe_callB cr_sortedS (by rfl) mSorted (by decide +kernel) (pa_cons
          (pe_lc (own := [("dot", 7)]) (g := gName 7) (tt := tYes) (te := tDGet (tVar 1) (tVar 7)) rfl nd (pi_list (pe_dget hu (pv 0) pe_str (fun _ _ => rfl))) (blkOk_by (own := [("dot", 7)]) (N := nNamed) (sc := defScope s_named) (by decide +kernel))
            (fun _ _ _ _ _ => pg_name (i := 7) nd rfl (Or.inl rfl)) (fun _ _ _ _ _ => pts_nil) (fun _ _ _ _ _ => pe_dget hu (pv 1) (pv 7) (fun _ _ => rfl))) pa_nil)) rfl)
      (pss_cons (ps_dput hu (pv 6) pe_str
          (pe_lc (own := [("dot", 7)]) (g := gName 7) (tt := tYes) (te := tDGet (tVar 1) (tVar 7)) rfl nd (pi_list (pe_dget hu (pv 0) pe_str (fun _ _ => rfl))) (blkOk_by (own := [("dot", 7)]) (N := nNamed) (sc := defScope s_named) (by decide +kernel))
            (fun _ _ _ _ _ => pg_name (i := 7) nd rfl (Or.inl rfl)) (fun _ _ _ _ _ => pts_nil) (fun _ _ _ _ _ => pe_dget hu (pv 1) (pv 7) (fun _ _ => rfl))) rfl)
      (pss_one (ps_ret (pv 6)))))))), ?_⟩
    have ok := MA.ok
    have e2 := ok.e2
    have d6 := ok.d6
    have MAH := MA.ex xb
    have roH := ro.ex xb
    have rl : rows.length = ends.length := by rw [← MA.rk, List.length_map]
    have rne : rows ≠ [] := fun z => by
      have := ok.e0
      rw [z] at rl
      simp at rl
      omega
    have dne : dots ≠ [] := fun z => by
      have := ok.d0
      rw [z] at this
      simp at this
    have fresh : ∀ {a : Addr} {u : HO}, Hb a = some u → nm ≠ a := fun {a u} h q => by rw [← q, nm0] at h; cases h
    have inE : ∀ {z : Str}, z ∈ ends → z ∈ ends ++ dots := fun h => List.mem_append_left _ h
    have inD : ∀ {z : Str}, z ∈ dots → z ∈ ends ++ dots := fun h => List.mem_append_right _ h
    have inj := na.inj
    -- rows = {}
    refine fun R hR => ?_
    have ntR : tb ≠ R := ne_of_none MAH.ht hR
    -- for end in model['tables']
    refine ⟨tb, .dK (tkv rows), by rw [upd_ne ntR]; exact MAH.ht, trivial, fun od => ?_⟩
    obtain ⟨HB, eB, lB, upB, backB, keepB⟩ := lock_in MAH.ht od
    have xL : Evl.Ex HB (upd (upd H R (.dK [])) tb (.frz od (.dK (tkv rows)))) := fun c u h => by
      rw [eB] at h
      by_cases q : c = tb
      · subst q
        rw [upd_same] at h ⊢
        exact h
      · rw [upd_ne q] at h ⊢
        rw [upd_ne (fun q2 => by rw [q2, hR] at h; cases h)]
        exact h
    have rL : (upd (upd H R (.dK [])) tb (.frz od (.dK (tkv rows)))) R = some (.dK (tkv (rowsN nu []))) := by rw [upd_ne ntR.symm, upd_same]; rfl
    have BR : HB R = none := by rw [eB, upd_ne ntR.symm]; exact hR
    generalize upd (upd H R (.dK [])) tb (.frz od (.dK (tkv rows))) = HL at xL rL
    have nmt := model_ne MAH
    have mB := upB MAH.hm nmt
    have naB : NamesAt HB nm (ends ++ dots) nu := by
      rw [eB]
      exact na.up (fresh MA.ht)
    have roB : ∀ e ∈ ends, ∃ p po pn : Addr, valV (tkv rows) (Sum.inr e) = some (.ref p) ∧ HB p = some (.tup [.ref po, .ref pn]) ∧ HB po = some (.dK (tkv (o e))) ∧ HB pn = some (.dK (tkv (n e))) ∧ nm ≠ po ∧ nm ≠ pn ∧ TabOk dots e (o e) ∧ TabOk dots e (n e) := fun e he => by
      obtain ⟨p, po, pn, hv, pa⟩ := ro e he
      have pa' := pa.ex xb
      exact ⟨p, po, pn, hv, upB pa'.hp (ne_of pa'.hp MAH.ht (by intro z; cases z)), upB pa'.ho (tab_ne MAH.ht MAH.ro rne pa'.ho pa.o1), upB pa'.hn (tab_ne MAH.ht MAH.ro rne pa'.hn pa.o2), fresh pa.ho, fresh pa.hn, pa.o1, pa.o2⟩
    refine ⟨.ref m, rfl, m, .ref tb, rfl, dget_of (xL _ _ mB) (mkv_tables _ _ _ _), tb, od, rfl, .inl ⟨tkv rows, xL _ _ lB, for_it walk_keys
      (fun j σ H' => ∃ (x3 x4 x5 : Option V) (rs : List (Str × Addr)), σ = [some (.ref m), some (.ref nm), some (.ref R), x3, x4, x5, none, none] ∧ Evl.Ex HB H' ∧ H' R = some (.dK (tkv (rowsN nu rs))) ∧ rs.map (·.1) = ends.take j ∧ MadeAt H' nu o n rs)
      ⟨none, none, none, [], rfl, xL, rL, rfl, ⟨fun q hq => nomatch hq⟩⟩ (fun j σ H' _ ⟨_, _, _, _, _, x, _⟩ => x _ _ lB) ?_ ?_⟩⟩
    · rintro j x σ H1 H1' hj ⟨x3, x4, x5, rs, rfl, x1, r1, k1, ma1⟩ ⟨rfl, kk, v, hkv, rfl⟩
      obtain ⟨e, rfl, hrow⟩ := tkv_item hkv
      have hej : ends[j]? = some e := by rw [← MA.rk, List.getElem?_map, hrow]; rfl
      have he := List.mem_of_getElem? hej
      have et : ends.take (j + 1) = ends.take j ++ [e] := by rw [List.take_add_one, hej]; rfl
      have en : e ∉ ends.take j := fun hm => by
        have q1 : (ends.take (j + 1)).Nodup := ok.en.sublist (List.take_sublist _ _)
        rw [et] at q1
        exact (List.nodup_append.mp q1).2.2 _ hm _ (List.mem_singleton.mpr rfl) rfl
      obtain ⟨p, po, pn, hv, hp, ho, hn, npo, npn, to1, to2⟩ := roB e he
      -- pair = []
      refine ⟨Nat.zero_le _, fun P' hP => ?_⟩
      have y2 : Evl.Ex H1' (upd H1' P' (.lst [])) := Evl.Ex.new hP
      have p2 : (upd H1' P' (.lst [])) P' = some (.lst (([] : List Addr).map V.ref)) := upd_same
      have BP : HB P' = none := ex_none x1 hP
      generalize upd H1' P' (.lst []) = H2 at y2 p2
      have x2 := x1.trans y2
      -- for row in model['tables'][end]
      refine ⟨.ref m, rfl, m, .ref tb, rfl, dget_of (x2 _ _ mB) (mkv_tables _ _ _ _), .str e, rfl, tb, .ref p, rfl, dget_rd (k := Sum.inr e) (.inr ⟨od, x2 _ _ lB⟩) hv, p, rfl, ⟨_, Evl.st_of (x2 _ _ hp)⟩, for_tup (K := K) (a := p) (xs := [.ref po, .ref pn])
        (fun i σ H' => ∃ (x5 : Option V) (la : List Addr), σ = [some (.ref m), some (.ref nm), some (.ref R), some (.str e), some (.ref P'), x5, none, none] ∧ Evl.Ex HB H' ∧ H' R = some (.dK (tkv (rowsN nu rs))) ∧ MadeAt H' nu o n rs ∧ la.length = i ∧ i ≤ 2 ∧ H' P' = some (.lst (la.map V.ref)) ∧
          ∀ (j : Nat) (a : Addr), la[j]? = some a → H' a = some (.dK (tkv (tbN nu (if j = 0 then o e else n e)))))
        ⟨_, [], rfl, x2, y2 _ _ r1, ma1.to y2, rfl, Nat.zero_le _, p2, fun j a h => nomatch h⟩ (fun i σ H' _ ⟨_, _, _, x, _⟩ => Evl.st_of (x _ _ hp)) ?_ ?_⟩
      · rintro i v σ H3 hi ⟨x5', la, rfl, x3', r3, ma3, ll, _, p3, al⟩
        have hi2 : i < 2 := (List.getElem?_eq_some_iff.mp hi).1
        obtain ⟨src, t, rfl, hs, nsrc, tok, ht⟩ : ∃ (src : Addr) (t : List (Str × V)), v = .ref src ∧ HB src = some (.dK (tkv t)) ∧ nm ≠ src ∧ TabOk dots e t ∧ t = (if i = 0 then o e else n e) := by
          match i, hi with
          | 0, hi => exact ⟨po, o e, (Option.some.inj hi).symm, ho, npo, to1, rfl⟩
          | 1, hi => exact ⟨pn, n e, (Option.some.inj hi).symm, hn, npn, to2, rfl⟩
          | q + 2, hi => exact absurd hi2 (by omega)
        have tl : t.length = dots.length := by rw [← List.length_map (f := (·.1)), tok.ks.length_eq]
        have tkn : (t.map (·.1)).Nodup := tok.ks.nodup_iff.mpr ok.dn
        have h3 := x3' _ _ hs
        -- pair.append(dict([..]))
        refine ⟨.ref P', rfl, .inl ⟨rfl, _, Evl.sq_of p3⟩, ?_⟩
        refine ⟨src, .dK (tkv t), h3, trivial, fun od2 => ?_⟩
        obtain ⟨HS, eS, lS, upS, backS, keepS⟩ := lock_in h3 od2
        rw [← eS]
        have naS : NamesAt HS nm (ends ++ dots) nu := by
          rw [eS]
          exact (naB.to x3').up nsrc
        refine ⟨.ref src, rfl, src, od2, rfl, .inl ⟨tkv t, lS, fun Dl hDl => lc_it walk_keys (fun j H' => PairsTo HS Dl (tbN nu t) j H') (pairs_start hDl) (fun j H' _ h => h.1 _ _ lS) ?_ ?_⟩⟩
        · rintro l x H4 H4' hl pt ⟨rfl, kk2, v2, hkv2, rfl⟩
          obtain ⟨z, rfl, hz⟩ := tkv_item hkv2
          rw [tkv_len] at hl
          have zm := List.mem_of_getElem? hz
          have zd : z ∈ dots := tok.ks.mem_iff.mp (List.mem_map_of_mem (f := (·.1)) zm)
          have gz : DGet H4' src (.str z) (some v2) := dget_rd (k := Sum.inr z) (.inr ⟨od2, pt.1 _ _ lS⟩) (tkv_val tkn zm)
          have na4 := naS.to pt.1
          have hget : (tbN nu t)[l]? = some (nu z, nuV nu v2) := by
            unfold tbN
            rw [List.getElem?_map, hz]
            rfl
          have fin := pairs_step pt hDl (Evl.Ex.refl _) hget (by omega)
          refine ⟨rfl, ?_⟩
          refine yes_if ?_
          refine ⟨.ref nm, rfl, .str z, rfl, nm, .str (nu z), rfl, na4.get (inD zd), .ref src, rfl, .str z, rfl, src, v2, rfl, gz, rfl, _, rfl, ?_⟩
          have yes : ∀ y : Str, y ∈ ends ++ dots → v2 = .str y → if decide (v2 = .non) = true then tC .non [some (V.ref m), some (V.ref nm), some (V.ref R), some (V.str e), some (V.ref P'), some (V.ref src), none, some (V.str z)] H4' (fun y2 H5 => [V.str (nu z), y2].length ≤ sizeLine ∧ ∀ p, H5 p = none → (fun y H4 => ∃ acc, H4 Dl = some (.lst acc) ∧ acc.length < sizeLine ∧ PairsTo HS Dl (tbN nu t) (l + 1) (upd H4 Dl (.lst (acc ++ [y])))) (.ref p) (upd H5 p (.tup [V.str (nu z), y2])))
              else tDGet (tVar 1) (tDGet (tVar 5) (tVar 7)) [some (V.ref m), some (V.ref nm), some (V.ref R), some (V.str e), some (V.ref P'), some (V.ref src), none, some (V.str z)] H4' (fun y2 H5 => [V.str (nu z), y2].length ≤ sizeLine ∧ ∀ p, H5 p = none → (fun y H4 => ∃ acc, H4 Dl = some (.lst acc) ∧ acc.length < sizeLine ∧ PairsTo HS Dl (tbN nu t) (l + 1) (upd H4 Dl (.lst (acc ++ [y])))) (.ref p) (upd H5 p (.tup [V.str (nu z), y2]))) := by
            rintro y hy rfl
            rw [decide_eq_false (fun q => nomatch q)]
            exact iteF ⟨.ref nm, rfl, .ref src, rfl, .str z, rfl, src, .str y, rfl, gz, nm, .str (nu y), rfl, na4.get hy, fin⟩
          rcases tok.ps _ zm with q | q | ⟨y, hy, _, q⟩
          · have q' : v2 = .non := q
            subst q'
            rw [decide_eq_true rfl]
            exact iteT fin
          · exact yes e (inE he) q
          · exact yes y (inD hy) q
        rintro H4 ⟨x4', ps', hpl, d4, pr4⟩
        rw [tkv_len] at pr4 hpl
        rw [List.take_of_length_le (by unfold tbN; rw [List.length_map]; exact Nat.le_refl _)] at pr4
        refine ⟨x4' _ _ lS, ?_⟩
        have y5 := backS x4'
        have d5 := keepS x4' d4 (by intro w1 w2 z; cases z)
        have pr5 : Paired (fun p kv => (upd H4 src (.dK (tkv t))) p = some (.tup [kV kv.1, kv.2])) ps' (tkv (tbN nu t)) := Paired.mapP pr4 fun p kv hp => keepS x4' hp (by intro w1 w2 z; cases z)
        generalize upd H4 src (.dK (tkv t)) = H5 at y5 d5 pr5
        refine ⟨Dl, ps', tkv (tbN nu t), rfl, Evl.sq_of d5, Paired.mapP pr5 (fun p kv hp => Evl.st_of hp), fun a ha => ?_⟩
        have nkn : ((tbN nu t).map (·.1)).Nodup := by
          rw [tbN_keys]
          exact nu_nodup inj (fun y hy => inD (tok.ks.mem_iff.mp hy)) tkn
        rw [merge_tkv nkn]
        have y6 : Evl.Ex H5 (upd H5 a (.dK (tkv (tbN nu t)))) := Evl.Ex.new ha
        have a6 : (upd H5 a (.dK (tkv (tbN nu t)))) a = some (.dK (tkv (tbN nu t))) := upd_same
        generalize upd H5 a (.dK (tkv (tbN nu t))) = H6 at y6 a6
        have y36 := y5.trans y6
        have p6 := y36 _ _ p3
        refine ⟨P', _, .ref a, rfl, rfl, p6, by rw [List.length_map]; exact small1000 (by omega), ?_⟩
        have ke : ∀ {b : Addr} {u : HO}, H6 b = some u → (∀ l', u ≠ .lst l') → (upd H6 P' (.lst (la.map V.ref ++ [.ref a]))) b = some u := fun {b u} h ne => by
          rw [upd_ne fun q => by
            rw [q, p6] at h
            exact ne _ (Option.some.inj h).symm]
          exact h
        refine ⟨_, la ++ [a], rfl, (x3'.trans y36).mut BP, ke (y36 _ _ r3) (by intro l' z; cases z), (ma3.to y36).lst p6, by rw [List.length_append, ll]; rfl, by omega, by rw [upd_same, List.map_append]; rfl, fun j b hb => ?_⟩
        by_cases lt : j < la.length
        · rw [List.getElem?_append_left lt] at hb
          exact ke (y36 _ _ (al j b hb)) (by intro l' z; cases z)
        · have ej : j = i := by
            have := (List.getElem?_eq_some_iff.mp hb).1
            rw [List.length_append, List.length_singleton] at this
            omega
          subst ej
          rw [List.getElem?_append_right (by omega), ll, Nat.sub_self] at hb
          cases hb
          rw [← ht]
          exact ke a6 (by intro l' z; cases z)
      · rintro σ H3 ⟨x5', la, rfl, x3', r3, ma3, ll, _, p3, al⟩
        obtain ⟨a0, a1, rfl⟩ : ∃ a0 a1, la = [a0, a1] := by
          match la, ll with
          | [a0, a1], _ => exact ⟨a0, a1, rfl⟩
        have h0 := al 0 a0 rfl
        have h1 := al 1 a1 rfl
        -- rows[names[end]] = tuple(pair)
        refine ⟨.ref P', rfl, P', _, rfl, .inl ⟨Evl.sq_of p3, fun q hq => ?_⟩⟩
        have y4 : Evl.Ex H3 (upd H3 q (.tup ([a0, a1].map V.ref))) := Evl.Ex.new hq
        have q4 : (upd H3 q (.tup ([a0, a1].map V.ref))) q = some (.tup [.ref a0, .ref a1]) := upd_same
        generalize upd H3 q (.tup ([a0, a1].map V.ref)) = H4 at y4 q4
        have r4 := y4 _ _ r3
        have x4'' := x3'.trans y4
        have rsl : rs.length ≤ 2 := by
          have := congrArg List.length k1
          rw [List.length_map, List.length_take] at this
          omega
        refine ⟨.ref R, rfl, .ref nm, rfl, .str e, rfl, nm, .str (nu e), rfl, (naB.to x4'').get (inE he), R, _, rfl, DPut.k (k := Sum.inr (nu e)) r4 ?_, ?_⟩
        · rw [tkv_len]
          unfold rowsN
          rw [List.length_map]
          exact small1000 (by omega)
        have nk : nu e ∉ (rowsN nu rs).map (·.1) := by
          rw [rowsN_keys, k1]
          intro m
          obtain ⟨y, hy, ey⟩ := List.mem_map.mp m
          have := inj y (inE (List.mem_of_mem_take hy)) e (inE he) ey
          rw [this] at hy
          exact en hy
        rw [tkv_new nk]
        have ke : ∀ {b : Addr} {u : HO}, H4 b = some u → u ≠ .dK (tkv (rowsN nu rs)) → (upd H4 R (.dK (tkv (rowsN nu rs ++ [(nu e, .ref q)])))) b = some u := fun {b u} h ne => by
          rw [upd_ne fun z => by
            rw [z, r4] at h
            exact ne (Option.some.inj h).symm]
          exact h
        refine ⟨_, _, _, rs ++ [(e, q)], rfl, x4''.mut BR, ?_, by rw [List.map_append, k1, et]; rfl, ⟨fun r hr' => ?_⟩⟩
        · rw [upd_same]
          unfold rowsN
          rw [List.map_append]
          rfl
        · rcases List.mem_append.mp hr' with hr' | hr'
          · obtain ⟨b1, b2, g1, g2, g3⟩ := (ma3.to y4).all r hr'
            have re : r.1 ∈ ends := List.mem_of_mem_take (by rw [← k1]; exact List.mem_map_of_mem hr')
            obtain ⟨_, _, _, _, _, _, _, _, _, w1, w2⟩ := roB r.1 re
            exact ⟨b1, b2, ke g1 (by intro z; cases z), ke g2 (fun z => rows_no_tab w1 dne (HO.dK.inj z).symm), ke g3 (fun z => rows_no_tab w2 dne (HO.dK.inj z).symm)⟩
          · rw [List.mem_singleton.mp hr']
            exact ⟨a0, a1, ke q4 (by intro z; cases z), ke (y4 _ _ h0) (fun z => rows_no_tab to1 dne (HO.dK.inj z).symm), ke (y4 _ _ h1) (fun z => rows_no_tab to2 dne (HO.dK.inj z).symm)⟩
    · rintro σ H1 ⟨x3, x4, x5, rs, rfl, x1, r1, k1, ma1⟩
      rw [tkv_len, rl, List.take_length] at k1
      refine ⟨x1 _ _ lB, ?_⟩
      have y2 := backB x1
      have r2 := keepB x1 r1 (by intro w1 w2 z; cases z)
      have ma2 : MadeAt (upd H1 tb (.dK (tkv rows))) nu o n rs := ⟨fun q hq => let ⟨a, b, h1, h2, h3⟩ := ma1.all q hq; ⟨a, b, keepB x1 h1 (by intro w1 w2 z; cases z), keepB x1 h2 (by intro w1 w2 z; cases z), keepB x1 h3 (by intro w1 w2 z; cases z)⟩⟩
      generalize upd H1 tb (.dK (tkv rows)) = H2 at y2 r2 ma2
      -- found
      intro Fd hF
      have y3 : Evl.Ex H2 (upd H2 Fd (.dK [])) := Evl.Ex.new hF
      have f3 : (upd H2 Fd (.dK [])) Fd = some (.dK []) := upd_same
      generalize upd H2 Fd (.dK []) = H3 at y3 f3
      have x3 := y2.trans y3
      have na3 := na.to x3
      refine ⟨.ref R, rfl, .ref m, rfl, m, .ref db, rfl, dget_of (x3 _ _ MAH.hm) (mkv_dots _ _ _ _), db, rfl, ⟨_, Evl.sq_of (x3 _ _ MAH.hd)⟩, fun S hS => lc_list (K := K) (a := db) (xs := dots.map V.str)
        (fun i H' => Evl.Ex H3 H' ∧ H' S = some (.lst (((dots.take i).map nu).map V.str))) ⟨Evl.Ex.new hS, upd_same⟩ (fun i H' _ h => Evl.sq_of (h.1 _ _ (x3 _ _ MAH.hd))) ?_ ?_⟩
      · rintro i v Hx hi ⟨xx, sx⟩
        obtain ⟨z, hz, rfl⟩ := str_at hi
        obtain ⟨g1, g2⟩ := name_step na3 xx hS sx hz (inD (List.mem_of_getElem? hz)) (by omega)
        exact ⟨rfl, yes_if ⟨.ref nm, rfl, .str z, rfl, nm, _, rfl, g1, g2⟩⟩
      rintro H4 ⟨x4', s4⟩
      rw [List.length_map, List.take_length] at s4
      refine ⟨S, dots.map nu, rfl, Evl.sq_of s4, by rw [List.length_map]; omega, fun dots2 D2 hd2 so2 hD2 => ?_⟩
      have y5 : Evl.Ex H4 (upd H4 D2 (.lst (dots2.map V.str))) := Evl.Ex.new hD2
      have d5 : (upd H4 D2 (.lst (dots2.map V.str))) D2 = some (.lst (dots2.map V.str)) := upd_same
      generalize upd H4 D2 (.lst (dots2.map V.str)) = H5 at y5 d5
      have y35 := x4'.trans y5
      have f5 := y35 _ _ f3
      refine ⟨f5, [(Sum.inr "tables", .ref R), (Sum.inr "dots", .ref D2)], rfl, by show 2 ≤ 15; decide, ?_⟩
      have e1 : mergeK [] [((Sum.inr "tables" : Key), V.ref R), (Sum.inr "dots", .ref D2)] = [((Sum.inr "tables" : Key), V.ref R), (Sum.inr "dots", .ref D2)] := by kernel_rfl
      rw [e1]
      obtain ⟨fk, hfk⟩ : ∃ fk, fk = [((Sum.inr "tables" : Key), V.ref R), (Sum.inr "dots", .ref D2)] := ⟨_, rfl⟩
      rw [← hfk]
      have x26 : Evl.Ex H2 (upd H5 Fd (.dK fk)) := (y3.trans y35).mut hF
      have d6' : (upd H5 Fd (.dK fk)) D2 = some (.lst (dots2.map V.str)) := by rw [upd_ne (ne_of d5 f5 (by intro z; cases z))]; exact d5
      have f6 : (upd H5 Fd (.dK fk)) Fd = some (.dK fk) := upd_same
      generalize upd H5 Fd (.dK fk) = H6 at x26 d6' f6
      have x6 := y2.trans x26
      -- found['sources']
      have na6 := na.to x6
      have ssl : ss.length ≤ 6 := Nat.le_trans (nodup_le ss dots ok.sn ok.sd) d6
      refine ⟨.ref m, rfl, m, .ref sb, rfl, dget_of (x6 _ _ MAH.hm) (mkv_sources _ _ _ _), sb, rfl, ⟨_, Evl.sq_of (x6 _ _ MAH.hs)⟩, fun S2 hS2 => lc_list (K := K) (a := sb) (xs := ss.map V.str)
        (fun i H' => Evl.Ex H6 H' ∧ H' S2 = some (.lst (((ss.take i).map nu).map V.str))) ⟨Evl.Ex.new hS2, upd_same⟩ (fun i H' _ h => Evl.sq_of (h.1 _ _ (x6 _ _ MAH.hs))) ?_ ?_⟩
      · rintro i v Hx hi ⟨xx, sx⟩
        obtain ⟨z, hz, rfl⟩ := str_at hi
        obtain ⟨g1, g2⟩ := name_step na6 xx hS2 sx hz (inD (ok.sd z (List.mem_of_getElem? hz))) (by omega)
        exact ⟨rfl, yes_if ⟨.ref nm, rfl, .str z, rfl, nm, _, rfl, g1, g2⟩⟩
      rintro H7 ⟨x7, s7⟩
      rw [List.length_map, List.take_length] at s7
      refine ⟨S2, ss.map nu, rfl, Evl.sq_of s7, by rw [List.length_map]; omega, fun ss2 T2 hs2 sos hT2 => ?_⟩
      have y8 : Evl.Ex H7 (upd H7 T2 (.lst (ss2.map V.str))) := Evl.Ex.new hT2
      have t8 : (upd H7 T2 (.lst (ss2.map V.str))) T2 = some (.lst (ss2.map V.str)) := upd_same
      generalize upd H7 T2 (.lst (ss2.map V.str)) = H8 at y8 t8
      have y68 := x7.trans y8
      have f8 := y68 _ _ f6
      have d8 := y68 _ _ d6'
      refine ⟨.ref Fd, rfl, Fd, _, rfl, DPut.k (k := Sum.inr "sources") f8 (by rw [hfk]; show 2 < sizeLine; decide), ?_⟩
      obtain ⟨fk2, hfk2⟩ : ∃ fk2, fk2 = putK fk (Sum.inr "sources") (.ref T2) := ⟨_, rfl⟩
      rw [← hfk2]
      have e3 : fk2 = [((Sum.inr "tables" : Key), V.ref R), (Sum.inr "dots", .ref D2), (Sum.inr "sources", .ref T2)] := by rw [hfk2, hfk]; kernel_rfl
      have x29 : Evl.Ex H2 (upd H8 Fd (.dK fk2)) := (x26.trans y68).mut hF
      have d9 : (upd H8 Fd (.dK fk2)) D2 = some (.lst (dots2.map V.str)) := by rw [upd_ne (ne_of d8 f8 (by intro z; cases z))]; exact d8
      have t9 : (upd H8 Fd (.dK fk2)) T2 = some (.lst (ss2.map V.str)) := by rw [upd_ne (ne_of t8 f8 (by intro z; cases z))]; exact t8
      have f9 : (upd H8 Fd (.dK fk2)) Fd = some (.dK fk2) := upd_same
      generalize upd H8 Fd (.dK fk2) = H9 at x29 d9 t9 f9
      have x9 := y2.trans x29
      -- found['posts']
      have na9 := na.to x9
      have psl : ps.length ≤ 6 := Nat.le_trans (nodup_le ps dots ok.pn ok.pd) d6
      refine ⟨.ref m, rfl, m, .ref pb, rfl, dget_of (x9 _ _ MAH.hm) (mkv_posts _ _ _ _), pb, rfl, ⟨_, Evl.sq_of (x9 _ _ MAH.hp)⟩, fun S3 hS3 => lc_list (K := K) (a := pb) (xs := ps.map V.str)
        (fun i H' => Evl.Ex H9 H' ∧ H' S3 = some (.lst (((ps.take i).map nu).map V.str))) ⟨Evl.Ex.new hS3, upd_same⟩ (fun i H' _ h => Evl.sq_of (h.1 _ _ (x9 _ _ MAH.hp))) ?_ ?_⟩
      · rintro i v Hx hi ⟨xx, sx⟩
        obtain ⟨z, hz, rfl⟩ := str_at hi
        obtain ⟨g1, g2⟩ := name_step na9 xx hS3 sx hz (inD (ok.pd z (List.mem_of_getElem? hz))) (by omega)
        exact ⟨rfl, yes_if ⟨.ref nm, rfl, .str z, rfl, nm, _, rfl, g1, g2⟩⟩
      rintro HA ⟨xA, sA⟩
      rw [List.length_map, List.take_length] at sA
      have fA := xA _ _ f9
      have dA := xA _ _ d9
      have tA := xA _ _ t9
      refine ⟨.ref Fd, rfl, Fd, _, rfl, DPut.k (k := Sum.inr "posts") fA (by rw [e3]; show 3 < sizeLine; decide), ?_⟩
      have e4 : putK fk2 (Sum.inr "posts") (.ref S3) = mkv R D2 T2 S3 := by rw [e3]; kernel_rfl
      rw [e4]
      have x2B : Evl.Ex H2 (upd HA Fd (.dK (mkv R D2 T2 S3))) := (x29.trans xA).mut hF
      have dB : (upd HA Fd (.dK (mkv R D2 T2 S3))) D2 = some (.lst (dots2.map V.str)) := by rw [upd_ne (ne_of dA fA (by intro z; cases z))]; exact dA
      have tB' : (upd HA Fd (.dK (mkv R D2 T2 S3))) T2 = some (.lst (ss2.map V.str)) := by rw [upd_ne (ne_of tA fA (by intro z; cases z))]; exact tA
      have sB : (upd HA Fd (.dK (mkv R D2 T2 S3))) S3 = some (.lst ((ps.map nu).map V.str)) := by rw [upd_ne (ne_of sA fA (by intro z; cases z))]; exact sA
      have fB : (upd HA Fd (.dK (mkv R D2 T2 S3))) Fd = some (.dK (mkv R D2 T2 S3)) := upd_same
      generalize upd HA Fd (.dK (mkv R D2 T2 S3)) = HB2 at x2B dB tB' sB fB
      have rB := x2B _ _ r2
      have maB := ma2.to x2B
      obtain ⟨ends2, he2, se2⟩ := two_sorted (ends.map nu) (by rw [List.length_map]; exact e2)
      have kr : (rowsN nu rs).map (·.1) = ends.map nu := by rw [rowsN_keys, k1]
      have okd := hd2
      have RO : RowsAt HB2 ends2 dots2 (rowsN nu rs) (fun y => tbN nu (o (invN ends nu y))) (fun y => tbN nu (n (invN ends nu y))) := fun y hy => by
        obtain ⟨e, he, ey⟩ := List.mem_map.mp (he2.mem_iff.mp hy)
        obtain ⟨q, hq, eq⟩ := List.mem_map.mp (show e ∈ rs.map (·.1) by rw [k1]; exact he)
        obtain ⟨a, b, g1, g2, g3⟩ := maB.all q hq
        obtain ⟨_, _, _, _, _, _, _, _, _, w1, w2⟩ := roB e he
        have iv : invN ends nu y = e := by rw [← ey]; exact inv_nu (fun x hx z hz => inj x (inE hx) z (inE hz)) he
        have nkn : ((rowsN nu rs).map (·.1)).Nodup := by rw [kr]; exact nu_nodup inj (fun z hz => inE hz) ok.en
        refine ⟨q.2, a, b, tkv_val nkn ?_, ?_⟩
        · unfold rowsN
          refine List.mem_map.mpr ⟨q, hq, ?_⟩
          rw [eq, ey]
        · rw [eq] at g2 g3
          refine ⟨g1, ?_, ?_, ?_, ?_⟩
          · show HB2 a = some (.dK (tkv (tbN nu (o (invN ends nu y)))))
            rw [iv]; exact g2
          · show HB2 b = some (.dK (tkv (tbN nu (n (invN ends nu y)))))
            rw [iv]; exact g3
          · show TabOk dots2 y (tbN nu (o (invN ends nu y)))
            rw [iv, ← ey]; exact tbN_ok inj hd2 w1
          · show TabOk dots2 y (tbN nu (n (invN ends nu y)))
            rw [iv, ← ey]; exact tbN_ok inj hd2 w2
      have en2 : ends2.Nodup := he2.nodup_iff.mpr (nu_nodup inj (fun z hz => inE hz) ok.en)
      have ROk : RowsOk HB2 dots2 (rowsN nu rs) := fun q hq => by
        have mk : q.1 ∈ ends2 := he2.mem_iff.mpr (by rw [← kr]; exact List.mem_map_of_mem hq)
        obtain ⟨p, po, pn, hv, pa⟩ := RO q.1 mk
        have nkn : ((rowsN nu rs).map (·.1)).Nodup := by rw [kr]; exact nu_nodup inj (fun z hz => inE hz) ok.en
        have hv2 := tkv_val nkn (show (q.1, q.2) ∈ rowsN nu rs from hq)
        exact ⟨p, po, pn, _, _, Option.some.inj (hv2.symm.trans hv), pa⟩
      refine ⟨.ref Fd, rfl, k Fd R D2 T2 S3 ends2 dots2 ss2 (rowsN nu rs) HB2 (y2.trans x2B) ⟨fB, rB, dB, tB', sB, by rw [kr]; exact he2.symm, ROk, ?_⟩ RO he2 hd2⟩
      exact { e0 := by rw [he2.length_eq, List.length_map]; exact ok.e0, e2 := by rw [he2.length_eq, List.length_map]; exact e2, en := en2, es := se2,
              em := fun z hz => by obtain ⟨y, hy, rfl⟩ := List.mem_map.mp (he2.mem_iff.mp hz); exact na.nm_ y (inE hy),
              d0 := by rw [hd2.length_eq, List.length_map]; exact ok.d0, d6 := by rw [hd2.length_eq, List.length_map]; exact d6, dn := hd2.nodup_iff.mpr (nu_nodup inj (fun z hz => inD hz) ok.dn), ds := so2,
              dm := fun z hz => by obtain ⟨y, hy, rfl⟩ := List.mem_map.mp (hd2.mem_iff.mp hz); exact na.nm_ y (inD hy),
              ed := fun z hz hz' => by
                obtain ⟨y, hy, e1⟩ := List.mem_map.mp (he2.mem_iff.mp hz)
                obtain ⟨y', hy', e2'⟩ := List.mem_map.mp (hd2.mem_iff.mp hz')
                have := inj y (inE hy) y' (inD hy') (e1.trans e2'.symm)
                rw [this] at hy
                exact ok.ed y' hy hy',
              sn := hs2.nodup_iff.mpr (nu_nodup inj (fun z hz => inD (ok.sd z hz)) ok.sn), sss := sos,
              sd := fun z hz => by obtain ⟨y, hy, rfl⟩ := List.mem_map.mp (hs2.mem_iff.mp hz); exact hd2.mem_iff.mpr (List.mem_map_of_mem (ok.sd y hy)),
              pn := nu_nodup inj (fun z hz => inD (ok.pd z hz)) ok.pn, p2 := by rw [List.length_map]; exact ok.p2,
              pd := fun z hz => by obtain ⟨y, hy, rfl⟩ := List.mem_map.mp hz; exact hd2.mem_iff.mpr (List.mem_map_of_mem (ok.pd y hy)) }
end
end Rw
end T_A4

section T_V5
set_option Elab.async false
set_option linter.all false
set_option maxRecDepth 100000
set_option maxHeartbeats 4000000
/-! ### dict(zip(keys, values)) -/
namespace L2
open PySem PySem.Spec PyProof.Rows
theorem zip_kvs {P : Program} {w : World} : ∀ (kvs : List (Key × V)) (us1 us2 : List Value), Vals (kvs.map fun q => kV q.1) us1 → Vals (kvs.map fun q => q.2) us2 → ∃ prs : List (Key × Value), KV kvs prs ∧ prs.length = us1.length ∧ prs.length = us2.length ∧
    ∀ (i : Nat) (key v : Value), us1[i]? = some key → us2[i]? = some v → ∃ k, prs[i]? = some (k, v) ∧ (mixKind P w).is k key = true
  | [], _, _, h1, h2 => by
    cases h1
    cases h2
    exact ⟨[], .nil, rfl, rfl, fun i key v h _ => nomatch h⟩
  | q :: kvs, _, _, h1, h2 => by
    cases h1 with
    | @cons _ u1 _ r1 a1 b1 =>
      cases h2 with
      | @cons _ u2 _ r2 a2 b2 =>
        obtain ⟨prs, g1, g2, g3, g4⟩ := zip_kvs (P := P) (w := w) kvs r1 r2 b1 b2
        refine ⟨(q.1, u2) :: prs, .cons ⟨rfl, a2⟩ g1, congrArg (· + 1) g2, congrArg (· + 1) g3, fun i key v e1 e2 => ?_⟩
        cases i with
        | zero =>
          cases e1
          cases e2
          exact ⟨q.1, rfl, kV_is a1⟩
        | succ i => exact g4 i key v e1 e2
section
variable {X : Cx}
def tDictZip (K : PySem.W.Frag) (ta : TA) : TE := fun σ H Q => ta σ H fun vs H1 => ∃ (a b : Addr) (kvs : List (Key × V)), vs = [.ref a, .ref b] ∧ SqL K H1 a (kvs.map fun q => kV q.1) ∧ SqL K H1 b (kvs.map fun q => q.2) ∧ ∀ q, H1 q = none → Q (.ref q) (upd H1 q (.dK (mergeK [] kvs)))
theorem pe_dictZip {e e2 : Expr} {ta : TA} {p p2 pos pos2 : Pos} (hc : X.calm = true) (hg : Gl X "dict") (hm : X.mg "dict" = none) (hg2 : Gl X "zip") (hm2 : X.mg "zip" = none) (ha : PA X [e, e2] ta)
    (na : starEach [.Call (.Name "zip" p2) [e, e2] [] pos2] X.env = (false, eval (.Call (.Name "zip" p2) [e, e2] [] pos2) X.env) :: starEach [] X.env := by rfl)
    (hs : starEach [e, e2] X.env = (false, eval e X.env) :: starEach [e2] X.env := by rfl) (hpl : (backTo pos2 (starEach [e2] X.env)).any (·.1) = false := by rfl) :
    PE X (.Call (.Name "dict" p) [.Call (.Name "zip" p2) [e, e2] [] pos2] [] pos) (tDictZip X.K ta) := by
  refine ⟨fun pins s σ H Q I h => ?_⟩
  refine Call_ (ld_blt I hg hm (show bootBuiltins "dict" = some (Value.type "dict") by decide +kernel) (PyProof.Rows.callWith_type1 (args_cons (Call_ (ld_blt I hg2 hm2 PyProof.Rows.boot_zip (PyProof.Rows.callWith_type1 (thn (ha.run pos2 pins s σ H _ I h) fun us s1 ⟨vs, H1, I1, r1, q1⟩ => ?_) hs hpl))) na) na))
  obtain ⟨a, b, kvs, ex, hqx, hqy, q⟩ := q1
  subst ex
  cases r1 with
  | cons r rr =>
    cases rr with
    | cons r' rr =>
      cases rr
      cases r
      cases r'
      obtain ⟨its, rv, pl1, hz1⟩ := I1.list hqx
      obtain ⟨its2, rv2, pl2, hz2⟩ := I1.list hqy
      obtain ⟨prs, k1, k2, k3, k4⟩ := zip_kvs (P := X.prog) (w := X.w) kvs its its2 rv rv2
      refine call_zip_2 pl1.isList pl2.isList fun h' hz hTI hTO h1 h2 hsz hk => args_nil ?_
      have I2 : Inv X pins σ H1 { s1 with heap := h' } := I1.kept (t' := s1.toks) hk
      refine PySem.call_dict_pairs (knd := mixKind X.prog X.w) (kvs := prs) (PairArg.zip (s1.heap.objs.size + 4) (s1.heap.objs.size + 2) (s1.heap.objs.size + 3) s1.heap.objs.size (s1.heap.objs.size + 1) a b (PySem.W.ktu_apart s1.heap.objs.size a b pl1.lt pl2.lt) its.toArray its2.toArray) (I2.ok.hd hc)
        ⟨hz, hTI, ⟨_, _, hTO⟩, h1, h2, pl1.isList.at fun o e => hk _ o e, pl2.isList.at fun o e => hk _ o e⟩ ⟨by rw [k2, List.size_toArray, List.size_toArray, ← k2, k3, Nat.min_self], fun i key v e1 => k4 i key v (by simpa using e1.1) (by simpa using e1.2)⟩ ?_ fun h'' tk hd hk2 => ?_
      · rw [List.size_toArray, List.size_toArray, ← rv.length]
        exact Nat.le_trans (Nat.min_le_left _ _) hz1
      · have hlen : (mergeK [] kvs).length ≤ sizeLine := by
          refine Nat.le_trans (length_mergeK kvs []) ?_
          rw [List.length_nil, Nat.zero_add]
          have := hz1
          rw [List.length_map] at this
          exact this
        have hbig : s1.heap.objs.size ≤ h'.objs.size := by omega
        have hm' : (h'.objs.size == sysModules) = false := beq_eq_false_iff_ne.mpr (Nat.ne_of_gt (Nat.lt_of_lt_of_le I1.big hbig))
        refine ⟨.ref h'.objs.size, upd H1 h'.objs.size (.dK (mergeK [] kvs)), I1.laid (t' := tk) (fun c o e => ?_) hbig (show ObjOk X.prog X.w _ _ _ (.dK (mergeK [] kvs)) from ⟨hlen, hm', merged [] prs, KV.merge k1 .nil, hd⟩), rfl, q _ (I1.hok.fresh hbig)⟩
        have lt := Heap.lt_size e
        refine hk2 c o (fun m => ?_) (hk c o e)
        have e' : c = s1.heap.objs.size + 4 ∨ c = s1.heap.objs.size + 3 ∨ c = s1.heap.objs.size ∨ c = s1.heap.objs.size + 1 := by simpa using m
        rcases e' with z | z | z | z <;> (rw [z] at lt; first | exact absurd lt (Nat.not_lt.mpr (Nat.le_add_right _ _)) | exact absurd lt (Nat.lt_irrefl _))
end
end L2
end T_V5

section T_W1
set_option Elab.async false
set_option linter.all false
set_option maxRecDepth 100000
set_option maxHeartbeats 4000000
namespace Rw
open PySem L2 PyProof.Rows
/-- the ways at a moment at which just the nodes of on have their new ones -/
def nowTab (dots : List Str) (o n : List (Str × V)) (on : List Str) : List (Str × V) := dots.map fun z => (z, look (if z ∈ on then n else o) z)
theorem nowTab_keys (dots : List Str) (o n : List (Str × V)) (on : List Str) : (nowTab dots o n on).map (·.1) = dots := by
  unfold nowTab
  rw [List.map_map]
  exact List.map_id _
theorem nowTab_snoc (l : List Str) (z : Str) (o n : List (Str × V)) (on : List Str) : nowTab (l ++ [z]) o n on = nowTab l o n on ++ [(z, look (if z ∈ on then n else o) z)] := by
  unfold nowTab
  rw [List.map_append]
  rfl
theorem nowTab_lead {dots : List Str} {e : Str} {o n : List (Str × V)} {on : List Str} (h1 : TabOk dots e o) (h2 : TabOk dots e n) (hz : ∀ y ∈ dots, Nm y) (he : Nm e) : LeadOk dots (nowTab dots o n on) := by
  refine ⟨nowTab_keys _ _ _ _, fun q hq => ?_, hz⟩
  obtain ⟨z, hzd, rfl⟩ := List.mem_map.mp hq
  show Spot (look (if z ∈ on then n else o) z)
  by_cases m : z ∈ on
  · rw [if_pos m]; exact place_spot (look_ok h2 hzd).1 hz he
  · rw [if_neg m]; exact place_spot (look_ok h1 hzd).1 hz he
section
variable {P : Program} {w : World} {K : PySem.W.Frag} {mg : Str → Option Value} {base : Heap}
def spWay (C : Addr) : Sp := fun vs H Q _ => ∃ (m : Addr) (e z : Str) (b : Bool) (ends dots ss ps : List Str) (o n : Str → List (Str × V)), vs = [.ref m, .str e, .str z, .bl b] ∧ NetAt C H m ends dots ss ps o n ∧ ends.length ≤ 100 ∧ e ∈ ends ∧ z ∈ dots ∧
  ∀ H', Evl.Ex H H' → Q (look (if b = true then n e else o e) z) H'
abbrev nWay : List Str := ["self", "goal", "node", "is_new", "old", "new"]
theorem sc_way : FnScope nWay ["self", "goal", "node", "is_new"] (defScope c_Net_way) := ⟨rfl, rfl, rfl, by decide +kernel, rfl, by decide +kernel, by decide +kernel⟩
theorem ok_way {f C : Addr} {fd : FuncData} (F : Fun K "way" "Net.way" c_Net_way f fd) (T : NetTxt K C) (C1 : Cal P w K mg base 3 "check_goal" ["net", "goal"] (spCheckGoal C)) (C2 : Cal P w K mg base 3 "check_node" ["net", "node"] (spCheckDot C)) : FnOk P w K mg base CX0 4 f fd ["self", "goal", "node", "is_new"] (spWay C) := by
  obtain ⟨f1, fd1, F1, k1, b1, g1⟩ := C1.ex
  obtain ⟨f2, fd2, F2, k2, b2, g2⟩ := C2.ex
  refine F.ok sc_way (fun vs H Q E h => ?_) (fun cdv A outer s H vs Q E hr h => ?_)
  · obtain ⟨m, e, z, b, ends, dots, ss, ps, o, n, rfl, _⟩ := h
    rfl
  · obtain ⟨m, e, z, b, ends, dots, ss, ps, o, n, rfl, N, few, he, hz, k⟩ := h
    have nd := sc_way.nd
    have hu := hu_of hr
    refine ⟨_, pss_cons (ps_expr (pe_call F1 hr rfl g1 k1 b1 .nil pass0 (pa_cons (pv 0) (pa_cons (pv 1) pa_nil))))
      (pss_cons (ps_expr (pe_call F2 hr rfl g2 k2 b2 .nil pass0 (pa_cons (pv 0) (pa_cons (pv 2) pa_nil))))
      (pss_cons (ps_asg (pe_dget hu (pe_fld (pv 0) rfl) (pv 1) (fun _ _ => rfl)) (pg_tup rfl (pgs_cons (pg_name (i := 4) nd rfl (.inl rfl)) (pgs_cons (pg_name (i := 5) nd rfl (.inl rfl)) pgs_nil))))
      (pss_one (ps_ret (pe_ifExp (pt_val (pv 3)) (pe_dget hu (pv 5) (pv 2) (fun _ _ => rfl)) (pe_dget hu (pv 4) (pv 2) (fun _ _ => rfl))))))), ?_⟩
    refine ⟨.ref m, rfl, .str e, rfl, m, e, ends, dots, ss, ps, o, n, rfl, N, few, he, fun H1 x1 => ?_⟩
    have N1 := N.to x1
    refine ⟨.ref m, rfl, .str z, rfl, m, z, ends, dots, ss, ps, o, n, rfl, N1, hz, ?_⟩
    obtain ⟨dx, T', N', S, Po, rows, h1, h2, h3, h4, h5, h6, h7⟩ := N1.ex
    obtain ⟨p, po, pn, hv, pa⟩ := h7 e he
    have ge : DGet H1 T' (.str e) (some (.ref p)) := by
      have q := DGet.k (k := Sum.inr e) h2
      rw [hv] at q
      exact q
    have c1 := (look_ok pa.o1 hz)
    have c2 := (look_ok pa.o2 hz)
    have go : DGet H1 po (.str z) (some (look (o e) z)) := by
      have q := DGet.k (k := Sum.inr z) pa.ho
      rw [c1.2, look_canon hz] at q
      exact q
    have gn : DGet H1 pn (.str z) (some (look (n e) z)) := by
      have q := DGet.k (k := Sum.inr z) pa.hn
      rw [c2.2, look_canon hz] at q
      exact q
    have kk := k H1 x1
    refine ⟨.ref m, rfl, m, C, dx, _, .ref T', rfl, h1, T.cl, T.nT, nflds_tables _ _ _ _, .str e, rfl, T', _, rfl, ge, p, _, rfl, Evl.st_of pa.hp, rfl, _, _, rfl, _, [], rfl, rfl, ?_⟩
    cases b with
    | true => exact ⟨.bl true, rfl, true, rfl, iteT ⟨.ref pn, rfl, .str z, rfl, pn, _, rfl, gn, kk⟩⟩
    | false => exact ⟨.bl false, rfl, false, rfl, iteF ⟨.ref po, rfl, .str z, rfl, po, _, rfl, go, kk⟩⟩
end
end Rw
end T_W1

section T_W3
set_option Elab.async false
set_option linter.all false
set_option maxRecDepth 100000
set_option maxHeartbeats 4000000
/-! ways_at as it stands from 57648cc on: by the tables themselves -/
namespace Rw
open PySem L2 PyProof.Rows
section
variable {P : Program} {w : World} {K : PySem.W.Frag} {mg : Str → Option Value} {base : Heap}
theorem dgK {H : Hp} {a : Addr} {kvs : List (Key × V)} {k : Key} {v : V} (h : H a = some (.dK kvs)) (hv : valV kvs k = some v) : DGet H a (kV k) (some v) := by
  have := DGet.k (k := k) h
  rw [hv] at this
  exact this
def spWaysAt (C : Addr) : Sp := fun vs H Q _ => ∃ (m a b : Addr) (e : Str) (zs ys ends dots ss ps : List Str) (o n : Str → List (Str × V)), vs = [.ref m, .ref a, .ref b, .str e] ∧ NetAt C H m ends dots ss ps o n ∧ ends.length ≤ 100 ∧ ends.Nodup ∧ dots.length ≤ 100 ∧ dots.Nodup ∧ e ∈ ends ∧
  SqT K H a (zs.map V.str) ∧ SqT K H b (ys.map V.str) ∧ ∀ D H', Evl.Ex H H' → H D = none → H' D = some (.dK (tkv (nowTab dots (o e) (n e) (zs ++ ys)))) → Q (.ref D) H'
abbrev nWaysAt : List Str := ["net", "done", "changed", "goal", "old", "new", "node"]
theorem sc_ways_at : FnScope nWaysAt ["net", "done", "changed", "goal"] (defScope p_ways_at) := ⟨rfl, rfl, rfl, by decide +kernel, rfl, by decide +kernel, by decide +kernel⟩
theorem ok_ways_at {f C : Addr} {fd : FuncData} (F : Fun K "ways_at" "ways_at" p_ways_at f fd) (T : NetTxt K C) (P1 : Prp P w K mg base C 1 "tables" (spTabs C)) (Pg : Prp P w K mg base C 1 "nodes" (spDots C)) :
    FnOk P w K mg base CX0 3 f fd ["net", "done", "changed", "goal"] (spWaysAt (K := K) C) := by
  obtain ⟨p1, g1, fd1, at1, F1, b1⟩ := P1.ex
  obtain ⟨p2, g2, fd2, at2, F2, b2⟩ := Pg.ex
  refine F.ok sc_ways_at (fun vs H Q E h => ?_) (fun cdv A outer s H vs Q E hr h => ?_)
  · obtain ⟨m, a, b, e, zs, ys, ends, dots, ss, ps, o, n, rfl, _⟩ := h
    rfl
  · obtain ⟨m, a, b, e, zs, ys, ends, dots, ss, ps, o, n, rfl, N, few, en, few2, dn, he, ha, hb, k⟩ := h
    have nd := sc_ways_at.nd
    have hu := hu_of hr
    refine ⟨_, pss_cons (ps_asg (pe_dget hu (pe_prop (pv 0) T.cl at1 F1 hr b1 .nil pass0 rfl) (pv 3) (fun _ _ => rfl)) (pg_tup rfl (pgs_cons (pg_name (i := 4) nd rfl (.inr rfl)) (pgs_cons (pg_name (i := 5) nd rfl (.inr rfl)) pgs_nil))))
      (pss_one (ps_ret (pe_dc (own := [("node", 6)]) (g := gName 6) (tt := tYes) (tk := tVar 6)
          (tv := tIf (tOr (tTest (tOp (rIn K false) (tVar 6) (tVar 1))) (tTest (tOp (rIn K false) (tVar 6) (tVar 2)))) (tDGet (tVar 5) (tVar 6)) (tDGet (tVar 4) (tVar 6))) rfl nd (pi_tup (pe_prop (pv 0) T.cl at2 F2 hr b2 .nil pass0 rfl)) (blkOk_by (own := [("node", 6)]) (N := nWaysAt) (sc := defScope p_ways_at) (by decide +kernel))
        (fun _ _ _ _ _ => pg_name (i := 6) nd rfl (Or.inl rfl)) (fun _ _ _ _ _ => pts_nil) (fun _ _ _ _ _ => pv 6)
        (fun _ _ _ _ _ => pe_ifExp (PW.pt (pw_or (pt_cmpR op_in_seq (pv 6) (pv 1) rfl) (pw_or1 (pt_cmpR op_in_seq (pv 6) (pv 2) rfl)))) (pe_dget hu (pv 5) (pv 6) (fun _ _ => rfl)) (pe_dget hu (pv 4) (pv 6) (fun _ _ => rfl)))))), ?_⟩
    have N2 := N
    obtain ⟨dx, T', N', S, Po, rows, h1, h2, h3, h4, h5, h6, h7⟩ := N.ex
    have e0 : 0 < ends.length := List.length_pos_of_mem he
    refine ⟨.ref m, rfl, m, dx, _, rfl, h1, m, ends, dots, ss, ps, o, n, rfl, N2, e0, few, en, fun D0 Tb H0 x0 hD0 TA => ?_⟩
    obtain ⟨t, ht, et⟩ : ∃ t ∈ Tb, t.1 = e := by
      rw [← TA.ks] at he
      obtain ⟨t, ht, e2⟩ := List.mem_map.mp he
      exact ⟨t, ht, e2⟩
    obtain ⟨pa, _⟩ := TA.pa t ht
    have hv := TA.get en ht
    rw [et] at pa hv
    refine ⟨.str e, rfl, D0, _, rfl, dgK (k := Sum.inr e) TA.hd hv, t.2.1, _, rfl, Evl.st_of pa.hp, rfl, _, _, rfl, _, [], rfl, rfl, ?_⟩
    refine ⟨.ref m, rfl, m, dx, _, rfl, x0 _ _ h1, m, ends, dots, ss, ps, o, n, rfl, N2.to x0, fun q hq => ⟨q, rfl, ⟨_, Evl.st_of hq⟩, fun D hD => dc_tup (K := K) (a := q) (xs := dots.map V.str)
      (fun i H' => i ≤ dots.length ∧ Evl.Ex H0 H' ∧ H' D = some (.dK (tkv (nowTab (dots.take i) (o e) (n e) (zs ++ ys))))) ⟨Nat.zero_le _, Evl.Ex.new hD, upd_same⟩ (fun i H' _ h => Evl.st_of (h.2.1 _ _ hq)) ?_ ?_⟩⟩
    · rintro i x H1 hi ⟨_, x1, d1⟩
      obtain ⟨z, hz, rfl⟩ := str_at hi
      have hil : i < dots.length := (List.getElem?_eq_some_iff.mp hz).1
      have zd := List.mem_of_getElem? hz
      have et : dots.take (i + 1) = dots.take i ++ [z] := by rw [List.take_add_one, hz]; rfl
      have zn : z ∉ dots.take i := fun hm => by
        have h1 : (dots.take (i + 1)).Nodup := dn.sublist (List.take_sublist _ _)
        rw [et] at h1
        exact (List.nodup_append.mp h1).2.2 z hm z (List.mem_singleton.mpr rfl) rfl
      have c1 := look_ok pa.o1 zd
      have c2 := look_ok pa.o2 zd
      have go : DGet H1 t.2.2.1 (.str z) (some (look (o e) z)) := by
        have := dgK (k := Sum.inr z) (x1 _ _ pa.ho) c1.2
        rw [look_canon zd] at this
        exact this
      have gn : DGet H1 t.2.2.2 (.str z) (some (look (n e) z)) := by
        have := dgK (k := Sum.inr z) (x1 _ _ pa.hn) c2.2
        rw [look_canon zd] at this
        exact this
      refine ⟨rfl, ?_⟩
      refine yes_if ?_
      refine ⟨.str z, rfl, ?_⟩
      have fin : ∀ v : V, v = look (if z ∈ zs ++ ys then n e else o e) z → ∃ kvs k, V.str z = kV k ∧ H1 D = some (.dK kvs) ∧ kvs.length < sizeLine ∧
          (i + 1 ≤ dots.length ∧ Evl.Ex H0 (upd H1 D (.dK (putK kvs k v))) ∧ (upd H1 D (.dK (putK kvs k v))) D = some (.dK (tkv (nowTab (dots.take (i + 1)) (o e) (n e) (zs ++ ys))))) := by
        rintro v rfl
        refine ⟨_, Sum.inr z, rfl, d1, ?_, hil, x1.mut hD, ?_⟩
        · rw [tkv_len]
          unfold nowTab
          rw [List.length_map, List.length_take]
          exact small1000 (by omega)
        · rw [upd_same, tkv_new (by rw [nowTab_keys]; exact zn), et, nowTab_snoc]
      refine ⟨.str z, rfl, .ref a, rfl, a, zs.map V.str, rfl, .inr (Evl.ex_t (x0.trans x1) ha), rfl, flat_strs zs, ?_⟩
      rw [inV_str]
      by_cases m1 : z ∈ zs
      · rw [decide_eq_true m1]
        refine ⟨true, rfl, iteT (iteT ?_)⟩
        exact ⟨.ref t.2.2.2, rfl, .str z, rfl, t.2.2.2, _, rfl, gn, fin _ (by rw [if_pos (List.mem_append_left _ m1)])⟩
      · rw [decide_eq_false m1]
        refine ⟨false, rfl, iteF ?_⟩
        refine ⟨.str z, rfl, .ref b, rfl, b, ys.map V.str, rfl, .inr (Evl.ex_t (x0.trans x1) hb), rfl, flat_strs ys, ?_⟩
        rw [inV_str]
        by_cases m2 : z ∈ ys
        · rw [decide_eq_true m2]
          refine ⟨true, rfl, iteT ?_⟩
          exact ⟨.ref t.2.2.2, rfl, .str z, rfl, t.2.2.2, _, rfl, gn, fin _ (by rw [if_pos (List.mem_append_right _ m2)])⟩
        · rw [decide_eq_false m2]
          refine ⟨false, rfl, iteF ?_⟩
          exact ⟨.ref t.2.2.1, rfl, .str z, rfl, t.2.2.1, _, rfl, go, fin _ (by rw [if_neg (fun h => (List.mem_append.mp h).elim m1 m2)])⟩
    · rintro H1 ⟨_, x1, d1⟩
      rw [List.length_map, List.take_length] at d1
      exact k D _ (x0.trans x1) (ex_none x0 hD) d1
end
end Rw
end T_W3

section T_W2
set_option Elab.async false
set_option linter.all false
set_option maxRecDepth 100000
set_option maxHeartbeats 4000000
namespace Rw
open PySem L2 PyProof.Rows
theorem nowTab_leadC {dots : List Str} {e : Str} {o n : List (Str × V)} {on : List Str} (h1 : TabOk dots e (canon dots o)) (h2 : TabOk dots e (canon dots n)) (hz : ∀ y ∈ dots, Nm y) (he : Nm e) : LeadOk dots (nowTab dots o n on) := by
  refine ⟨nowTab_keys _ _ _ _, fun q hq => ?_, hz⟩
  obtain ⟨z, hzd, rfl⟩ := List.mem_map.mp hq
  show Spot (look (if z ∈ on then n else o) z)
  by_cases m : z ∈ on
  · rw [if_pos m, ← look_canon hzd]; exact place_spot (look_ok h2 hzd).1 hz he
  · rw [if_neg m, ← look_canon hzd]; exact place_spot (look_ok h1 hzd).1 hz he
section
variable {P : Program} {w : World} {K : PySem.W.Frag} {mg : Str → Option Value} {base : Heap}
def spLed (C : Addr) : Sp := fun vs H Q _ => ∃ (m a b : Addr) (e z : Str) (zs ys ends dots ss ps : List Str) (o n : Str → List (Str × V)), vs = [.ref m, .ref a, .ref b, .str e, .str z] ∧ NetAt C H m ends dots ss ps o n ∧ ModelOk ends dots ss ps ∧ e ∈ ends ∧ z ∈ dots ∧
  LotAt H a zs (moving ends dots o n) ∧ LotAt H b ys (moving ends dots o n) ∧ (∀ y ∈ ys, y ∉ zs) ∧ ∀ p H', Evl.Ex H H' → H p = none → H' p = some (.lst (walkOf (nowTab dots (o e) (n e) (zs ++ ys)) (dots.length + 1) z)) → Q (.ref p) H'
abbrev nLed : List Str := ["net", "done", "changed", "goal", "node"]
theorem sc_led : FnScope nLed ["net", "done", "changed", "goal", "node"] (defScope p_led) := ⟨rfl, rfl, rfl, by decide +kernel, rfl, by decide +kernel, by decide +kernel⟩
theorem ok_led {f C : Addr} {fd : FuncData} (F : Fun K "led" "led" p_led f fd) (C1 : Cal P w K mg base 5 "check_round" ["net", "done", "lot", "part"] (spRound C)) (C2 : Cal P w K mg base 3 "check_goal" ["net", "goal"] (spCheckGoal C)) (C3 : Cal P w K mg base 3 "check_node" ["net", "node"] (spCheckDot C))
    (C4 : Cal P w K mg base 3 "ways_at" ["net", "done", "changed", "goal"] (spWaysAt (K := K) C)) (C5 : Cal P w K mg base 1 "followed" ["table", "node"] spFollowed) : FnOk P w K mg base CX0 6 f fd ["net", "done", "changed", "goal", "node"] (spLed C) := by
  obtain ⟨f1, fd1, F1, k1, b1, g1⟩ := C1.ex
  obtain ⟨f2, fd2, F2, k2, b2, g2⟩ := C2.ex
  obtain ⟨f3, fd3, F3, k3, b3, g3⟩ := C3.ex
  obtain ⟨f4, fd4, F4, k4, b4, g4⟩ := C4.ex
  obtain ⟨f5, fd5, F5, k5, b5, g5⟩ := C5.ex
  refine F.ok sc_led (fun vs H Q E h => ?_) (fun cdv A outer s H vs Q E hr h => ?_)
  · obtain ⟨m, a, b, e, z, zs, ys, ends, dots, ss, ps, o, n, rfl, _⟩ := h
    rfl
  · obtain ⟨m, a, b, e, z, zs, ys, ends, dots, ss, ps, o, n, rfl, N, ok, he, hz, La, Lb, dis, k⟩ := h
    have hr3 : Room 3 _ := hr.mono (by decide)
    have hr1 : Room 1 _ := hr.mono (by decide)
    have e2 := ok.e2
    have d6 := ok.d6
    refine ⟨_, pss_cons (ps_expr (pe_call F1 hr rfl g1 k1 b1 .nil pass0 (pa_cons (pv 0) (pa_cons (pv 1) (pa_cons (pv 2) (pa_cons pe_str pa_nil))))))
      (pss_cons (ps_expr (pe_call F2 hr3 rfl g2 k2 b2 .nil pass0 (pa_cons (pv 0) (pa_cons (pv 3) pa_nil))))
      (pss_cons (ps_expr (pe_call F3 hr3 rfl g3 k3 b3 .nil pass0 (pa_cons (pv 0) (pa_cons (pv 4) pa_nil))))
      (pss_one (ps_ret (pe_call F5 hr1 rfl g5 k5 b5 .nil pass0 (pa_cons (pe_call F4 hr3 rfl g4 k4 b4 .nil pass0 (pa_cons (pv 0) (pa_cons (pv 1) (pa_cons (pv 2) (pa_cons (pv 3) pa_nil))))) (pa_cons (pv 4) pa_nil))))))), ?_⟩
    refine ⟨.ref m, rfl, .ref a, rfl, .ref b, rfl, m, a, b, _, zs, ys, ends, dots, ss, ps, o, n, rfl, N, by omega, by omega, ok.en, La, Lb, dis, fun H1 x1 => ?_⟩
    have N1 := N.to x1
    refine ⟨.ref m, rfl, .str e, rfl, m, e, ends, dots, ss, ps, o, n, rfl, N1, by omega, he, fun H2 x2 => ?_⟩
    have N2 := N1.to x2
    have x12 := x1.trans x2
    refine ⟨.ref m, rfl, .str z, rfl, m, z, ends, dots, ss, ps, o, n, rfl, N2, hz, ?_⟩
    refine ⟨.ref m, rfl, .ref a, rfl, .ref b, rfl, .str e, rfl, m, a, b, e, zs, ys, ends, dots, ss, ps, o, n, rfl, N2, by omega, ok.en, by omega, ok.dn, he, Evl.st_of (x12 _ _ La.ha), Evl.st_of (x12 _ _ Lb.ha), fun D H3 x3 hD hD3 => ?_⟩
    obtain ⟨dx, T', N', S, Po, rows, h1, h2, h3, h4, h5, h6, h7⟩ := N.ex
    obtain ⟨q, po, pn, hv, pa⟩ := h7 e he
    exact ⟨.str z, rfl, D, z, dots, _, rfl, hD3, nowTab_leadC pa.o1 pa.o2 ok.dm (ok.em e he), by omega, ok.dm z hz, fun p H4 x4 hp hp4 => k p H4 (x12.trans (x3.trans x4)) (ex_none (x12.trans x3) hp) hp4⟩
end
end Rw
end T_W2

section T_A5
set_option Elab.async false
set_option linter.all false
set_option maxRecDepth 100000
set_option maxHeartbeats 8000000
namespace Rw
open PySem PySem.Spec L2 PyProof.Rows
theorem names_zip {l ws : List Str} (nl : l.Nodup) (nw : ws.Nodup) (len : ws.length = l.length) : ∃ (nt : List (Str × V)) (nu : Str → Str), nt.map (·.1) = l ∧ nt.map (·.2) = ws.map V.str ∧ (∀ z ∈ l, valV (tkv nt) (Sum.inr z) = some (.str (nu z)) ∧ nu z ∈ ws) ∧ ∀ x ∈ l, ∀ y ∈ l, nu x = nu y → x = y := by
  have k1 : ((l.zip ws).map fun q => (q.1, V.str q.2)).map (·.1) = l := by
    rw [List.map_map]
    show (l.zip ws).map (·.1) = l
    exact List.map_fst_zip (by omega)
  have k2 : ((l.zip ws).map fun q => (q.1, V.str q.2)).map (·.2) = ws.map V.str := by
    rw [List.map_map]
    show (l.zip ws).map (V.str ∘ (·.2)) = _
    rw [← List.map_map]
    exact congrArg (List.map V.str) (List.map_snd_zip (by omega))
  have at_ : ∀ z ∈ l, ∃ (i : Nat) (y : Str), l[i]? = some z ∧ ws[i]? = some y ∧ valV (tkv ((l.zip ws).map fun q => (q.1, V.str q.2))) (Sum.inr z) = some (.str y) := fun z hz => by
    obtain ⟨i, hi, e⟩ := List.getElem_of_mem hz
    have hw : i < ws.length := by omega
    refine ⟨i, ws[i], by rw [List.getElem?_eq_getElem hi, e], List.getElem?_eq_getElem hw, tkv_val (by rw [k1]; exact nl) ?_⟩
    refine List.mem_map.mpr ⟨(z, ws[i]), ?_, rfl⟩
    refine List.mem_of_getElem? (i := i) ?_
    rw [List.getElem?_zip_eq_some]
    exact ⟨by rw [List.getElem?_eq_getElem hi, e], List.getElem?_eq_getElem hw⟩
  refine ⟨_, fun z => txtOf ((valV (tkv ((l.zip ws).map fun q => (q.1, V.str q.2))) (Sum.inr z)).getD .non), k1, k2, fun z hz => ?_, fun x hx y hy e => ?_⟩
  · obtain ⟨i, y, h1, h2, h3⟩ := at_ z hz
    have ey : txtOf ((valV (tkv ((l.zip ws).map fun q => (q.1, V.str q.2))) (Sum.inr z)).getD .non) = y := by rw [h3]; rfl
    refine ⟨?_, ?_⟩
    · rw [h3]
      exact congrArg (fun t => some (V.str t)) ey.symm
    · show txtOf _ ∈ ws
      rw [ey]
      exact List.mem_of_getElem? h2
  · obtain ⟨i, u, h1, h2, h3⟩ := at_ x hx
    obtain ⟨j, v, g1, g2, g3⟩ := at_ y hy
    have e' : u = v := by
      have e2 : txtOf ((valV (tkv ((l.zip ws).map fun q => (q.1, V.str q.2))) (Sum.inr x)).getD .non) = txtOf ((valV (tkv ((l.zip ws).map fun q => (q.1, V.str q.2))) (Sum.inr y)).getD .non) := e
      rw [h3, g3] at e2
      exact e2
    subst e'
    have ij : i = j := (List.getElem?_inj (List.getElem?_eq_some_iff.mp h2).1 nw).mp (h2.trans g2.symm)
    subst ij
    exact Option.some.inj (h1.symm.trans g1)
section
variable {nu : Str → Str} {ends dots ss ps ends2 dots2 : List Str} {o n : Str → List (Str × V)} {e : Str} {zs ys zs2 ys2 : List Str}
theorem place_in (he : e ∈ ends) {z : Str} {v : V} (h : PlaceOk dots e z v) : In (ends ++ dots) v := by
  rcases h with rfl | rfl | ⟨y, hy, _, rfl⟩
  · exact .inl rfl
  · exact .inr ⟨e, List.mem_append_left _ he, rfl⟩
  · exact .inr ⟨y, List.mem_append_right _ hy, rfl⟩
/-- the tables of the twin -/
abbrev oN (ends : List Str) (nu : Str → Str) (o : Str → List (Str × V)) : Str → List (Str × V) := fun y => tbN nu (o (invN ends nu y))
theorem oN_look (inj : ∀ x ∈ ends ++ dots, ∀ y ∈ ends ++ dots, nu x = nu y → x = y) (dn : dots.Nodup) (he : e ∈ ends) (h : TabOk dots e (o e)) {z : Str} (hz : z ∈ dots) : look (oN ends nu o (nu e)) (nu z) = nuV nu (look (o e) z) := by
  show look (tbN nu (o (invN ends nu (nu e)))) (nu z) = _
  rw [inv_nu (fun x hx y hy => inj x (List.mem_append_left _ hx) y (List.mem_append_left _ hy)) he]
  exact tbN_look inj dn h hz
theorem moving_twin (inj : ∀ x ∈ ends ++ dots, ∀ y ∈ ends ++ dots, nu x = nu y → x = y) (dn : dots.Nodup) (t1 : ∀ e ∈ ends, TabOk dots e (o e) ∧ TabOk dots e (n e)) (hd : dots2.Perm (dots.map nu)) (he : ends2.Perm (ends.map nu)) {z : Str} (h : z ∈ moving ends dots o n) :
    nu z ∈ moving ends2 dots2 (oN ends nu o) (oN ends nu n) := by
  obtain ⟨zd, hz⟩ := List.mem_filter.mp h
  refine List.mem_filter.mpr ⟨hd.mem_iff.mpr (List.mem_map_of_mem zd), ?_⟩
  obtain ⟨b, hb, eb⟩ := List.any_eq_true.mp hz
  unfold diffB at hb
  obtain ⟨e, ee, rfl⟩ := List.mem_map.mp hb
  refine List.any_eq_true.mpr ⟨_, List.mem_map.mpr ⟨nu e, he.mem_iff.mpr (List.mem_map_of_mem ee), rfl⟩, ?_⟩
  rw [oN_look inj dn ee (t1 e ee).1 zd, oN_look inj dn ee (t1 e ee).2 zd]
  have ne : look (o e) z ≠ look (n e) z := fun q => by
    have eb' : (!decide (look (o e) z = look (n e) z)) = true := eb
    rw [decide_eq_true q] at eb'
    cases eb'
  rw [decide_eq_false fun q => ne (nuV_inj inj (place_in ee (look_ok (t1 e ee).1 zd).1) (place_in ee (look_ok (t1 e ee).2 zd).1) q)]
  rfl
theorem twin_of (inj : ∀ x ∈ ends ++ dots, ∀ y ∈ ends ++ dots, nu x = nu y → x = y) (dn : dots.Nodup) (he : e ∈ ends) (t1 : TabOk dots e (o e)) (t2 : TabOk dots e (n e)) (hd : dots2.Perm (dots.map nu)) (hz : zs2.Perm (zs.map nu)) (hy : ys2.Perm (ys.map nu)) (sz : ∀ z ∈ zs, z ∈ dots) (sy : ∀ z ∈ ys, z ∈ dots) :
    Twin nu (ends ++ dots) dots (spotsOf (o e) (n e) zs ys) dots2 (spotsOf (oN ends nu o (nu e)) (oN ends nu n (nu e)) zs2 ys2) := by
  have m1 : ∀ z ∈ dots, nu z ∈ zs2 ↔ z ∈ zs := fun z zd => by rw [hz.mem_iff]; exact nu_mem inj (fun y hy => List.mem_append_right _ (sz y hy)) (List.mem_append_right _ zd)
  have m2 : ∀ z ∈ dots, nu z ∈ ys2 ↔ z ∈ ys := fun z zd => by rw [hy.mem_iff]; exact nu_mem inj (fun y hy => List.mem_append_right _ (sy y hy)) (List.mem_append_right _ zd)
  refine ⟨inj, fun z h => List.mem_append_right _ h, hd, fun z zd v hv => ?_, fun z zd => ?_⟩
  · rcases mem_spots.mp hv with ⟨_, rfl⟩ | ⟨_, rfl⟩
    · exact place_in he (look_ok t1 zd).1
    · exact place_in he (look_ok t2 zd).1
  · have a := oN_look inj dn he t1 zd
    have b := oN_look inj dn he t2 zd
    have ab : look (oN ends nu o (nu e)) (nu z) = look (oN ends nu n (nu e)) (nu z) ↔ look (o e) z = look (n e) z := by
      rw [a, b]
      exact ⟨nuV_inj inj (place_in he (look_ok t1 zd).1) (place_in he (look_ok t2 zd).1), fun q => by rw [q]⟩
    unfold spotsOf
    by_cases q1 : z ∈ zs
    · rw [if_pos q1, if_pos ((m1 z zd).mpr q1), b]
      rfl
    · rw [if_neg q1, if_neg (fun q => q1 ((m1 z zd).mp q))]
      by_cases q2 : (decide (z ∈ ys) && !decide (look (o e) z = look (n e) z)) = true
      · have q3 : (decide (nu z ∈ ys2) && !decide (look (oN ends nu o (nu e)) (nu z) = look (oN ends nu n (nu e)) (nu z))) = true := by
          rw [decide_eq_decide.mpr (m2 z zd), decide_eq_decide.mpr ab]
          exact q2
        rw [if_pos q2, if_pos q3, a, b]
        rfl
      · have q3 : ¬ (decide (nu z ∈ ys2) && !decide (look (oN ends nu o (nu e)) (nu z) = look (oN ends nu n (nu e)) (nu z))) = true := by
          rw [decide_eq_decide.mpr (m2 z zd), decide_eq_decide.mpr ab]
          exact q2
        rw [if_neg q2, if_neg q3, a]
        rfl
theorem walk_twin (inj : ∀ x ∈ ends ++ dots, ∀ y ∈ ends ++ dots, nu x = nu y → x = y) (dn : dots.Nodup) (ed : ∀ z ∈ ends, z ∉ dots) (he : e ∈ ends) (t1 : TabOk dots e (o e)) (t2 : TabOk dots e (n e)) (hd : dots2.Perm (dots.map nu)) {us us2 : List Str} (hu : ∀ z ∈ dots, nu z ∈ us2 ↔ z ∈ us) {z : Str} (hz : z ∈ dots) :
    walkOf (nowTab dots2 (oN ends nu o (nu e)) (oN ends nu n (nu e)) us2) (dots2.length + 1) (nu z) = (walkOf (nowTab dots (o e) (n e) us) (dots.length + 1) z).map (nuV nu) := by
  have dl : dots2.length = dots.length := by rw [hd.length_eq, List.length_map]
  rw [dl]
  have get : ∀ y ∈ dots, valV (tkv (nowTab dots (o e) (n e) us)) (Sum.inr y) = some (look (if y ∈ us then n e else o e) y) := fun y hy => tkv_val (by rw [nowTab_keys]; exact dn) (List.mem_map.mpr ⟨y, hy, rfl⟩)
  have dn2 : dots2.Nodup := hd.nodup_iff.mpr (nu_nodup inj (fun z hz => List.mem_append_right _ hz) dn)
  have get2 : ∀ y ∈ dots2, valV (tkv (nowTab dots2 (oN ends nu o (nu e)) (oN ends nu n (nu e)) us2)) (Sum.inr y) = some (look (if y ∈ us2 then oN ends nu n (nu e) else oN ends nu o (nu e)) y) := fun y hy => tkv_val (by rw [nowTab_keys]; exact dn2) (List.mem_map.mpr ⟨y, hy, rfl⟩)
  refine track_twin (S := ends ++ dots) inj (fun y hy v hv => ?_) (fun y hy => ?_) (dots.length + 1) [] (.str z) (fun z hz => nomatch hz) (.inr ⟨z, List.mem_append_right _ hz, rfl⟩)
  · by_cases yd : y ∈ dots
    · rw [get y yd] at hv
      rw [← Option.some.inj hv]
      by_cases q : y ∈ us
      · rw [if_pos q]; exact place_in he (look_ok t2 yd).1
      · rw [if_neg q]; exact place_in he (look_ok t1 yd).1
    · rw [tkv_none (by rw [nowTab_keys]; exact yd)] at hv
      cases hv
  · by_cases yd : y ∈ dots
    · rw [get y yd, get2 (nu y) (hd.mem_iff.mpr (List.mem_map_of_mem yd))]
      by_cases q : y ∈ us
      · rw [if_pos q, if_pos ((hu y yd).mpr q), oN_look inj dn he t2 yd]
        rfl
      · rw [if_neg q, if_neg (fun w => q ((hu y yd).mp w)), oN_look inj dn he t1 yd]
        rfl
    · have n1 : valV (tkv (nowTab dots (o e) (n e) us)) (Sum.inr y) = none := tkv_none (by rw [nowTab_keys]; exact yd)
      have n2 : valV (tkv (nowTab dots2 (oN ends nu o (nu e)) (oN ends nu n (nu e)) us2)) (Sum.inr (nu y)) = none := tkv_none (by
        rw [nowTab_keys]
        intro m
        obtain ⟨x, hx, ex⟩ := List.mem_map.mp (hd.mem_iff.mp m)
        have := inj x (List.mem_append_right _ hx) y hy ex
        rw [this] at hx
        exact yd hx)
      rw [n1, n2]
      rfl
end
theorem nuV_spot {nu : Str → Str} {S : List Str} (nm : ∀ z ∈ S, Nm (nu z)) {v : V} (h : In S v) : Spot (nuV nu v) := by
  rcases h with rfl | ⟨y, hy, rfl⟩
  · exact .inl rfl
  · exact .inr ⟨nu y, rfl, nm y hy⟩
/-- one place of a list, under the other names -/
theorem place_step {H0 Hx : Hp} {S nm : Addr} {Sn : List Str} {vs : List V} {nu : Str → Str} {i : Nat} {v : V} {a b : TE} (na : NamesAt H0 nm Sn nu) (x : Evl.Ex H0 Hx) (hS : H0 S = none) (s : Hx S = some (.lst ((vs.take i).map (nuV nu)))) (hv : vs[i]? = some v) (inn : In Sn v) (few : vs.length ≤ 100) :
    (v = .non ∨ ∃ y, v = .str y ∧ DGet Hx nm (.str y) (some (.str (nu y)))) ∧ ∃ acc, Hx S = some (.lst acc) ∧ acc.length < sizeLine ∧ (Evl.Ex H0 (upd Hx S (.lst (acc ++ [nuV nu v]))) ∧ (upd Hx S (.lst (acc ++ [nuV nu v]))) S = some (.lst ((vs.take (i + 1)).map (nuV nu)))) := by
  refine ⟨?_, _, s, ?_, x.mut hS, ?_⟩
  · rcases inn with rfl | ⟨y, hy, rfl⟩
    · exact .inl rfl
    · exact .inr ⟨y, rfl, (na.to x).get hy⟩
  · rw [List.length_map, List.length_take]
    exact small1000 (by omega)
  · rw [upd_same, List.take_add_one, hv, List.map_append]
    rfl
theorem reach_data {K : PySem.W.Frag} {H : Hp} {p a : Addr} {xs : List Str} {b1 b2 : Bool} (hp : H p = some (.tup [.ref a, .bl b1, .bl b2])) (ha : H a = some (.tup (xs.map V.str))) : Dp K H (.ref p) (.tuple [.tuple (xs.map PyData.str), .bool b1, .bool b2]) :=
  .tup (Evl.st_of hp) (.cons (.tup (Evl.st_of ha) (dp_names xs)) (.cons (.bl b1) (.cons (.bl b2) .nil)))
theorem reach_lay {xs : List Str} {b1 b2 : Bool} (h : ∀ z ∈ xs, Nm z) : SeqAt.shaped (.tuple [.tuple (xs.map PyData.str), .bool b1, .bool b2]) = true ∧ (PyData.tuple [.tuple (xs.map PyData.str), .bool b1, .bool b2]).canLay0 = true := by
  obtain ⟨g1, g2⟩ := names_lay xs h
  have c : PyData.canLayAll0 [.tuple (xs.map PyData.str), .bool b1, .bool b2] = true := by
    show (PyData.canLayAll0 (xs.map PyData.str) && (true && (true && true))) = true
    rw [g1]
    rfl
  refine ⟨shaped_tup c ?_, c⟩
  show max (PyData.depthAll (xs.map PyData.str) + 1) (max 0 (max 0 0)) ≤ 60
  rw [g2]
  decide
/-- what a walk tells are places of these names -/
theorem track_in {S : List Str} {tb : List (Str × V)} (h : ∀ q ∈ tb, In S q.2) : ∀ (k : Nat) (zs : List Str) (v : V), (∀ z ∈ zs, z ∈ S) → In S v → ∀ u ∈ track tb k zs v, In S u := by
  intro k
  have base : ∀ (zs : List Str) (v : V), (∀ z ∈ zs, z ∈ S) → In S v → ∀ u ∈ zs.map V.str ++ [v], In S u := fun zs v hz hv u hu => by
    rcases List.mem_append.mp hu with hu | hu
    · obtain ⟨z, hz', rfl⟩ := List.mem_map.mp hu
      exact .inr ⟨z, hz z hz', rfl⟩
    · rw [List.mem_singleton.mp hu]
      exact hv
  induction k with
  | zero => exact base
  | succ k ih =>
    intro zs v hz hv u hu
    rcases hv with rfl | ⟨y, hy, rfl⟩
    · rw [track_non] at hu
      exact base zs .non hz (.inl rfl) u hu
    · cases q : valV (tkv tb) (Sum.inr y) with
      | none =>
        rw [track_out q] at hu
        exact base zs _ hz (.inr ⟨y, hy, rfl⟩) u hu
      | some w =>
        by_cases m : y ∈ zs
        · rw [track_ring m] at hu
          exact base zs _ hz (.inr ⟨y, hy, rfl⟩) u hu
        · rw [track_on q m] at hu
          refine ih (zs ++ [y]) w (fun z hz' => ?_) ?_ u hu
          · rcases List.mem_append.mp hz' with hz' | hz'
            · exact hz z hz'
            · rw [List.mem_singleton.mp hz']; exact hy
          · have hk : y ∈ tb.map (·.1) := by
              by_cases hm : y ∈ tb.map (·.1)
              · exact hm
              · rw [tkv_none hm] at q; cases q
            obtain ⟨w', h1, h2⟩ := tkv_some hk
            rw [q] at h1
            rw [Option.some.inj h1]
            exact h _ h2
end Rw
end T_A5

section T_A6
set_option Elab.async false
set_option linter.all false
set_option maxRecDepth 100000
set_option maxHeartbeats 8000000
namespace Rw
open PySem PySem.Spec L2 PyProof.Rows
section
variable {P : Program} {w : World} {K : PySem.W.Frag} {mg : Str → Option Value} {base : Heap}
def spNamedRight (C : Addr) : Sp := fun vs H Q _ => ∃ (d g c m tb db sb pb nt ra rb : Addr) (e : Str) (zs ys ends dots ss ps : List Str) (rows : List (Str × V)) (o n : Str → List (Str × V)), vs = [.ref d, .ref m, .ref nt, .ref ra, .ref rb, .str e] ∧ DrawAt H d g c ∧ ModelAt (off d g H) m tb db sb pb ends dots ss ps rows ∧ RowsAt (off d g H) ends dots rows o n ∧
  NetAt C (off d g H) nt ends dots ss ps o n ∧ e ∈ ends ∧ LotAt (off d g H) ra zs (moving ends dots o n) ∧ LotAt (off d g H) rb ys (moving ends dots o n) ∧ (∀ y ∈ ys, y ∉ zs) ∧ ∀ H', DrawAt H' d g c → Evl.Ex (off d g H) (off d g H') → Q (.bl true) H'
abbrev nNR : List Str := ["draw", "model", "made", "ready", "part", "end", "old", "names", "twin", "ready_too", "part_too", "here", "there", "dot", "walk", "some", "does_come", "is_lost", "due", "uno", "duo", "spot", "one"]
theorem sc_nr : FnScope nNR ["draw", "model", "made", "ready", "part", "end"] (defScope s_named_right) := ⟨rfl, rfl, rfl, by decide +kernel, rfl, by decide +kernel, by decide +kernel⟩
abbrev tSpot (i j : Nat) : TE := tIf (tTest (tOp rIsNon (tVar j) (tC .non))) (tC .non) (tDGet (tVar i) (tVar j))
theorem ok_named_right {f C : Addr} {fd : FuncData} (F : Fun K "_law_named_right" "_law_named_right" s_named_right f fd) (CW : Cal P w K mg base 4 "_law_words" ["draw", "count"] (spWords K)) (CM : Cal P w K mg base 1 "_law_named" ["model", "names"] spNamed) (CP : Cal P w K mg base 6 "_law_net" ["model"] (spNetP C))
    (CY : Cal P w K mg base 6 "ways" ["net", "done", "lot", "goal"] (spMix C)) (CL : Cal P w K mg base 6 "led" ["net", "done", "changed", "goal", "node"] (spLed C)) (CR : Cal P w K mg base 7 "reached" ["net", "done", "lot", "goal", "node"] (spReached C)) (CG : Cal P w K mg base 7 "ring" ["net", "done", "lot", "goal"] (spRing C))
    (mSorted : mg "sorted" = none) (mDict : mg "dict" = none) (mZip : mg "zip" = none) (mLen : mg "len" = none) (mTup : mg "tuple" = none) : FnOk P w K mg base CX0 8 f fd ["draw", "model", "made", "ready", "part", "end"] (spNamedRight C) := by
  obtain ⟨fW, fdW, WD, kW, bW, gW⟩ := CW.ex
  obtain ⟨fM, fdM, NM, kM, bM, gM⟩ := CM.ex
  obtain ⟨fQ, fdQ, NP, kQ, bQ, gQ⟩ := CP.ex
  obtain ⟨fY, fdY, WY, kY, bY, gY⟩ := CY.ex
  obtain ⟨fL, fdL, LD, kL, bL, gL⟩ := CL.ex
  obtain ⟨fR, fdR, RD, kR, bR, gR⟩ := CR.ex
  obtain ⟨fG, fdG, RG, kG, bG, gG⟩ := CG.ex
  refine F.ok sc_nr (fun vs H Q E h => ?_) (fun cdv A outer s H vs Q E hr h => ?_)
  · obtain ⟨d, g, c, m, tb, db, sb, pb, nt, ra, rb, e, zs, ys, ends, dots, ss, ps, rows, o, n, rfl, _⟩ := h
    rfl
  · obtain ⟨d, g, c, m, tb, db, sb, pb, nt, ra, rb, e, zs, ys, ends, dots, ss, ps, rows, o, n, rfl, D, MA, ro, N, he, La, Lb, dis, k⟩ := h
    have nd := sc_nr.nd
    have hu := hu_of hr
    have hr1 : Room 1 _ := hr.mono (by decide)
    have hr4 : Room 4 _ := hr.mono (by decide)
    have hr6 : Room 6 _ := hr.mono (by decide)
    refine ⟨_, PSs.nox (pss_cons (ps_set (i := 6) nd rfl (.inl rfl) (pe_op op_cat (pe_callB (call_sortedD rfl) (by rfl) mSorted (by decide +kernel) (pa_cons (pe_dget hu (pv 1) pe_str (fun _ _ => rfl)) pa_nil)) (pe_dget hu (pv 1) pe_str (fun _ _ => rfl))))
      (pss_cons (ps_set (i := 7) nd rfl (.inr rfl) (pe_dictZip (by rfl) (by rfl) mDict (by rfl) mZip (pa_cons (pv 6) (pa_cons (pe_call WD hr4 rfl gW kW bW .nil pass0 (pa_cons (pv 0) (pa_cons (pe_callB call_len (by rfl) mLen PySem.boot_len (pa_cons (pv 6) pa_nil)) pa_nil))) pa_nil))))
      (pss_cons (ps_set (i := 8) nd rfl (.inl rfl) (pe_call NP hr6 rfl gQ kQ bQ .nil pass0 (pa_cons (pe_call NM hr1 rfl gM kM bM .nil pass0 (pa_cons (pv 1) (pa_cons (pv 7) pa_nil))) pa_nil)))
      (pss_cons (ps_set (i := 9) nd rfl (.inl rfl) (pe_callTy call_tuple_of (by rfl) mTup (by decide +kernel) (pa_cons (pe_callB cr_sortedS (by rfl) mSorted (by decide +kernel) (pa_cons
          (pe_lc (own := [("dot", 13)]) (g := gName 13) (tt := tYes) (te := tDGet (tVar 7) (tVar 13)) rfl nd (pi_tup (pv 3)) (blkOk_by (own := [("dot", 13)]) (N := nNR) (sc := defScope s_named_right) (by decide +kernel)) (fun _ _ _ _ _ => pg_name (i := 13) nd rfl (Or.inl rfl)) (fun _ _ _ _ _ => pts_nil) (fun _ _ _ _ _ => pe_dget hu (pv 7) (pv 13) (fun _ _ => rfl))) pa_nil)) pa_nil)))
      (pss_cons (ps_set (i := 10) nd rfl (.inl rfl) (pe_callTy call_tuple_of (by rfl) mTup (by decide +kernel) (pa_cons (pe_callB cr_sortedS (by rfl) mSorted (by decide +kernel) (pa_cons
          (pe_lc (own := [("dot", 13)]) (g := gName 13) (tt := tYes) (te := tDGet (tVar 7) (tVar 13)) rfl nd (pi_tup (pv 4)) (blkOk_by (own := [("dot", 13)]) (N := nNR) (sc := defScope s_named_right) (by decide +kernel)) (fun _ _ _ _ _ => pg_name (i := 13) nd rfl (Or.inl rfl)) (fun _ _ _ _ _ => pts_nil) (fun _ _ _ _ _ => pe_dget hu (pv 7) (pv 13) (fun _ _ => rfl))) pa_nil)) pa_nil)))
      (pss_cons (ps_par (i := 11) (j := 12) (by rfl) nd rfl rfl (by decide) rfl rfl (pa_cons (pe_call WY hr6 rfl gY kY bY .nil pass0 (pa_cons (pv 2) (pa_cons (pv 3) (pa_cons (pv 4) (pa_cons (pv 5) pa_nil))))) (pa_cons (pe_call WY hr6 rfl gY kY bY .nil pass0 (pa_cons (pv 8) (pa_cons (pv 9) (pa_cons (pv 10) (pa_cons (pe_dget hu (pv 7) (pv 5) (fun _ _ => rfl)) pa_nil))))) pa_nil)) (by rfl))
      (pss_cons (ps_lock (ps_for PassesOwn.never rfl (pi_keys (pv 11)) (pg_name (i := 13) nd rfl (.inl rfl))
        (pss_cons (ps_if (pt_cmpR (op_neD hr.units) (pe_lc (own := [("spot", 21)]) (g := gName 21) (tt := tYes) (te := tSpot 7 21) rfl nd (pi_list (pe_dget hu (pv 11) (pv 13) (fun _ _ => rfl))) (blkOk_by (own := [("spot", 21)]) (N := nNR) (sc := defScope s_named_right) (by decide +kernel)) (fun _ _ _ _ _ => pg_name (i := 21) nd rfl (Or.inl rfl)) (fun _ _ _ _ _ => pts_nil)
              (fun _ _ _ _ _ => pe_ifExp (pt_cmpR op_isN (pv 21) pe_non (nomark _)) pe_non (pe_dget hu (pv 7) (pv 21) (fun _ _ => rfl)))) (pe_dget hu (pv 12) (pe_dget hu (pv 7) (pv 13) (fun _ _ => rfl)) (fun _ _ => rfl)) (nomark _)) (pss_one (ps_ret pe_bl)) pss_nil)
        (pss_cons (ps_setLc (i := 14) (own := [("spot", 21)]) (g := gName 21) (tt := tYes) (te := tSpot 7 21) (by rfl) nd rfl rfl (sw_true rfl rfl rfl (by decide +kernel)) (pi_list (pe_call LD hr6 rfl gL kL bL .nil pass0 (pa_cons (pv 2) (pa_cons (pv 3) (pa_cons (pv 4) (pa_cons (pv 5) (pa_cons (pv 13) pa_nil))))))) (blkOk_by (own := [("spot", 21)]) (N := nNR) (sc := defScope s_named_right) (by decide +kernel)) (fun _ _ _ _ _ => pg_name (i := 21) nd rfl (Or.inl rfl)) (fun _ _ _ _ _ => pts_nil)
              (fun _ _ _ _ _ => pe_ifExp (pt_cmpR op_isN (pv 21) pe_non (nomark _)) pe_non (pe_dget hu (pv 7) (pv 21) (fun _ _ => rfl))))
        (pss_cons (ps_if (pt_cmpR (op_neD hr.units) (pe_call LD hr6 rfl gL kL bL .nil pass0 (pa_cons (pv 8) (pa_cons (pv 9) (pa_cons (pv 10) (pa_cons (pe_dget hu (pv 7) (pv 5) (fun _ _ => rfl)) (pa_cons (pe_dget hu (pv 7) (pv 13) (fun _ _ => rfl)) pa_nil)))))) (pv 14) (nomark _)) (pss_one (ps_ret pe_bl)) pss_nil)
        (pss_cons (ps_asg (pe_call RD hr rfl gR kR bR .nil pass0 (pa_cons (pv 2) (pa_cons (pv 3) (pa_cons (pv 4) (pa_cons (pv 5) (pa_cons (pv 13) pa_nil)))))) (pg_tup rfl (pgs_cons (pg_name (i := 15) nd rfl (.inl rfl)) (pgs_cons (pg_name (i := 16) nd rfl (.inl rfl)) (pgs_cons (pg_name (i := 17) nd rfl (.inl rfl)) pgs_nil)))))
        (pss_cons (ps_set (i := 18) nd rfl (.inl rfl) (pe_tup (pa_cons (pe_callTy call_tuple_of (by rfl) mTup (by decide +kernel) (pa_cons (pe_callB cr_sortedS (by rfl) mSorted (by decide +kernel) (pa_cons
              (pe_lc (own := [("one", 22)]) (g := gName 22) (tt := tYes) (te := tDGet (tVar 7) (tVar 22)) rfl nd (pi_tup (pv 15)) (blkOk_by (own := [("one", 22)]) (N := nNR) (sc := defScope s_named_right) (by decide +kernel)) (fun _ _ _ _ _ => pg_name (i := 22) nd rfl (Or.inl rfl)) (fun _ _ _ _ _ => pts_nil) (fun _ _ _ _ _ => pe_dget hu (pv 7) (pv 22) (fun _ _ => rfl))) pa_nil)) pa_nil)) (pa_cons (pv 16) (pa_cons (pv 17) pa_nil)))))
        (pss_one (ps_if (pt_cmpR (op_neD hr.units) (pe_call RD hr rfl gR kR bR .nil pass0 (pa_cons (pv 8) (pa_cons (pv 9) (pa_cons (pv 10) (pa_cons (pe_dget hu (pv 7) (pv 5) (fun _ _ => rfl)) (pa_cons (pe_dget hu (pv 7) (pv 13) (fun _ _ => rfl)) pa_nil)))))) (pv 18) (nomark _)) (pss_one (ps_ret pe_bl)) pss_nil)))))))))
      (pss_cons (ps_par (i := 19) (j := 20) (by rfl) nd rfl rfl (by decide) rfl rfl (pa_cons (pe_call RG hr rfl gG kG bG .nil pass0 (pa_cons (pv 2) (pa_cons (pv 3) (pa_cons (pv 4) (pa_cons (pv 5) pa_nil))))) (pa_cons (pe_call RG hr rfl gG kG bG .nil pass0 (pa_cons (pv 8) (pa_cons (pv 9) (pa_cons (pv 10) (pa_cons (pe_dget hu (pv 7) (pv 5) (fun _ _ => rfl)) pa_nil))))) pa_nil)) (by rfl))
      (pss_one (ps_ret (pe_and (pe_cmpR op_eq (pe_cmpR op_isN (pv 19) pe_non (nomark _)) (pe_cmpR op_isN (pv 20) pe_non (nomark _)) (nomark _)) (pe_one (pe_or (pe_cmpR op_isN (pv 19) pe_non (nomark _))
        (pe_one (pe_cmpR op_eq (pe_callB call_len (by rfl) mLen PySem.boot_len (pa_cons (pv 19) pa_nil)) (pe_callB call_len (by rfl) mLen PySem.boot_len (pa_cons (pv 20) pa_nil)) (nomark _)))))))))))))))), ?_⟩
    have ok := MA.ok
    have e2 := ok.e2
    have d6 := ok.d6
    have za := La.few
    have ya := Lb.few
    have H_ : ∀ {Hx : Hp} {a : Addr} {u : HO}, Evl.Ex (off d g H) (off d g Hx) → off d g H a = some u → Hx a = some u := fun {Hx a u} x h => (off_some (x _ _ h)).2.2
    have r0 := Evl.Ex.refl (off d g H)
    have tabs : ∀ e ∈ ends, TabOk dots e (o e) ∧ TabOk dots e (n e) := fun e he => by
      obtain ⟨_, _, _, _, pa⟩ := ro e he
      exact ⟨pa.o1, pa.o2⟩
    obtain ⟨to1, to2⟩ := tabs e he
    -- old
    refine ⟨.ref m, rfl, m, .ref tb, rfl, dget_of (H_ r0 MA.hm) (mkv_tables _ _ _ _), tb, tkv rows, rows.map (·.1), rfl, .inl (H_ r0 MA.ht), ?_, by rw [MA.rk]; omega, fun es sl hes hsort hsl => ?_⟩
    · unfold tkv
      rw [List.map_map, List.map_map]
      rfl
    rw [MA.rk] at hes
    have ees : es = ends := sorted_uniq hsort ok.es hes
    subst ees
    obtain ⟨D1, x1, s1, _, y1⟩ := off_new (o := .lst (es.map V.str)) D r0 hsl
    have raw1 : (upd H sl (.lst (es.map V.str))) sl = some (.lst (es.map V.str)) := upd_same
    generalize upd H sl (.lst (es.map V.str)) = H1 at D1 x1 s1 y1 raw1
    refine ⟨.ref m, rfl, m, .ref db, rfl, dget_of (H_ x1 MA.hm) (mkv_dots _ _ _ _), sl, db, es.map V.str, dots.map V.str, rfl, rfl, raw1, H_ x1 MA.hd, by rw [List.length_map, List.length_map]; exact Nat.le_of_lt (small1000 (by omega)), fun ol hol => ?_⟩
    rw [← List.map_append]
    obtain ⟨D2, x2, s2, _, y2⟩ := off_new (o := .lst ((es ++ dots).map V.str)) D1 x1 hol
    have raw2 : (upd H1 ol (.lst ((es ++ dots).map V.str))) ol = some (.lst ((es ++ dots).map V.str)) := upd_same
    generalize upd H1 ol (.lst ((es ++ dots).map V.str)) = H2 at D2 x2 s2 y2 raw2
    have sn : (es ++ dots).Nodup := List.nodup_append.mpr ⟨ok.en, ok.dn, fun a ha b hb q => ok.ed a ha (q ▸ hb)⟩
    have sl8 : (es ++ dots).length ≤ 8 := by rw [List.length_append]; omega
    -- names
    refine ⟨.ref ol, rfl, .ref d, rfl, .ref ol, rfl, .ref ol, ((es ++ dots).map V.str).length, rfl, .inl ⟨_, Evl.sq_of raw2, rfl⟩, ?_⟩
    rw [List.length_map]
    refine ⟨d, g, c, (es ++ dots).length, rfl, D2, by omega, fun wl ws H3 wlen wnd wnm D3 x3 _ hwl => ?_⟩
    obtain ⟨nt2, nu, k1, k2, k3, inj⟩ := names_zip sn wnd wlen
    have X3 := x2.trans x3
    have s3 := x3 _ _ s2
    refine ⟨ol, wl, tkv nt2, rfl, ?_, ?_, fun nm hnm => ?_⟩
    · have := (off_some s3).2.2
      rw [← k1, ← tkv_keysV] at this
      exact Evl.sq_of this
    · have := (off_some hwl).2.2
      rw [← k2] at this
      have e1 : (tkv nt2).map (fun q => q.2) = nt2.map (·.2) := by
        unfold tkv
        rw [List.map_map]
        rfl
      rw [e1]
      exact Evl.sq_of this
    rw [merge_tkv (by rw [k1]; exact sn)]
    have nm0 : off d g H3 nm = none := off_free hnm
    have MA3 := MA.ex X3
    have ro3 := ro.ex X3
    have D4 := D3.new (o := .dK (tkv nt2)) hnm
    have y4 : Evl.Ex H3 (upd H3 nm (.dK (tkv nt2))) := Evl.Ex.new hnm
    have nm4 : (upd H3 nm (.dK (tkv nt2))) nm = some (.dK (tkv nt2)) := upd_same
    generalize upd H3 nm (.dK (tkv nt2)) = H4 at D4 y4 nm4
    have X4 := X3.trans (off_ex (d := d) (g := g) y4)
    have na : NamesAt H4 nm (es ++ dots) nu := ⟨⟨nt2, nm4, fun z hz => (k3 z hz).1⟩, fun z hz => wnm _ (k3 z hz).2, inj⟩
    have fin : ∀ {Hx : Hp}, Evl.Ex H4 Hx → Q (.bl true) Hx := fun {Hx} x => k Hx (D4.ext x) (X4.trans (off_ex x))
    have N4 : NetAt C H4 nt es dots ss ps o n := (N.to X4).to (ex_off d g H4)
    have La4 : LotAt H4 ra zs (moving es dots o n) := (La.ex X4).ex (ex_off d g H4)
    have Lb4 : LotAt H4 rb ys (moving es dots o n) := (Lb.ex X4).ex (ex_off d g H4)
    have xb4 : Evl.Ex (off d g H3) H4 := (ex_off d g H3).trans y4
    clear k
    -- twin
    refine ⟨.ref m, rfl, .ref nm, rfl, off d g H3, m, tb, db, sb, pb, nm, es, dots, ss, ps, rows, o, n, nu, rfl, xb4, nm0, MA3, ro3, na, fun m2 tb2 db2 sb2 pb2 ends2 dots2 ss2 rows2 H5 x5 MP RO2 he2 hd2 => ?_⟩
    refine ⟨m2, tb2, db2, sb2, pb2, ends2, dots2, ss2, ps.map nu, rows2, oN es nu o, oN es nu n, rfl, MP, RO2, fun tw H6 x6 htw NT => ?_⟩
    have NT6 : NetAt C H6 tw ends2 dots2 ss2 (ps.map nu) (oN es nu o) (oN es nu n) := NT.to (rest_ex _ _)
    have ok2 := MP.ok
    have x46 := x5.trans x6
    have na6 := na.to x46
    have inE : ∀ {z : Str}, z ∈ es → z ∈ es ++ dots := fun h => List.mem_append_left _ h
    have inD : ∀ {z : Str}, z ∈ dots → z ∈ es ++ dots := fun h => List.mem_append_right _ h
    have mvd : ∀ {z : Str}, z ∈ moving es dots o n → z ∈ dots := fun h => (List.mem_filter.mp h).1
    have tl1 : TabOk dots2 (nu e) (oN es nu o (nu e)) ∧ TabOk dots2 (nu e) (oN es nu n (nu e)) := by
      obtain ⟨_, _, _, _, pa⟩ := RO2 (nu e) (he2.mem_iff.mpr (List.mem_map_of_mem he))
      exact ⟨pa.o1, pa.o2⟩
    have he2' : nu e ∈ ends2 := he2.mem_iff.mpr (List.mem_map_of_mem he)
    -- a lot under the other names
    have lotN : ∀ {us us2 : List Str} {a b : Addr} {Hx Hy : Hp}, LotAt Hx a us (moving es dots o n) → us2.Perm (us.map nu) → sortedS us2 = true → Hy b = some (.tup (us2.map V.str)) → LotAt Hy b us2 (moving ends2 dots2 (oN es nu o) (oN es nu n)) := fun {us us2 a b Hx Hy} l hp hs hb =>
      ⟨hb, fun z hz => by obtain ⟨y, hy, rfl⟩ := List.mem_map.mp (hp.mem_iff.mp hz); exact moving_twin inj ok.dn tabs hd2 he2 (l.sub y hy), hp.nodup_iff.mpr (nu_nodup inj (fun z hz => inD (mvd (l.sub z hz))) l.nd), hs,
        fun z hz => by obtain ⟨y, hy, rfl⟩ := List.mem_map.mp (hp.mem_iff.mp hz); exact na.nm_ y (inD (mvd (l.sub y hy))), by rw [hp.length_eq, List.length_map]; exact l.few⟩
    -- ready_too
    have r6 := x46 _ _ La4.ha
    refine ⟨.ref ra, rfl, ra, rfl, ⟨_, Evl.st_of r6⟩, fun S hS => lc_tup (K := K) (a := ra) (xs := zs.map V.str)
      (fun i H' => Evl.Ex H6 H' ∧ H' S = some (.lst (((zs.take i).map nu).map V.str))) ⟨Evl.Ex.new hS, upd_same⟩ (fun i H' _ h => Evl.st_of (h.1 _ _ r6)) ?_ ?_⟩
    · rintro i v Hx hi ⟨xx, sx⟩
      obtain ⟨z, hz, rfl⟩ := str_at hi
      obtain ⟨g1, g2⟩ := name_step na6 xx hS sx hz (inD (mvd (La4.sub z (List.mem_of_getElem? hz)))) (by omega)
      exact ⟨rfl, yes_if ⟨.ref nm, rfl, .str z, rfl, nm, _, rfl, g1, g2⟩⟩
    rintro H7 ⟨x7, s7⟩
    rw [List.length_map, List.take_length] at s7
    refine ⟨S, zs.map nu, rfl, Evl.sq_of s7, by rw [List.length_map]; omega, fun zs2 T1 hz2 so1 hT1 => ?_⟩
    refine ⟨T1, _, rfl, .inl ⟨Evl.sq_of upd_same, fun rt hrt => ?_⟩⟩
    have y8 : Evl.Ex H7 (upd (upd H7 T1 (.lst (zs2.map V.str))) rt (.tup (zs2.map V.str))) := (Evl.Ex.new hT1).trans (Evl.Ex.new hrt)
    have t8 : (upd (upd H7 T1 (.lst (zs2.map V.str))) rt (.tup (zs2.map V.str))) rt = some (.tup (zs2.map V.str)) := upd_same
    generalize upd (upd H7 T1 (.lst (zs2.map V.str))) rt (.tup (zs2.map V.str)) = H8 at y8 t8
    have x68 := x7.trans y8
    have L1 := lotN La4 hz2 so1 t8
    -- part_too
    have q8 := (x46.trans x68) _ _ Lb4.ha
    have na8 := na6.to x68
    refine ⟨.ref rb, rfl, rb, rfl, ⟨_, Evl.st_of q8⟩, fun S2 hS2 => lc_tup (K := K) (a := rb) (xs := ys.map V.str)
      (fun i H' => Evl.Ex H8 H' ∧ H' S2 = some (.lst (((ys.take i).map nu).map V.str))) ⟨Evl.Ex.new hS2, upd_same⟩ (fun i H' _ h => Evl.st_of (h.1 _ _ q8)) ?_ ?_⟩
    · rintro i v Hx hi ⟨xx, sx⟩
      obtain ⟨z, hz, rfl⟩ := str_at hi
      obtain ⟨g1, g2⟩ := name_step na8 xx hS2 sx hz (inD (mvd (Lb4.sub z (List.mem_of_getElem? hz)))) (by omega)
      exact ⟨rfl, yes_if ⟨.ref nm, rfl, .str z, rfl, nm, _, rfl, g1, g2⟩⟩
    rintro H9 ⟨x9, s9⟩
    rw [List.length_map, List.take_length] at s9
    refine ⟨S2, ys.map nu, rfl, Evl.sq_of s9, by rw [List.length_map]; omega, fun ys2 T2 hy2 so2 hT2 => ?_⟩
    refine ⟨T2, _, rfl, .inl ⟨Evl.sq_of upd_same, fun qt hqt => ?_⟩⟩
    have yA : Evl.Ex H9 (upd (upd H9 T2 (.lst (ys2.map V.str))) qt (.tup (ys2.map V.str))) := (Evl.Ex.new hT2).trans (Evl.Ex.new hqt)
    have tA : (upd (upd H9 T2 (.lst (ys2.map V.str))) qt (.tup (ys2.map V.str))) qt = some (.tup (ys2.map V.str)) := upd_same
    generalize upd (upd H9 T2 (.lst (ys2.map V.str))) qt (.tup (ys2.map V.str)) = HA at yA tA
    have x8A := x9.trans yA
    have L2' := lotN Lb4 hy2 so2 tA
    have L1A := L1.ex x8A
    have x4A := (x46.trans x68).trans x8A
    have NTA := NT6.to (x68.trans x8A)
    have naA := na8.to x8A
    have dis2 : ∀ y ∈ ys2, y ∉ zs2 := fun y hy hz => by
      obtain ⟨a, ha, ea⟩ := List.mem_map.mp (hy2.mem_iff.mp hy)
      obtain ⟨b, hb, eb⟩ := List.mem_map.mp (hz2.mem_iff.mp hz)
      have := inj a (inD (mvd (Lb4.sub a ha))) b (inD (mvd (La4.sub b hb))) (ea.trans eb.symm)
      rw [this] at ha
      exact dis b ha hb
    have NA := N4.to x4A
    have LaA := La4.ex x4A
    have LbA := Lb4.ex x4A
    have finA : ∀ {Hx : Hp}, Evl.Ex HA Hx → Q (.bl true) Hx := fun {Hx} x => fin (x4A.trans x)
    have gA : ∀ {Hx : Hp} {z : Str}, Evl.Ex HA Hx → z ∈ es ++ dots → DGet Hx nm (.str z) (some (.str (nu z))) := fun {Hx z} x h => (naA.to x).get h
    obtain ⟨f, hf⟩ : ∃ f, f = spotsOf (o e) (n e) zs ys := ⟨_, rfl⟩
    obtain ⟨f2, hf2⟩ : ∃ f2, f2 = spotsOf (oN es nu o (nu e)) (oN es nu n (nu e)) zs2 ys2 := ⟨_, rfl⟩
    have TW : Twin nu (es ++ dots) dots f dots2 f2 := by
      rw [hf, hf2]
      exact twin_of inj ok.dn he to1 to2 hd2 hz2 hy2 (fun z h => mvd (La4.sub z h)) (fun z h => mvd (Lb4.sub z h))
    have W : Webs dots f := by rw [hf]; exact webs_of ok he to1 to2
    -- here, there
    refine ⟨.ref nt, rfl, .ref ra, rfl, .ref rb, rfl, .str e, rfl, nt, ra, rb, e, zs, ys, es, dots, ss, ps, o, n, rfl, NA, ok, he, LaA, LbA, dis, fun DH HB xB hDH MH => ?_⟩
    refine ⟨.ref tw, rfl, .ref rt, rfl, .ref qt, rfl, .ref nm, rfl, .str e, rfl, nm, .str (nu e), rfl, gA xB (inE he), tw, rt, qt, nu e, zs2, ys2, ends2, dots2, ss2, ps.map nu, oN es nu o, oN es nu n, rfl, NTA.to xB, ok2, he2', L1A.ex xB, L2'.ex xB, dis2, fun DT HC xC hDT MT => ⟨_, _, rfl, ?_⟩⟩
    rw [← hf] at MH
    rw [← hf2] at MT
    have MHC := MH.to xC
    have xAC := xB.trans xC
    -- for dot in here
    obtain ⟨rs, r1, r2, rr⟩ := MHC.ex
    have rl : rs.length = dots.length := by rw [← r2, List.length_map]
    have nDT : DT ≠ DH := fun q => by
      obtain ⟨rs', q1, _, _⟩ := MH.ex
      rw [q, q1] at hDT
      cases hDT
    have awayD : ∀ {a : Addr} {u : HO}, HA a = some u → a ≠ DH := fun {a u} h q => by rw [q, hDH] at h; cases h
    refine ⟨DH, .dK (tkv rs), r1, trivial, fun od => ?_⟩
    obtain ⟨HL, eL, lL, upL, backL, keepL⟩ := lock_in r1 od
    rw [← eL]
    have xAL : Evl.Ex HA HL := fun a u h => upL (xAC _ _ h) (awayD h)
    have lst : ∀ {a : Addr} {vs : List V}, HC a = some (.lst vs) → HL a = some (.lst vs) := fun {a vs} h => upL h (ne_of h r1 (by intro z; cases z))
    have MHL : MixR HL DH dots f := ⟨rs, .inr ⟨od, lL⟩, r2, fun q hq => let ⟨l, e1, _, e3⟩ := rr q hq; ⟨l, e1, lst e3⟩⟩
    have MTL : MixR HL DT dots2 f2 := by
      obtain ⟨rs', q1, q2, q3⟩ := MT.ex
      exact ⟨rs', .inl (upL q1 nDT), q2, fun q hq => let ⟨l, e1, _, e3⟩ := q3 q hq; ⟨l, e1, lst e3⟩⟩
    refine ⟨.ref DH, rfl, DH, od, rfl, .inl ⟨tkv rs, lL, for_it walk_keys
      (fun j σ H' => ∃ x13 x14 x15 x16 x17 x18 : Option V, σ = [some (.ref d), some (.ref m), some (.ref nt), some (.ref ra), some (.ref rb), some (.str e), some (.ref ol), some (.ref nm), some (.ref tw), some (.ref rt), some (.ref qt), some (.ref DH), some (.ref DT), x13, x14, x15, x16, x17, x18, none, none, none, none] ∧ Evl.Ex HL H')
      ⟨_, _, _, _, _, _, rfl, Evl.Ex.refl _⟩ (fun j σ H' _ ⟨_, _, _, _, _, _, _, x⟩ => x _ _ lL) ?_ ?_⟩⟩
    · rintro j x σ HD HD' hj ⟨x13, x14, x15, x16, x17, x18, rfl, xD⟩ ⟨rfl, kk, v, hkv, rfl⟩
      rw [tkv_len, rl] at hj
      obtain ⟨z, hz, rfl⟩ := key_at r2 hkv
      have zd := List.mem_of_getElem? hz
      have zd2 : nu z ∈ dots2 := TW.dot zd
      have xAD := xAL.trans xD
      have spz : ∀ v ∈ f z, In (es ++ dots) v := TW.sp z zd
      -- [.. for spot in here[dot]] != there[names[dot]]
      obtain ⟨lh, gh, hlh⟩ := (MHL.to xD).get zd
      have naD := naA.to xAD
      have two := W.two z zd
      refine ⟨.ref DH, rfl, .str z, rfl, DH, .ref lh, rfl, gh, lh, rfl, ⟨_, Evl.sq_of hlh⟩, fun S3 hS3 => lc_list (K := K) (a := lh) (xs := f z)
        (fun i H' => Evl.Ex HD' H' ∧ H' S3 = some (.lst (((f z).take i).map (nuV nu)))) ⟨Evl.Ex.new hS3, upd_same⟩ (fun i H' _ h => Evl.sq_of (h.1 _ _ hlh)) ?_ ?_⟩
      · rintro i v Hx hi ⟨xx, sx⟩
        obtain ⟨g1, g2⟩ := place_step (a := tC .non) (b := tC .non) naD xx hS3 sx hi (spz v (List.mem_of_getElem? hi)) (by omega)
        refine ⟨rfl, ?_⟩
        refine yes_if ?_
        rcases g1 with rfl | ⟨y, rfl, gy⟩
        · exact ⟨.non, rfl, rfl, _, rfl, iteT g2⟩
        · exact ⟨.str y, rfl, rfl, _, rfl, iteF ⟨.ref nm, rfl, .str y, rfl, nm, _, rfl, gy, g2⟩⟩
      rintro HE ⟨xE, sE⟩
      rw [List.take_length, ← TW.ff z zd] at sE
      obtain ⟨lt, gt, hlt⟩ := (MTL.to (xD.trans xE)).get zd2
      have sp2 : ∀ v ∈ f2 (nu z), Spot v := fun v hv => by
        rw [TW.ff z zd] at hv
        obtain ⟨u, hu, rfl⟩ := List.mem_map.mp hv
        exact nuV_spot na.nm_ (spz u hu)
      obtain ⟨w1, w2⟩ := spots_dataL sp2
      have xAE := xAD.trans xE
      refine ⟨.ref DT, rfl, .ref nm, rfl, .str z, rfl, nm, .str (nu z), rfl, gA xAE (inD zd), DT, .ref lt, rfl, gt, .list ((f2 (nu z)).map spotD), .list ((f2 (nu z)).map spotD), .lst (Evl.sq_of sE) (dp_spots sp2), .lst (Evl.sq_of hlt) (dp_spots sp2), w2, w2, _, rfl, ?_⟩
      rw [SeqAt.eqv_refl _ w1]
      refine iteF ?_
      -- walk
      refine ⟨.ref nt, rfl, .ref ra, rfl, .ref rb, rfl, .str e, rfl, .str z, rfl, nt, ra, rb, e, z, zs, ys, es, dots, ss, ps, o, n, rfl, NA.to xAE, ok, he, zd, LaA.ex xAE, LbA.ex xAE, dis, fun wk HF xF _ hwk => ?_⟩
      have xAF := xAE.trans xF
      have naF := naA.to xAF
      obtain ⟨wv, hwv⟩ : ∃ wv, wv = walkOf (nowTab dots (o e) (n e) (zs ++ ys)) (dots.length + 1) z := ⟨_, rfl⟩
      rw [← hwv] at hwk
      have wlen : wv.length ≤ 100 := by
        rw [hwv]
        have := track_len (tb := nowTab dots (o e) (n e) (zs ++ ys)) (dots.length + 1) [] (.str z)
        have t : (walkOf (nowTab dots (o e) (n e) (zs ++ ys)) (dots.length + 1) z).length ≤ ([] : List Str).length + (dots.length + 1) + 1 := this
        have t0 : ([] : List Str).length = 0 := rfl
        omega
      have wsp : ∀ v ∈ wv, In (es ++ dots) v := by
        rw [hwv]
        exact track_in (fun y hy => by
          obtain ⟨z', hz', rfl⟩ := List.mem_map.mp hy
          show In (es ++ dots) (look (if z' ∈ zs ++ ys then n e else o e) z')
          by_cases q : z' ∈ zs ++ ys
          · rw [if_pos q]; exact place_in he (look_ok to2 hz').1
          · rw [if_neg q]; exact place_in he (look_ok to1 hz').1) (dots.length + 1) [] (.str z) (fun y hy => nomatch hy) (.inr ⟨z, inD zd, rfl⟩)
      refine ⟨wk, rfl, ⟨_, Evl.sq_of hwk⟩, fun S4 hS4 => lc_list (K := K) (a := wk) (xs := wv)
        (fun i H' => Evl.Ex HF H' ∧ H' S4 = some (.lst ((wv.take i).map (nuV nu)))) ⟨Evl.Ex.new hS4, upd_same⟩ (fun i H' _ h => Evl.sq_of (h.1 _ _ hwk)) ?_ ?_⟩
      · rintro i v Hx hi ⟨xx, sx⟩
        obtain ⟨g1, g2⟩ := place_step (a := tC .non) (b := tC .non) naF xx hS4 sx hi (wsp v (List.mem_of_getElem? hi)) wlen
        refine ⟨rfl, ?_⟩
        refine yes_if ?_
        rcases g1 with rfl | ⟨y, rfl, gy⟩
        · exact ⟨.non, rfl, rfl, _, rfl, iteT g2⟩
        · exact ⟨.str y, rfl, rfl, _, rfl, iteF ⟨.ref nm, rfl, .str y, rfl, nm, _, rfl, gy, g2⟩⟩
      rintro HG ⟨xG, sG⟩
      rw [List.take_length] at sG
      have xAG := xAF.trans xG
      -- led(twin, ..) != walk
      refine ⟨.ref tw, rfl, .ref rt, rfl, .ref qt, rfl, .ref nm, rfl, .str e, rfl, nm, .str (nu e), rfl, gA xAG (inE he), .ref nm, rfl, .str z, rfl, nm, .str (nu z), rfl, gA xAG (inD zd), tw, rt, qt, nu e, nu z, zs2, ys2, ends2, dots2, ss2, ps.map nu, oN es nu o, oN es nu n, rfl, NTA.to xAG, ok2, he2', zd2, L1A.ex xAG, L2'.ex xAG, dis2, fun wk2 HI xI _ hwk2 => ?_⟩
      have hu12 : ∀ y ∈ dots, nu y ∈ zs2 ++ ys2 ↔ y ∈ zs ++ ys := fun y yd => by
        rw [List.mem_append, List.mem_append, hz2.mem_iff, hy2.mem_iff, nu_mem inj (fun x hx => inD (mvd (La4.sub x hx))) (inD yd), nu_mem inj (fun x hx => inD (mvd (Lb4.sub x hx))) (inD yd)]
      rw [walk_twin inj ok.dn ok.ed he to1 to2 hd2 hu12 zd, ← hwv] at hwk2
      have sp3 : ∀ v ∈ wv.map (nuV nu), Spot v := fun v hv => by
        obtain ⟨u, hu, rfl⟩ := List.mem_map.mp hv
        exact nuV_spot na.nm_ (wsp u hu)
      obtain ⟨u1, u2⟩ := spots_dataL sp3
      refine ⟨.ref S4, rfl, .list ((wv.map (nuV nu)).map spotD), .list ((wv.map (nuV nu)).map spotD), .lst (Evl.sq_of hwk2) (dp_spots sp3), .lst (Evl.sq_of (xI _ _ sG)) (dp_spots sp3), u2, u2, _, rfl, ?_⟩
      rw [SeqAt.eqv_refl _ u1]
      refine iteF ?_
      have xAI := xAG.trans xI
      -- reached
      refine ⟨.ref nt, rfl, .ref ra, rfl, .ref rb, rfl, .str e, rfl, .str z, rfl, nt, ra, rb, e, z, zs, ys, es, dots, ss, ps, o, n, rfl, NA.to xAI, ok, he, zd, to1, to2, LaA.ex xAI, LbA.ex xAI, dis, fun rp tp xs b1 b2 HJ xJ RA => ⟨rp, _, rfl, Evl.st_of RA.hp, rfl, _, _, rfl, _, _, rfl, _, [], rfl, rfl, ?_⟩⟩
      rw [← hf] at RA
      have xAJ := xAI.trans xJ
      have naJ := naA.to xAJ
      have xfew : xs.length ≤ 6 := Nat.le_trans (nodup_le xs dots RA.nd RA.sub) d6
      -- due
      refine ⟨.ref tp, rfl, tp, rfl, ⟨_, Evl.st_of RA.ha⟩, fun S5 hS5 => lc_tup (K := K) (a := tp) (xs := xs.map V.str)
        (fun i H' => Evl.Ex HJ H' ∧ H' S5 = some (.lst (((xs.take i).map nu).map V.str))) ⟨Evl.Ex.new hS5, upd_same⟩ (fun i H' _ h => Evl.st_of (h.1 _ _ RA.ha)) ?_ ?_⟩
      · rintro i v Hx hi ⟨xx, sx⟩
        obtain ⟨y, hy, rfl⟩ := str_at hi
        obtain ⟨g1, g2⟩ := name_step naJ xx hS5 sx hy (inD (RA.sub y (List.mem_of_getElem? hy))) (by omega)
        exact ⟨rfl, yes_if ⟨.ref nm, rfl, .str y, rfl, nm, _, rfl, g1, g2⟩⟩
      rintro HK ⟨xK, sK⟩
      rw [List.length_map, List.take_length] at sK
      refine ⟨S5, xs.map nu, rfl, Evl.sq_of sK, by rw [List.length_map]; omega, fun xs2 T5 hx2 so5 hT5 => ?_⟩
      refine ⟨T5, _, rfl, .inl ⟨Evl.sq_of upd_same, fun dt hdt => ?_⟩⟩
      have yM : Evl.Ex HK (upd (upd HK T5 (.lst (xs2.map V.str))) dt (.tup (xs2.map V.str))) := (Evl.Ex.new hT5).trans (Evl.Ex.new hdt)
      have tM : (upd (upd HK T5 (.lst (xs2.map V.str))) dt (.tup (xs2.map V.str))) dt = some (.tup (xs2.map V.str)) := upd_same
      generalize upd (upd HK T5 (.lst (xs2.map V.str))) dt (.tup (xs2.map V.str)) = HM at yM tM
      refine ⟨.bl b1, rfl, .bl b2, rfl, by show 3 ≤ sizeLine; decide, fun du hdu => ?_⟩
      have yN : Evl.Ex HM (upd HM du (.tup [.ref dt, .bl b1, .bl b2])) := Evl.Ex.new hdu
      have uN : (upd HM du (.tup [.ref dt, .bl b1, .bl b2])) du = some (.tup [.ref dt, .bl b1, .bl b2]) := upd_same
      generalize upd HM du (.tup [.ref dt, .bl b1, .bl b2]) = HN at yN uN
      have xAN := xAJ.trans (xK.trans (yM.trans yN))
      -- reached(twin, ..) != due
      refine ⟨.ref tw, rfl, .ref rt, rfl, .ref qt, rfl, .ref nm, rfl, .str e, rfl, nm, .str (nu e), rfl, gA xAN (inE he), .ref nm, rfl, .str z, rfl, nm, .str (nu z), rfl, gA xAN (inD zd), tw, rt, qt, nu e, nu z, zs2, ys2, ends2, dots2, ss2, ps.map nu, oN es nu o, oN es nu n, rfl, NTA.to xAN, ok2, he2', zd2, tl1.1, tl1.2, L1A.ex xAN, L2'.ex xAN, dis2, fun rp2 tp2 xs3 c1 c2 HO_ xO RB => ?_⟩
      rw [← hf2] at RB
      have nx2 : xs2.Nodup := hx2.nodup_iff.mpr (nu_nodup inj (fun y hy => inD (RA.sub y hy)) RA.nd)
      have mem3 : ∀ y, y ∈ xs3 ↔ y ∈ xs2 := fun y => by
        rw [RB.all y, TW.reach zd, hx2.mem_iff, List.mem_map]
        exact ⟨fun ⟨x, h1, h2⟩ => ⟨x, (RA.all x).mpr h1, h2⟩, fun ⟨x, h1, h2⟩ => ⟨x, (RA.all x).mp h1, h2⟩⟩
      have e32 : xs3 = xs2 := sorted_uniq RB.so so5 ((List.perm_ext_iff_of_nodup RB.nd nx2).mpr mem3)
      have ec1 : c1 = b1 := by
        rw [Bool.eq_iff_iff, RB.c1, RA.c1]
        constructor
        · rintro ⟨y, hy, h⟩
          rw [mem3, hx2.mem_iff] at hy
          obtain ⟨x, hx, rfl⟩ := List.mem_map.mp hy
          exact ⟨x, hx, (TW.mem (RA.sub x hx) (inE he)).mp h⟩
        · rintro ⟨x, hx, h⟩
          exact ⟨nu x, (mem3 _).mpr (hx2.mem_iff.mpr (List.mem_map_of_mem hx)), (TW.mem (RA.sub x hx) (inE he)).mpr h⟩
      have ec2 : c2 = b2 := by
        rw [Bool.eq_iff_iff, RB.c2, RA.c2]
        constructor
        · rintro ⟨y, hy, h⟩
          rw [mem3, hx2.mem_iff] at hy
          obtain ⟨x, hx, rfl⟩ := List.mem_map.mp hy
          exact ⟨x, hx, (TW.mem_non (RA.sub x hx)).mp h⟩
        · rintro ⟨x, hx, h⟩
          exact ⟨nu x, (mem3 _).mpr (hx2.mem_iff.mpr (List.mem_map_of_mem hx)), (TW.mem_non (RA.sub x hx)).mpr h⟩
      subst e32 ec1 ec2
      have nm3 : ∀ y ∈ xs3, Nm y := fun y hy => ok2.dm y (RB.sub y hy)
      obtain ⟨v1, v2⟩ := reach_lay (b1 := c1) (b2 := c2) nm3
      refine ⟨.ref du, rfl, _, _, reach_data RB.hp RB.ha, reach_data (xO _ _ uN) (xO _ _ (yN _ _ tM)), v1, v1, _, rfl, ?_⟩
      rw [SeqAt.eqv_refl _ v2]
      refine iteF ?_
      exact ⟨_, _, _, _, _, _, rfl, (xD.trans (xE.trans (xF.trans (xG.trans xI)))).trans (xJ.trans (xK.trans (yM.trans (yN.trans xO))))⟩
    · rintro σ HD ⟨x13, x14, x15, x16, x17, x18, rfl, xD⟩
      refine ⟨xD _ _ lL, ?_⟩
      have bx := backL xD
      have xAE := xAC.trans bx
      generalize upd HD DH (.dK (tkv rs)) = HE at bx xAE
      -- uno, duo
      refine ⟨.ref nt, rfl, .ref ra, rfl, .ref rb, rfl, .str e, rfl, nt, ra, rb, e, zs, ys, es, dots, ss, ps, o, n, rfl, NA.to xAE, ok, he, to1, to2, LaA.ex xAE, LbA.ex xAE, dis, fun uv HF xF R1 => ?_⟩
      have xAF := xAE.trans xF
      refine ⟨.ref tw, rfl, .ref rt, rfl, .ref qt, rfl, .ref nm, rfl, .str e, rfl, nm, .str (nu e), rfl, gA xAF (inE he), tw, rt, qt, nu e, zs2, ys2, ends2, dots2, ss2, ps.map nu, oN es nu o, oN es nu n, rfl, NTA.to xAF, ok2, he2', tl1.1, tl1.2, L1A.ex xAF, L2'.ex xAF, dis2, fun dv HG xG R2 => ⟨_, _, rfl, ?_⟩⟩
      rw [← hf] at R1
      rw [← hf2] at R2
      obtain ⟨q1, b1, u1⟩ := R1.due
      obtain ⟨q2, b2, u2⟩ := R2.due
      have best := TW.best b1 b2
      have u1' := u1.to xG
      have done := finA (xAF.trans xG)
      have kd1 := dueV_kind u1'
      have kd2 := dueV_kind u2
      have nn : q1.isNone = q2.isNone := by
        cases q1 <;> cases q2
        · rfl
        · cases best
        · cases best
        · rfl
      refine ⟨uv, rfl, rfl, dv, rfl, rfl, rfl, true, congrArg V.bl (decide_eq_true (by rw [kd1, kd2, nn])), ?_⟩
      cases q1 with
      | none =>
        have eu : uv = .non := u1'
        subst eu
        exact ⟨.non, rfl, rfl, true, rfl, done⟩
      | some p =>
        cases q2 with
        | none => cases best
        | some r =>
          obtain ⟨a, rfl, ha⟩ := u1'
          obtain ⟨b, rfl, hb⟩ := u2
          have len : p.length = r.length := Option.some.inj best
          refine ⟨.ref a, rfl, rfl, false, rfl, ?_⟩
          refine ⟨.ref a, rfl, .ref a, (p.map V.str).length, rfl, .inr ⟨_, Evl.st_of ha, rfl⟩, .ref b, rfl, .ref b, (r.map V.str).length, rfl, .inr ⟨_, Evl.st_of hb, rfl⟩, rfl, ?_⟩
          rw [List.length_map, List.length_map, len, decide_eq_true rfl]
          exact done
end
end Rw
end T_A6

section T_A7
set_option Elab.async false
set_option linter.all false
set_option maxRecDepth 100000
set_option maxHeartbeats 8000000
namespace Rw
open PySem PySem.Spec L2 PyProof.Rows
section
variable {P : Program} {w : World} {K : PySem.W.Frag} {mg : Str → Option Value} {base : Heap}
def spLaw (K : PySem.W.Frag) : Sp := fun vs H Q _ => ∃ (a : Addr) (ns : List Int), vs = [.ref a] ∧ SqL K H a (ns.map V.int) ∧ ns.length ≤ 63 ∧ ∀ H', Q (.bl true) H'
abbrev nLaw : List Str := ["script", "draw", "turn", "model", "made", "ready", "part", "end"]
theorem sc_law : FnScope nLaw ["script"] (defScope s_law) := ⟨rfl, rfl, rfl, by decide +kernel, rfl, by decide +kernel, by decide +kernel⟩
theorem ok_law {f C : Addr} {fd : FuncData} (F : Fun K "law" "law" s_law f fd)
    (CB : Cal P w K mg base 1 "_law_begin" ["script"] (spBegin K)) (CMd : Cal P w K mg base 6 "_law_model" ["draw", "ends", "most"] spModel) (CN : Cal P w K mg base 6 "_law_net" ["model"] (spNet C)) (CR_ : Cal P w K mg base 4 "_law_round" ["draw", "model"] spLots)
    (CT : Cal P w K mg base 8 "_law_turned_right" ["model", "made", "ready", "part", "end"] (spTurnedRight C)) (CP : Cal P w K mg base 8 "_law_parts_right" ["draw", "made", "ready", "part", "end"] (spPartsRight C)) (CD : Cal P w K mg base 8 "_law_named_right" ["draw", "model", "made", "ready", "part", "end"] (spNamedRight C))
    (mRange : mg "range" = none) (mMin : mg "min" = none) (mLen : mg "len" = none) (mSorted : mg "sorted" = none) : FnG P w K mg base CX0 9 f fd ["script"] (spLaw K) := by
  obtain ⟨fB, fdB, BG, kB, bB, gB⟩ := CB.ex
  obtain ⟨fM, fdM, MD, kM, bM, gM⟩ := CMd.ex
  obtain ⟨fN, fdN, NT, kN, bN, gN⟩ := CN.ex
  obtain ⟨fR, fdR, RD, kR, bR, gR⟩ := CR_.ex
  obtain ⟨fT, fdT, TR, kT, bT, gT⟩ := CT.ex
  obtain ⟨fP, fdP, PR, kP, bP, gP⟩ := CP.ex
  obtain ⟨fD, fdD, NR, kD, bD, gD⟩ := CD.ex
  refine Rw.Fun.okG F sc_law (fun vs H Q E h => ?_) (fun cdv A outer s H vs Q E guard hr h => ?_)
  · obtain ⟨a, ns, rfl, _⟩ := h
    rfl
  · obtain ⟨a, ns, rfl, hS, hl, k⟩ := h
    have nd := sc_law.nd
    have hu := hu_of hr
    have hr1 : Room 1 _ := hr.mono (by decide)
    have hr4 : Room 4 _ := hr.mono (by decide)
    have hr6 : Room 6 _ := hr.mono (by decide)
    refine ⟨_, PSs.nox (pss_cons (ps_set (i := 1) nd rfl (.inl rfl) (pe_call BG hr1 rfl gB kB bB .nil pass0 (pa_cons (pv 0) pa_nil)))
      (pss_cons (ps_for PassesOwn.never rfl (pi_range1 (by rfl) mRange (pa_cons (pe_op op_add pe_int (pe_callB (call_min2 rfl) (by rfl) mMin (by decide +kernel) (pa_cons (pe_callB call_len (by rfl) mLen PySem.boot_len (pa_cons (pv 0) pa_nil)) (pa_cons pe_int pa_nil)))) pa_nil)) (pg_name (i := 2) nd rfl (.inl rfl))
        (pss_cons (ps_set (i := 3) nd rfl (.inl rfl) (pe_call MD hr6 rfl gM kM bM .nil pass0 (pa_cons (pv 1) (pa_cons pe_int (pa_cons pe_int pa_nil)))))
        (pss_cons (ps_set (i := 4) nd rfl (.inl rfl) (pe_call NT hr6 rfl gN kN bN .nil pass0 (pa_cons (pv 3) pa_nil)))
        (pss_cons (ps_asg (pe_call RD hr4 rfl gR kR bR .nil pass0 (pa_cons (pv 1) (pa_cons (pv 3) pa_nil))) (pg_tup rfl (pgs_cons (pg_name (i := 5) nd rfl (.inl rfl)) (pgs_cons (pg_name (i := 6) nd rfl (.inl rfl)) pgs_nil))))
        (pss_one (ps_for PassesOwn.never rfl (pi_list (pe_callB (call_sortedD rfl) (by rfl) mSorted (by decide +kernel) (pa_cons (pe_dget hu (pv 3) pe_str (fun _ _ => rfl)) pa_nil))) (pg_name (i := 7) nd rfl (.inl rfl))
          (pss_cons (ps_if (pt_not (pt_val (pe_call TR hr rfl gT kT bT .nil pass0 (pa_cons (pv 3) (pa_cons (pv 4) (pa_cons (pv 5) (pa_cons (pv 6) (pa_cons (pv 7) pa_nil)))))))) (pss_one (ps_ret pe_bl)) pss_nil)
          (pss_cons (ps_if (pt_not (pt_val (pe_call PR hr rfl gP kP bP .nil pass0 (pa_cons (pv 1) (pa_cons (pv 4) (pa_cons (pv 5) (pa_cons (pv 6) (pa_cons (pv 7) pa_nil)))))))) (pss_one (ps_ret pe_bl)) pss_nil)
          (pss_one (ps_if (pt_not (pt_val (pe_call NR hr rfl gD kD bD .nil pass0 (pa_cons (pv 1) (pa_cons (pv 3) (pa_cons (pv 4) (pa_cons (pv 5) (pa_cons (pv 6) (pa_cons (pv 7) pa_nil))))))))) (pss_one (ps_ret pe_bl)) pss_nil))))))))))
      (pss_one (ps_ret pe_bl)))), ?_⟩
    -- draw = _law_begin(script)
    refine ⟨.ref a, rfl, a, ns, rfl, hS, hl, fun d g c H1 D1 x1 => ?_⟩
    refine ⟨.ref a, rfl, .ref a, _, rfl, .inl ⟨_, Evl.ex_l (x1.trans (ex_off d g H1)) hS, rfl⟩, _, _, rfl, _, _, rfl, rfl, ?_⟩
    obtain ⟨many, hmany⟩ : ∃ many : Int, many = (6 : Int) + (if (24 : Int) < ((ns.map V.int).length : Int) then 24 else ((ns.map V.int).length : Int)) := ⟨_, rfl⟩
    have bound : (0 : Int) ≤ many ∧ many ≤ 100 := by
      rw [hmany, List.length_map]
      split <;> omega
    refine ⟨many, by rw [hmany], by omega, by omega, for_range (lo := 0) (n := many.toNat)
      (fun i σ H' => ∃ x2 x3 x4 x5 x6 x7 : Option V, σ = [some (.ref a), some (.ref d), x2, x3, x4, x5, x6, x7] ∧ DrawAt H' d g c)
      ⟨none, none, none, none, none, none, rfl, D1⟩ ?_ ?_⟩
    · rintro i σ H2 hi ⟨x2, x3, x4, x5, x6, x7, rfl, D2⟩
      -- model
      refine ⟨.ref d, rfl, d, g, c, 2, 6, rfl, D2, by decide, by decide, by decide, by decide, fun m tb db sb pb ends dots ss ps rows H3 D3 y3 MA => ?_⟩
      obtain ⟨o, n, ro⟩ := RowsAt.of MA.ro MA.rk
      -- made
      refine ⟨.ref m, rfl, m, tb, db, sb, pb, ends, dots, ss, ps, rows, o, n, rfl, MA.ex (ex_off d g H3), ro.ex (ex_off d g H3), fun nt H4 y4 hnt N => ?_⟩
      have D4 := D3.ext y4
      have x4 := off_ex (d := d) (g := g) y4
      have MA4 := MA.ex x4
      have ro4 := ro.ex x4
      have N4 : NetAt C (off d g H4) nt ends dots ss ps o n := N.to (rest_off D3)
      have ok := MA.ok
      have e2 := ok.e2
      -- ready, part
      refine ⟨.ref d, rfl, .ref m, rfl, d, g, c, m, tb, db, sb, pb, ends, dots, ss, ps, rows, o, n, rfl, D4, MA4, ro4, fun p ra rb zs ys H5 D5 y5 hp La Lb dis => ?_⟩
      refine ⟨p, _, rfl, Evl.st_of (off_some hp).2.2, rfl, _, _, rfl, _, [], rfl, rfl, ?_⟩
      have MA5 := MA4.ex y5
      have ro5 := ro4.ex y5
      have N5 := N4.to y5
      -- for end in sorted(model["tables"])
      refine ⟨.ref m, rfl, m, .ref tb, rfl, dget_of (off_some MA5.hm).2.2 (mkv_tables _ _ _ _), tb, tkv rows, rows.map (·.1), rfl, .inl (off_some MA5.ht).2.2, ?_, by rw [MA.rk]; omega, fun es sl hes hsort hsl => ?_⟩
      · unfold tkv
        rw [List.map_map, List.map_map]
        rfl
      rw [MA.rk] at hes
      obtain ⟨D6, y6, s6, _, _⟩ := off_new (o := .lst (es.map V.str)) D5 (Evl.Ex.refl _) hsl
      generalize upd H5 sl (.lst (es.map V.str)) = H6 at D6 y6 s6
      refine ⟨sl, rfl, ⟨_, Evl.sq_of (off_some s6).2.2⟩, for_list (K := K) (a := sl) (xs := es.map V.str)
        (fun j σ H' => ∃ w7 : Option V, σ = [some (.ref a), some (.ref d), some (.int (0 + (i : Int))), some (.ref m), some (.ref nt), some (.ref ra), some (.ref rb), w7] ∧ DrawAt H' d g c ∧ Evl.Ex (off d g H6) (off d g H'))
        ⟨_, rfl, D6, Evl.Ex.refl _⟩ (fun j σ H' _ ⟨_, _, _, y⟩ => Evl.sq_of (off_some (y _ _ s6)).2.2) ?_ ?_⟩
      · rintro j v σ H7 hj ⟨w7, rfl, D7, y7⟩
        obtain ⟨e, he', rfl⟩ := str_at hj
        have he : e ∈ ends := hes.mem_iff.mp (List.mem_of_getElem? he')
        have Y7 := y6.trans y7
        have r7 := ex_off d g H7
        have Y7' := Y7.trans r7
        refine ⟨.ref m, rfl, .ref nt, rfl, .ref ra, rfl, .ref rb, rfl, .str e, rfl, m, tb, db, sb, pb, nt, ra, rb, e, zs, ys, ends, dots, ss, ps, rows, o, n, rfl, MA5.ex Y7', ro5.ex Y7', N5.to Y7', he, La.ex Y7', Lb.ex Y7', dis, fun H8 x8 => ⟨true, rfl, ?_⟩⟩
        refine iteF ?_
        have D8 := D7.ext x8
        have Y8 := Y7.trans (off_ex (d := d) (g := g) x8)
        obtain ⟨_, _, _, _, pa⟩ := ro5 e he
        refine ⟨.ref d, rfl, .ref nt, rfl, .ref ra, rfl, .ref rb, rfl, .str e, rfl, d, g, c, nt, ra, rb, e, zs, ys, ends, dots, ss, ps, o, n, rfl, D8, N5.to Y8, ok, he, pa.o1, pa.o2, La.ex Y8, Lb.ex Y8, dis, fun H9 D9 y9 => ⟨true, rfl, ?_⟩⟩
        refine iteF ?_
        have Y9 := Y8.trans y9
        refine ⟨.ref d, rfl, .ref m, rfl, .ref nt, rfl, .ref ra, rfl, .ref rb, rfl, .str e, rfl, d, g, c, m, tb, db, sb, pb, nt, ra, rb, e, zs, ys, ends, dots, ss, ps, rows, o, n, rfl, D9, MA5.ex Y9, ro5.ex Y9, N5.to Y9, he, La.ex Y9, Lb.ex Y9, dis, fun HA DA yA => ⟨true, rfl, ?_⟩⟩
        refine iteF ?_
        exact ⟨_, rfl, DA, ((y7.trans (off_ex (d := d) (g := g) x8)).trans y9).trans yA⟩
      · rintro σ H7 ⟨w7, rfl, D7, _⟩
        exact ⟨_, _, _, _, _, _, rfl, D7⟩
    · rintro σ H2 ⟨x2, x3, x4, x5, x6, x7, rfl, D2⟩
      exact k H2
end
end Rw
end T_A7

section T_B1
set_option Elab.async false
set_option linter.all false
set_option maxRecDepth 100000
set_option maxHeartbeats 4000000
namespace Rw
open PySem L2 PyProof.Rows
section
variable {P : Program} {w : World} {K : PySem.W.Frag} {mg : Str → Option Value} {base : Heap}
theorem sc_begin : FnScope ["script", "great", "cell"] ["script"] (defScope s_begin) := ⟨rfl, rfl, rfl, by decide +kernel, rfl, by decide +kernel, by decide +kernel⟩
theorem ok_begin {f : Addr} {fd : FuncData} (F : Fun K "_law_begin" "_law_begin" s_begin f fd) (mAbs : mg "abs" = none) : FnOk P w K mg base CX0 1 f fd ["script"] (spBegin K) := by
  refine F.ok sc_begin (fun vs H Q E h => ?_) (fun cdv A outer s H vs Q E hr h => ?_)
  · obtain ⟨a, ns, rfl, _⟩ := h
    rfl
  · obtain ⟨a, ns, rfl, hS, hl, k⟩ := h
    have nd := sc_begin.nd
    refine ⟨_, pss_cons (ps_setLc (i := 1) (own := [("cell", 2)]) (g := gName 2) (by rfl) nd rfl rfl (sw_true rfl rfl rfl (by decide +kernel)) (pi_list (pv 0)) (blkOk_by (own := [("cell", 2)]) (N := ["script", "great", "cell"]) (sc := defScope s_begin) (by decide +kernel))
          (fun _ _ _ _ _ => pg_name (i := 2) nd rfl (Or.inl rfl)) (fun _ _ _ _ _ => pts_one (pt_cmpR op_ge (pe_callB call_abs (by rfl) mAbs boot_abs (pa_cons (pv 2) pa_nil)) (pe_op op_pow pe_int pe_int) (nomark _)))
          (fun _ _ _ _ _ => pe_op op_sub (pe_callB call_abs (by rfl) mAbs boot_abs (pa_cons (pv 2) pa_nil)) (pe_op op_pow pe_int pe_int)))
      (pss_one (ps_ret (pe_disp (pps_cons pe_str (pv 1) (pps_cons pe_str pe_int (pps_cons pe_str
          (pe_lc (own := [("cell", 2)]) (g := gName 2) (tt := tYes) rfl nd (pi_list (pv 0)) (blkOk_by (own := [("cell", 2)]) (N := ["script", "great", "cell"]) (sc := defScope s_begin) (by decide +kernel))
            (fun _ _ _ _ _ => pg_name (i := 2) nd rfl (Or.inl rfl)) (fun _ _ _ _ _ => pts_nil) (fun _ _ _ _ _ => pe_callB call_abs (by rfl) mAbs boot_abs (pa_cons (pv 2) pa_nil)))
          (pps_cons pe_str pe_int pps_nil)))) (by rfl) (by rfl) (fun z => by cases z) (by decide)))), ?_⟩
    -- great = [..]
    have int_at : ∀ {i : Nat} {x : V}, (ns.map V.int)[i]? = some x → ∃ z : Int, x = V.int z := fun {i x} hi => by
      rw [List.getElem?_map] at hi
      cases e : ns[i]? with
      | none => rw [e] at hi; cases hi
      | some z => rw [e] at hi; exact ⟨z, (Option.some.inj hi).symm⟩
    refine ⟨.ref a, rfl, a, rfl, ⟨_, hS⟩, fun g hg => lc_list (K := K) (a := a) (xs := ns.map V.int)
      (fun i H1 => ∃ gs : List Int, gs.length ≤ i ∧ H1 = upd H g (.lst (gs.map V.int))) ⟨[], Nat.le_refl _, rfl⟩ ?_ ?_ ?_⟩
    · rintro i H1 _ ⟨gs, _, rfl⟩
      exact Evl.ex_l (Evl.Ex.new hg) hS
    · rintro i x H1 hi ⟨gs, hgl, rfl⟩
      obtain ⟨z, rfl⟩ := int_at hi
      have hil : i < (ns.map V.int).length := (List.getElem?_eq_some_iff.mp hi).1
      rw [List.length_map] at hil
      refine ⟨rfl, _, rfl, z, rfl, 10, 18, rfl, rfl, ⟨by decide, by decide, by decide⟩, _, _, rfl, rfl, _, rfl, ite2 (fun _ => ?_) (fun _ => ⟨gs, by omega, rfl⟩)⟩
      refine ⟨_, rfl, z, rfl, 10, 18, rfl, rfl, ⟨by decide, by decide, by decide⟩, _, _, rfl, rfl, _, upd_same, ?_, gs ++ [(if z < 0 then -z else z) - 10 ^ (18 : Int).toNat], ?_, ?_⟩
      · rw [List.length_map]; exact small1000 (by omega)
      · rw [List.length_append]; show gs.length + 1 ≤ i + 1; omega
      · rw [upd_upd, List.map_append]; rfl
    · rintro H1 ⟨gs, _, rfl⟩
      -- the dict
      intro d hd
      have hng : g ≠ d := ne_of_none upd_same hd
      have hSd : SqL K (upd (upd H g (.lst (gs.map V.int))) d (.dK [])) a (ns.map V.int) := Evl.ex_l (Evl.Ex.new hd) (Evl.ex_l (Evl.Ex.new hg) hS)
      refine ⟨.ref g, rfl, .ref a, rfl, a, rfl, ⟨_, hSd⟩, fun c hc => lc_list (K := K) (a := a) (xs := ns.map V.int)
        (fun i H1 => ∃ cs : List Int, cs.length ≤ i ∧ H1 = upd (upd (upd H g (.lst (gs.map V.int))) d (.dK [])) c (.lst (cs.map V.int))) ⟨[], Nat.le_refl _, rfl⟩ ?_ ?_ ?_⟩
      · rintro i H1 _ ⟨cs, _, rfl⟩
        exact Evl.ex_l (Evl.Ex.new hc) hSd
      · rintro i x H1 hi ⟨cs, hcl, rfl⟩
        obtain ⟨z, rfl⟩ := int_at hi
        have hil : i < (ns.map V.int).length := (List.getElem?_eq_some_iff.mp hi).1
        rw [List.length_map] at hil
        refine ⟨rfl, ?_⟩
        refine yes_if ?_
        refine ⟨_, rfl, z, rfl, _, upd_same, ?_, cs ++ [if z < 0 then -z else z], ?_, ?_⟩
        · rw [List.length_map]; exact small1000 (by omega)
        · rw [List.length_append]; show cs.length + 1 ≤ i + 1; omega
        · rw [upd_upd, List.map_append]; rfl
      · rintro H1 ⟨cs, _, rfl⟩
        have ndc : d ≠ c := ne_of_none upd_same hc
        have ngc : g ≠ c := ne_of_none (o := .lst (gs.map V.int)) (by rw [upd_ne hng]; exact upd_same) hc
        have dn : H d = none := by rw [upd_ne hng.symm] at hd; exact hd
        have cn : H c = none := by rw [upd_ne ndc.symm, upd_ne ngc.symm] at hc; exact hc
        refine ⟨by rw [upd_ne ndc]; exact upd_same, dkv g c 0 0, rfl, by show 4 ≤ 15; decide, ?_⟩
        refine k d g c _ ⟨⟨0, 0, ?_⟩, ⟨gs, ?_⟩, ⟨cs, ?_⟩, ngc.symm⟩ fun b o e => off_of ?_ (ne_of_none e dn) (ne_of_none e hg)
        · rw [upd_same]
          exact congrArg (fun z => some (HO.dK z)) (by kernel_rfl)
        · rw [upd_ne hng, upd_ne ngc, upd_ne hng, upd_same]
        · rw [upd_ne ndc.symm, upd_same]
        · rw [upd_ne (ne_of_none e dn), upd_ne (ne_of_none e cn), upd_ne (ne_of_none e dn), upd_ne (ne_of_none e hg)]
          exact e
end
end Rw
end T_B1

section T_B2
set_option Elab.async false
set_option linter.all false
set_option maxRecDepth 100000
set_option maxHeartbeats 4000000
namespace Rw
open PySem L2 PyProof.Rows
section
variable {P : Program} {w : World} {K : PySem.W.Frag} {mg : Str → Option Value} {base : Heap}
theorem sc_mixed : FnScope ["draw", "some", "left", "found"] ["draw", "some"] (defScope s_mixed) := ⟨rfl, rfl, rfl, by decide +kernel, rfl, by decide +kernel, by decide +kernel⟩
theorem ok_mixed {f fT : Addr} {fd fdT : FuncData} (F : Fun K "_law_mixed" "_law_mixed" s_mixed f fd) (T : FnOk P w K mg base CX0 2 fT fdT ["draw", "size"] spTake) (kT : PySem.W.keepIn K (.ref fT) = true) (bT : Binds K fdT ["draw", "size"] []) (gT : mg "_law_take" = some (.ref fT)) (mLen : mg "len" = none) (mList : mg "list" = none) :
    FnOk P w K mg base CX0 3 f fd ["draw", "some"] (spMixed K) := by
  refine F.ok sc_mixed (fun vs H Q E h => ?_) (fun cdv A outer s H vs Q E hr h => ?_)
  · obtain ⟨d, g, c, a, xs, rfl, _⟩ := h
    rfl
  · obtain ⟨d, g, c, a, xs, rfl, D, hS, hl, hdat, k⟩ := h
    have nd := sc_mixed.nd
    refine ⟨_, pss_cons (ps_par (i := 2) (j := 3) (by rfl) nd rfl rfl (by decide) rfl rfl (pa_cons (pe_callTy call_list_of (by rfl) mList (by decide +kernel) (pa_cons (pv 1) pa_nil)) (pa_cons (pe_lst pa_nil) pa_nil)) (by rfl))
      (pss_cons (ps_while PassesOwn.never (pt_cmpR (op_neD hr.units) (pv 2) (pe_lst pa_nil) (nomark _))
        (pss_one (ps_expr (pe_bm PySem.F.plainAttrs_list PySem.F.slot_list_append PySem.F.type_list_append mt_append (pv 3)
          (pa_cons (pe_bm PySem.F.plainAttrs_list PySem.F.slot_list_pop PySem.F.type_list_pop mt_popAt (pv 2) (pa_cons (pe_call T hr rfl gT kT bT .nil pass0 (pa_cons (pv 0) (pa_cons (pe_callB call_len (by rfl) mLen PySem.boot_len (pa_cons (pv 2) pa_nil)) pa_nil))) pa_nil)) pa_nil)))))
      (pss_one (ps_ret (pv 3)))), ?_⟩
    -- left, found = (list(some), [])
    refine ⟨.ref a, rfl, a, xs, rfl, hS.elim (fun z => .inl (Evl.ex_l (ex_off d g H) z)) (fun z => .inr (Evl.ex_t (ex_off d g H) z)), fun l hl0 => ⟨Nat.zero_le _, fun f hf => ⟨_, _, rfl, ?_⟩⟩⟩
    have hlf : f ≠ l := fun z => by rw [z, upd_same] at hf; cases hf
    have hf0 : H f = none := by rw [upd_ne hlf] at hf; exact hf
    have nl := D.ned hl0
    have nf := D.ned hf0
    have perm_erase : ∀ (ls : List V) (i : Nat) (v : V), ls[i]? = some v → (v :: ls.eraseIdx i).Perm ls := fun ls => by
      induction ls with
      | nil => intro i v h; simp at h
      | cons x r ih =>
        intro i v h
        cases i with
        | zero => simp at h; subst h; exact List.Perm.refl _
        | succ n =>
          have h' : r[n]? = some v := by simpa using h
          exact (List.Perm.swap x v _).trans ((ih n v h').cons x)
    refine while_by (fun σ H' => σ = [some (.ref d), some (.ref a), some (.ref l), some (.ref f)] ∧ ∃ ls fs : List V, H' l = some (.lst ls) ∧ H' f = some (.lst fs) ∧ (fs ++ ls).Perm xs ∧ DrawAt H' d g c ∧ Evl.Ex (off d g H) (off d g H'))
      (fun _ H' => match H' l with | some (.lst ls) => ls.length | _ => 0) ⟨rfl, xs, [], by rw [upd_ne hlf.symm]; exact upd_same, upd_same, List.Perm.refl _, (D.new hl0).new hf, (off_ex (Evl.Ex.new hl0)).trans (off_ex (Evl.Ex.new hf))⟩ ?_ ?_
    · rintro σ H1 ⟨rfl, ls, fs, el, ef, hp, D1, x1⟩
      have hlen : fs.length + ls.length = xs.length := by rw [← List.length_append]; exact hp.length_eq
      have hdl : ∀ v ∈ ls, DataV K H1 v := fun v hv => (hdat v (hp.subset (List.mem_append_right _ hv))).ex (x1.trans (ex_off d g H1))
      refine ⟨.ref l, rfl, Nat.zero_le _, fun p hp0 => ?_⟩
      have x2 : Evl.Ex H1 (upd H1 p (.lst [])) := Evl.Ex.new hp0
      have el2 : (upd H1 p (.lst [])) l = some (.lst ls) := x2 _ _ el
      have ef2 : (upd H1 p (.lst [])) f = some (.lst fs) := x2 _ _ ef
      have D2 : DrawAt (upd H1 p (.lst [])) d g c := D1.ext x2
      have x3 : Evl.Ex (off d g H) (off d g (upd H1 p (.lst []))) := x1.trans (off_ex x2)
      obtain ⟨dd, g1, g2, g3⟩ := data_list (Evl.sq_of el2) fun v hv => (hdl v hv).ex x2
      refine ⟨dd, .list [], g1, .lst (Evl.sq_of upd_same) .nil, g2, by rfl, _, rfl, ?_⟩
      rw [g3]
      generalize upd H1 p (.lst []) = H2 at el2 ef2 D2 x3
      cases ls with
      | nil =>
        have hp' : fs.Perm xs := by rw [List.append_nil] at hp; exact hp
        exact ⟨.ref f, rfl, k f fs H2 hp' D2 x3 hf0 (off_of ef2 nf.1 nf.2.1)⟩
      | cons y r =>
        refine iteT ?_
        refine ⟨.ref f, rfl, .inl ⟨rfl, _, Evl.sq_of ef2⟩, .ref l, rfl, .inl ⟨rfl, _, Evl.sq_of el2⟩, .ref d, rfl, .ref l, rfl, .ref l, (y :: r).length, rfl, .inl ⟨_, Evl.sq_of el2, rfl⟩, ?_⟩
        refine ⟨d, g, c, ((y :: r).length : Int), rfl, by simp, by omega, D2, fun j H3 j0 j1 D3 x4 => ?_⟩
        have el3 : H3 l = some (.lst (y :: r)) := (ex_off d g H3) _ _ (x4 _ _ (off_of el2 nl.1 nl.2.1))
        have ef3 : H3 f = some (.lst fs) := (ex_off d g H3) _ _ (x4 _ _ (off_of ef2 nf.1 nf.2.1))
        have hj : j.toNat < (y :: r).length := by omega
        have ej : (y :: r)[j.toNat]? = some (y :: r)[j.toNat] := List.getElem?_eq_getElem hj
        refine ⟨l, y :: r, j, j.toNat, (y :: r)[j.toNat], rfl, rfl, el3, by omega, by omega, ?_, ej, ?_⟩
        · unfold seqIndex?
          rw [if_neg (by omega : ¬ j < 0)]
          have hb : (decide (0 ≤ j) && decide (j < ((y :: r).length : Nat))) = true := by
            rw [decide_eq_true j0, decide_eq_true (by omega)]
            rfl
          show (if (decide (0 ≤ j) && decide (j < ((y :: r).length : Nat))) = true then some j.toNat else none) = some j.toNat
          rw [if_pos hb]
        · have ef4 : (upd H3 l (.lst ((y :: r).eraseIdx j.toNat))) f = some (.lst fs) := by rw [upd_ne hlf]; exact ef3
          refine ⟨f, fs, (y :: r)[j.toNat], rfl, rfl, ef4, small1000 (by omega), ?_⟩
          refine ⟨⟨rfl, (y :: r).eraseIdx j.toNat, fs ++ [(y :: r)[j.toNat]], by rw [upd_ne hlf.symm]; exact upd_same, upd_same, ?_, ?_, ?_⟩, ?_⟩
          · rw [List.append_assoc]
            exact ((perm_erase (y :: r) j.toNat _ ej).append_left fs).trans hp
          · exact (D3.mut nl.1 nl.2.1 nl.2.2).mut nf.1 nf.2.1 nf.2.2
          · have x5 : Evl.Ex (off d g H) (off d g H3) := x3.trans x4
            exact off_mut (off_mut x5 (off_free hl0)) (off_free hf0)
          · show (match (upd (upd H3 l (.lst ((y :: r).eraseIdx j.toNat))) f (.lst (fs ++ [(y :: r)[j.toNat]]))) l with | some (.lst ls) => ls.length | _ => 0) < (match H1 l with | some (.lst ls) => ls.length | _ => 0)
            rw [upd_ne hlf.symm, upd_same, el]
            show ((y :: r).eraseIdx j.toNat).length < (y :: r).length
            rw [List.length_eraseIdx, if_pos hj]
            simp
    · intro σ H1 Q1 Q2 hq h
      obtain ⟨v, hv, hz, hk⟩ := h
      refine ⟨v, hv, hz, fun p hp => ?_⟩
      obtain ⟨d1, e1, a1, a2, a3, a4, k1, ek, q⟩ := hk p hp
      exact ⟨d1, e1, a1, a2, a3, a4, k1, ek, hq _ _ q⟩
end
end Rw
end T_B2

section T_B3
set_option Elab.async false
set_option linter.all false
set_option maxRecDepth 100000
set_option maxHeartbeats 4000000
namespace Rw
open PySem L2 PyProof.Rows
section
variable {P : Program} {w : World} {K : PySem.W.Frag} {mg : Str → Option Value} {base : Heap}
abbrev nWords : List Str := ["draw", "count", "letters", "found", "some", "k", "word", "span", "near", "j", "letter", "uno"]
theorem sc_words : FnScope nWords ["draw", "count"] (defScope s_words) := ⟨rfl, rfl, rfl, by decide +kernel, rfl, by decide +kernel, by decide +kernel⟩
theorem ok_words {f fT fP : Addr} {fd fdT fdP : FuncData} (F : Fun K "_law_words" "_law_words" s_words f fd)
    (T : FnOk P w K mg base CX0 2 fT fdT ["draw", "size"] spTake) (kT : PySem.W.keepIn K (.ref fT) = true) (bT : Binds K fdT ["draw", "size"] []) (gT : mg "_law_take" = some (.ref fT))
    (PL : FnOk P w K mg base CX0 3 fP fdP ["draw", "some"] (spPickL K)) (PS_ : FnOk P w K mg base CX0 3 fP fdP ["draw", "some"] spPickS) (kP : PySem.W.keepIn K (.ref fP) = true) (bP : Binds K fdP ["draw", "some"] []) (gP : mg "_law_pick" = some (.ref fP))
    (mRange : mg "range" = none) :
    FnOk P w K mg base CX0 4 f fd ["draw", "count"] (spWords K) := by
  refine F.ok sc_words (fun vs H Q E h => ?_) (fun cdv A outer s H vs Q E hr h => ?_)
  · obtain ⟨d, g, c, n, rfl, _⟩ := h
    rfl
  · obtain ⟨d, g, c, n, rfl, D, hn, k⟩ := h
    have nd := sc_words.nd
    have hr2 : Room 2 _ := hr.mono (by decide)
    refine ⟨_, pss_cons (ps_asg (pe_tup (pa_cons pe_str (pa_cons (pe_lst pa_nil) pa_nil))) (pg_tup rfl (pgs_cons (pg_name (i := 2) nd rfl (.inr rfl)) (pgs_cons (pg_name (i := 3) nd rfl (.inr rfl)) pgs_nil))))
      (pss_cons (ps_set (i := 4) nd rfl (.inl rfl) (pe_lst (pa_cons pe_str (pa_cons pe_str (pa_cons pe_str (pa_cons pe_str (pa_cons pe_str (pa_cons pe_str (pa_cons pe_str (pa_cons pe_str (pa_cons pe_str (pa_cons pe_str pa_nil))))))))))))
      (pss_cons (ps_for PassesOwn.never rfl (pi_range1 (by rfl) mRange (pa_cons (pv 1) pa_nil)) (pg_name (i := 5) nd rfl (.inl rfl))
        (pss_cons (ps_set (i := 6) nd rfl (.inr rfl) (pe_call PL hr rfl gP kP bP .nil pass0 (pa_cons (pv 0) (pa_cons (pv 4) pa_nil))))
        (C8.pss_cut (ps_if (pt_cmpR op_gt (pe_call T hr2 rfl gT kT bT .nil pass0 (pa_cons (pv 0) (pa_cons pe_int pa_nil))) pe_int (nomark _))
          (pss_cons (ps_set (i := 7) nd rfl (.inl rfl) (pe_op op_add pe_int (pe_call T hr2 rfl gT kT bT .nil pass0 (pa_cons (pv 0) (pa_cons (pe_call PL hr rfl gP kP bP .nil pass0 (pa_cons (pv 0) (pa_cons (pe_lst (pa_cons pe_int (pa_cons pe_int (pa_cons pe_int pa_nil)))) pa_nil))) pa_nil)))))
          (pss_one (ps_set (i := 6) nd rfl (.inr rfl) (pe_join pe_str
            (pe_lc (own := [("j", 9)]) (g := gName 9) (tt := tYes) rfl nd (pi_range1 (by rfl) mRange (pa_cons (pv 7) pa_nil)) (blkOk_by (own := [("j", 9)]) (N := nWords) (sc := defScope s_words) (by decide +kernel))
              (fun _ _ _ _ _ => pg_name (i := 9) nd rfl (Or.inl rfl)) (fun _ _ _ _ _ => pts_nil) (fun _ _ _ _ _ => pe_call PS_ hr rfl gP kP bP .nil pass0 (pa_cons (pv 0) (pa_cons (pv 2) pa_nil)))))))) pss_nil)
        (pss_cons (ps_set (i := 8) nd rfl (.inl rfl) (pe_op op_cat (pe_lst (pa_cons (pv 6) pa_nil))
            (pe_lc (own := [("letter", 10)]) (g := gName 10) (tt := tYes) rfl nd (pi_str (pv 2)) (blkOk_by (own := [("letter", 10)]) (N := nWords) (sc := defScope s_words) (by decide +kernel))
              (fun _ _ _ _ _ => pg_name (i := 10) nd rfl (Or.inl rfl)) (fun _ _ _ _ _ => pts_nil) (fun _ _ _ _ _ => pe_op op_add_str (pe_slice sl_str (pv 6) po_none (po_some pe_int)) (pv 10)))))
        (pss_one (ps_expr (pe_bm PySem.F.plainAttrs_list PySem.F.slot_list_append PySem.F.type_list_append mt_append (pv 3)
          (pa_cons (pe_ix ix_list (pe_lc (own := [("uno", 11)]) (g := gName 11) (tt := tTest (tOp (rIn K true) (tVar 11) (tVar 3))) rfl nd (pi_list (pv 8)) (blkOk_by (own := [("uno", 11)]) (N := nWords) (sc := defScope s_words) (by decide +kernel))
              (fun _ _ _ _ _ => pg_name (i := 11) nd rfl (Or.inl rfl)) (fun _ _ _ _ _ => pts_one (pt_cmpR op_notIn_seq (pv 11) (pv 3) rfl)) (fun _ _ _ _ _ => pv 11)) pe_int (fun _ _ => rfl)) pa_nil))))))))
      (pss_one (ps_ret (pv 3))))), ?_⟩
    have hz26 : (Str.ofString "abcdefghijklmnopqrstuvwxyz") = z26 := rfl
    -- letters, found = ('..', [])
    refine ⟨Nat.zero_le _, fun f hf => ⟨by show 2 ≤ sizeLine; decide, fun t ht => ⟨t, _, rfl, Evl.st_of upd_same, rfl, _, _, rfl, _, [], rfl, rfl, ?_⟩⟩⟩
    -- some = [..]
    refine ⟨by show 10 ≤ sizeLine; decide, fun sm hsm => ?_⟩
    have nf := D.ned hf
    have D1 : DrawAt (upd (upd (upd H f (.lst [])) t (.tup [.str z26, .ref f])) sm (.lst (words10.map V.str))) d g c := ((D.new hf).new ht).new hsm
    have nsm := ((D.new hf).new ht).ned hsm
    have S0 : StW H (upd (upd (upd H f (.lst [])) t (.tup [.str z26, .ref f])) sm (.lst (words10.map V.str))) d g c f sm [] :=
      ⟨Evl.Ex.new hsm _ _ (Evl.Ex.new ht _ _ upd_same), off_of upd_same nsm.1 nsm.2.1, D1, ((off_ex (Evl.Ex.new hf)).trans (off_ex (Evl.Ex.new ht))).trans (off_ex (Evl.Ex.new hsm)), nf.1, nf.2.1, ne_of_none (Evl.Ex.new ht _ _ upd_same) hsm⟩
    -- for k in range(count)
    refine ⟨.int (n : Int), rfl, (n : Int), rfl, by omega, by omega, for_range (lo := 0) (n := (n : Int).toNat)
      (fun i σ H' => ∃ (x5 x6 x7 x8 : Option V) (zs : List Str), σ = [some (.ref d), some (.int (n : Int)), some (.str z26), some (.ref f), some (.ref sm), x5, x6, x7, x8, none, none, none] ∧ zs.length = i ∧ zs.Nodup ∧ (∀ z ∈ zs, Nm z) ∧ StW H H' d g c f sm zs)
      ⟨none, none, none, none, [], rfl, rfl, List.nodup_nil, (fun z hz => by cases hz), S0⟩ ?_ ?_⟩
    · rintro i σ H1 hi ⟨x5, x6, x7, x8, zs, rfl, hlen, hnd, hnm, S1⟩
      rw [Int.toNat_natCast] at hi
      -- word = _law_pick(draw, some)
      refine ⟨.ref d, rfl, .ref sm, rfl, d, g, c, sm, words10.map V.str, rfl, S1.dr, Evl.sq_of S1.hs, by decide, by decide, fun i1 v H2 hv D2 e2 => ?_⟩
      have S2 := S1.call D2 e2
      obtain ⟨w0, rfl, hw0⟩ : ∃ w0 : Str, v = V.str w0 ∧ Nm w0 := by
        obtain ⟨z, hz, e⟩ := List.mem_map.mp (List.mem_of_getElem? hv)
        exact ⟨z, e.symm, words10_nm z hz⟩
      -- if _law_take(draw, 3) > 0
      refine ⟨fun σ' H' => ∃ (x7 : Option V) (w1 : Str), Nm w1 ∧ σ' = [some (.ref d), some (.int (n : Int)), some (.str z26), some (.ref f), some (.ref sm), some (.int (0 + (i : Int))), some (.str w1), x7, x8, none, none, none] ∧ StW H H' d g c f sm zs, ?_, ?_⟩
      · refine ⟨.ref d, rfl, d, g, c, 3, rfl, by decide, by decide, D2, fun q H3 q0 q1 D3 e3 => ?_⟩
        have S3 := S2.call D3 e3
        refine ⟨q, 0, rfl, rfl, _, rfl, ite2 (fun _ => ?_) (fun _ => ⟨x7, w0, hw0, rfl, S3⟩)⟩
        -- span = 1 + ..
        refine ⟨.ref d, rfl, .ref d, rfl, by show 3 ≤ sizeLine; decide, fun l6 hl6 => ?_⟩
        have S4 := S3.new (o := .lst [.int 1, .int 2, .int 6]) hl6
        have n6 := S3.dr.ned hl6
        refine ⟨d, g, c, l6, [.int 1, .int 2, .int 6], rfl, S4.dr, Evl.sq_of (off_of upd_same n6.1 n6.2.1), by decide, by decide, fun i2 v2 H5 hv2 D5 e5 => ?_⟩
        have S5 := S4.call D5 e5
        obtain ⟨m, rfl, hm0, hm1⟩ : ∃ m : Int, v2 = .int m ∧ 0 < m ∧ m ≤ 6 := by
          match i2, hv2 with
          | 0, hv2 => exact ⟨_, (Option.some.inj hv2).symm, by decide, by decide⟩
          | 1, hv2 => exact ⟨_, (Option.some.inj hv2).symm, by decide, by decide⟩
          | 2, hv2 => exact ⟨_, (Option.some.inj hv2).symm, by decide, by decide⟩
          | n + 3, hv2 => exact absurd hv2 (by simp)
        refine ⟨d, g, c, m, rfl, hm0, by omega, D5, fun r H6 r0 r1 D6 e6 => ?_⟩
        have S6 := S5.call D6 e6
        refine ⟨1, r, rfl, rfl, ?_⟩
        -- word = ''.join([..])
        refine ⟨⟨_, rfl⟩, .int (1 + r), rfl, 1 + r, rfl, by omega, by omega, fun D hD => lc_range (lo := 0) (n := (1 + r).toNat)
          (fun j H' => ∃ cs : List Nat, cs.length = j ∧ (∀ x ∈ cs, 97 ≤ x ∧ x ≤ 122) ∧ H' D = some (.lst (cs.map fun x => V.str (SX.S [x]))) ∧ StW H H' d g c f sm zs) ⟨[], rfl, (fun x hx => by cases hx), upd_same, S6.new hD⟩ ?_ ?_⟩
        · rintro j H7 hj ⟨cs, hcl, hcs, hD7, S7⟩
          refine ⟨rfl, ?_⟩
          refine yes_if ?_
          refine ⟨.ref d, rfl, .str z26, rfl, d, g, c, z26, rfl, S7.dr, by decide +kernel, by decide +kernel, fun i3 ch H8 hch D8 e8 => ?_⟩
          have S8 := S7.call D8 e8
          have fD := S6.free hD
          have hD8 : H8 D = some (.lst (cs.map fun x => V.str (SX.S [x]))) := ex_off d g H8 _ _ (e8 _ _ (off_of hD7 fD.2.2.2.1 fD.2.2.2.2.1))
          refine ⟨_, hD8, by rw [List.length_map]; exact small1000 (by omega), cs ++ [ch], by simp [hcl], fun x hx => ?_, ?_, S8.mut fD.1 fD.2.1 fD.2.2.1 fD.2.2.2.1 fD.2.2.2.2.1 fD.2.2.2.2.2⟩
          · rcases List.mem_append.mp hx with hx | hx
            · exact hcs x hx
            · rw [List.mem_singleton.mp hx]
              have z := List.mem_of_getElem? hch
              rw [z26_eq] at z
              obtain ⟨y, hy, rfl⟩ := List.mem_map.mp z
              have := List.mem_range.mp hy
              omega
          · rw [upd_same, List.map_append]
            rfl
        · rintro H7 ⟨cs, hcl, hcs, hD7, S7⟩
          have el : (cs.map fun x => V.str (SX.S [x])) = (cs.map fun x => SX.S [x]).map V.str := by rw [List.map_map]; rfl
          rw [el] at hD7
          have hsum : ((cs.map fun x => SX.S [x]).map (·.length)).sum = cs.length := by
            clear hD7 el hcs hcl S7
            induction cs with
            | nil => rfl
            | cons x r ih =>
              show (SX.S [x]).length + ((r.map fun x => SX.S [x]).map (·.length)).sum = r.length + 1
              rw [ih, SX.S_len]
              show 1 + r.length = r.length + 1
              omega
          refine ⟨_, D, cs.map fun x => SX.S [x], rfl, rfl, .inl (Evl.sq_of hD7), ?_, ?_⟩
          · rw [hsum, List.length_map]
            show cs.length + cs.length * 0 ≤ 16777216
            omega
          · rw [show Txt.join (Str.ofString "") (cs.map fun x => SX.S [x]) = SX.S cs from join_signs cs]
            exact ⟨_, SX.S cs, ⟨cs, rfl, by omega, by omega, hcs⟩, rfl, S7⟩
      · rintro σ' H3 ⟨x7', w1, ⟨lw, rfl, hw1, hw2, hw3⟩, rfl, S3⟩
        have lenw : (SX.S lw).length ≤ 6 := by rw [SX.S_len]; exact hw2
        -- near = [word] + [..]
        refine ⟨.str (SX.S lw), rfl, by show 1 ≤ sizeLine; decide, fun q hq => ?_⟩
        have S4 := S3.new (o := .lst [.str (SX.S lw)]) hq
        have hq4 : (upd H3 q (.lst [.str (SX.S lw)])) q = some (.lst [.str (SX.S lw)]) := upd_same
        generalize upd H3 q (.lst [.str (SX.S lw)]) = H4 at S4 hq4
        refine ⟨.str z26, rfl, z26, rfl, fun D hD => lc_it walk_str (fun j H' => H' = upd H4 D (.lst ((((List.range 26).take j).map fun k => SX.S (lw.take 5 ++ [97 + k])).map V.str))) rfl (fun _ _ _ _ => trivial) ?_ ?_⟩
        · rintro j x H5 H5' hj rfl ⟨rfl, ch, hch, rfl⟩
          refine ⟨rfl, ?_⟩
          refine yes_if ?_
          have hj' : j < 26 := hj
          have ech : ch = 97 + j := by
            have z : z26.cps.toList[j]? = some ch := by rw [Array.getElem?_toList]; exact hch
            rw [z26_eq, List.getElem?_map, List.getElem?_range hj'] at z
            exact (Option.some.inj z).symm
          subst ech
          refine ⟨.str (SX.S lw), rfl, 5, rfl, SX.S lw, rfl, Nat.le_of_lt (small1000 (by omega)), .str (SX.S [97 + j]), rfl, cutS (SX.S lw) none (some 5), SX.S [97 + j], rfl, rfl, ?_, ?_⟩
          · rw [cut5, SX.S_len, SX.S_len, List.length_take]
            show min 5 lw.length + 1 ≤ sizeLine
            exact Nat.le_of_lt (small1000 (by omega))
          · rw [cut5, SX.S_cat]
            refine ⟨_, upd_same, ?_, ?_⟩
            · rw [List.length_map, List.length_map, List.length_take, List.length_range]
              exact small1000 (by omega)
            · show upd (upd H4 D _) D _ = _
              rw [upd_upd, List.take_add_one (i := j) (l := List.range 26), List.getElem?_range hj', List.map_append, List.map_append]
              rfl
        · rintro H5 rfl
          have hDq : q ≠ D := ne_of_none hq4 hD
          have S5 := S4.new (o := .lst ((((List.range 26).take z26.cps.size).map fun k => SX.S (lw.take 5 ++ [97 + k])).map V.str)) hD
          refine ⟨q, D, _, _, rfl, rfl, by rw [upd_ne hDq]; exact hq4, upd_same, ?_, fun p hp => ?_⟩
          · rw [List.length_map, List.length_map, List.length_take, List.length_range]
            show 1 + min z26.cps.size 26 ≤ sizeLine
            exact Nat.le_of_lt (small1000 (by omega))
          · have en : ([V.str (SX.S lw)] ++ (((List.range 26).take z26.cps.size).map fun k => SX.S (lw.take 5 ++ [97 + k])).map V.str) = (near lw).map V.str := by
              rw [show z26.cps.size = 26 by decide +kernel, show (List.range 26).take 26 = List.range 26 by decide]
              rfl
            rw [en]
            have S6 := S5.new (o := .lst ((near lw).map V.str)) hp
            have hp6 : (upd (upd H4 D (.lst ((((List.range 26).take z26.cps.size).map fun k => SX.S (lw.take 5 ++ [97 + k])).map V.str))) p (.lst ((near lw).map V.str))) p = some (.lst ((near lw).map V.str)) := upd_same
            generalize upd (upd H4 D (.lst ((((List.range 26).take z26.cps.size).map fun k => SX.S (lw.take 5 ++ [97 + k])).map V.str))) p (.lst ((near lw).map V.str)) = H6 at S6 hp6
            -- found.append([..][0])
            refine ⟨.ref f, rfl, .inl ⟨rfl, _, Evl.sq_of S6.hf⟩, .ref p, rfl, p, rfl, ⟨_, Evl.sq_of hp6⟩, fun D2 hD2 => lc_list (K := K) (a := p) (xs := (near lw).map V.str)
              (fun j H' => H' = upd H6 D2 (.lst ((((near lw).take j).filter fun z => decide (z ∉ zs)).map V.str))) rfl (fun j H' _ h => by rw [h]; exact Evl.ex_l (Evl.Ex.new hD2) (Evl.sq_of hp6)) ?_ ?_⟩
            · rintro j x H7 hj rfl
              obtain ⟨z, hz, rfl⟩ : ∃ z, (near lw)[j]? = some z ∧ x = V.str z := by
                rw [List.getElem?_map] at hj
                cases e : (near lw)[j]? with
                | none => rw [e] at hj; cases hj
                | some z => rw [e] at hj; exact ⟨z, rfl, (Option.some.inj hj).symm⟩
              have hjl : j < (near lw).length := (List.getElem?_eq_some_iff.mp hz).1
              have hnl : (near lw).length = 27 := by simp [near]
              refine ⟨rfl, _, rfl, .ref f, rfl, f, _, rfl, .inl (Evl.ex_l (Evl.Ex.new hD2) (Evl.sq_of S6.hf)), rfl, flat_strs zs, _, rfl, ?_⟩
              rw [inV_str]
              have etake : (near lw).take (j + 1) = (near lw).take j ++ [z] := by rw [List.take_add_one, hz]; rfl
              by_cases hin : z ∈ zs
              · rw [decide_eq_true hin]
                show upd H6 D2 _ = _
                rw [etake, List.filter_append, List.filter_cons_of_neg (by simp [hin]), List.filter_nil, List.append_nil]
              · rw [decide_eq_false hin]
                refine ⟨_, rfl, _, upd_same, ?_, ?_⟩
                · rw [List.length_map]
                  refine small1000 (Nat.le_trans (List.length_filter_le _ _) ?_)
                  rw [List.length_take]
                  omega
                · show upd (upd H6 D2 _) D2 _ = _
                  rw [upd_upd, etake, List.filter_append, List.filter_cons_of_pos (by simp [hin]), List.filter_nil, List.map_append]
                  rfl
            · rintro H7 rfl
              rw [List.length_map, List.take_length]
              obtain ⟨z, rest, ez⟩ := near_some lw zs (by omega)
              rw [ez]
              have hzm : z ∈ (near lw).filter fun z => decide (z ∉ zs) := by rw [ez]; exact List.mem_cons_self
              have hz1 := List.mem_filter.mp hzm
              have S7 := S6.new (o := .lst ((z :: rest).map V.str)) hD2
              refine ⟨D2, _, 0, .str z, rfl, rfl, Evl.sq_of upd_same, atI_nat (j := 0) rfl, f, _, .str z, rfl, rfl, S7.hf, ?_, ?_⟩
              · rw [List.length_map]
                exact small1000 (by omega)
              · have nf2 := nf
                have nfs : f ≠ sm := S7.n3
                refine ⟨_, _, _, _, zs ++ [z], rfl, by simp [hlen], ?_, fun y hy => ?_, ?_⟩
                · exact List.nodup_append.mpr ⟨hnd, (by simp), fun a ha b hb e => of_decide_eq_true hz1.2 (List.mem_singleton.mp hb ▸ e ▸ ha)⟩
                · rcases List.mem_append.mp hy with hy | hy
                  · exact hnm y hy
                  · rw [List.mem_singleton.mp hy]
                    exact near_nm hw1 hw2 hw3 z hz1.1
                · have hs7 := off_some S7.hs
                  refine ⟨by rw [upd_same, List.map_append]; rfl, off_of (by rw [upd_ne nfs.symm]; exact hs7.2.2) hs7.1 hs7.2.1, S7.dr.mut nf2.1 nf2.2.1 nf2.2.2, off_mut S7.ex (off_free hf), S7.n1, S7.n2, S7.n3⟩
    · rintro σ H1 ⟨x5, x6, x7, x8, zs, rfl, hlen, hnd, hnm, S1⟩
      rw [Int.toNat_natCast] at hlen
      exact ⟨.ref f, rfl, k f zs H1 hlen hnd hnm S1.dr S1.ex hf (off_of S1.hf S1.n1 S1.n2)⟩
end
end Rw
end T_B3

section T_B4
set_option Elab.async false
set_option linter.all false
set_option maxRecDepth 100000
set_option maxHeartbeats 4000000
namespace Rw
open PySem L2 PyProof.Rows
section
variable {P : Program} {w : World} {K : PySem.W.Frag} {mg : Str → Option Value} {base : Heap}
theorem sc_tree : FnScope ["draw", "some", "end", "found", "ahead", "dot"] ["draw", "some", "end"] (defScope s_tree) := ⟨rfl, rfl, rfl, by decide +kernel, rfl, by decide +kernel, by decide +kernel⟩
theorem ok_tree {f fM fP : Addr} {fd fdM fdP : FuncData} (F : Fun K "_law_tree" "_law_tree" s_tree f fd)
    (M : FnOk P w K mg base CX0 3 fM fdM ["draw", "some"] (spMixed K)) (kM : PySem.W.keepIn K (.ref fM) = true) (bM : Binds K fdM ["draw", "some"] []) (gM : mg "_law_mixed" = some (.ref fM))
    (PL : FnOk P w K mg base CX0 3 fP fdP ["draw", "some"] (spPickL K)) (kP : PySem.W.keepIn K (.ref fP) = true) (bP : Binds K fdP ["draw", "some"] []) (gP : mg "_law_pick" = some (.ref fP)) :
    FnOk P w K mg base CX0 4 f fd ["draw", "some", "end"] (spTab K) := by
  refine F.ok sc_tree (fun vs H Q E h => ?_) (fun cdv A outer s H vs Q E hr h => ?_)
  · obtain ⟨d, g, c, a, zs, e, rfl, _⟩ := h
    rfl
  · obtain ⟨d, g, c, a, zs, e, rfl, D, hS, hnd, hnm, he, hez, hzl, k⟩ := h
    have nd := sc_tree.nd
    have hu := hu_of hr
    refine ⟨_, pss_cons (ps_par (i := 3) (j := 4) (by rfl) nd rfl rfl (by decide) rfl rfl (pa_cons pe_dnewK (pa_cons (pe_lst (pa_cons (pv 2) pa_nil)) pa_nil)) (by rfl))
      (pss_cons (ps_for PassesOwn.never rfl (pi_list (pe_call M hr rfl gM kM bM .nil pass0 (pa_cons (pv 0) (pa_cons (pv 1) pa_nil)))) (pg_name (i := 5) nd rfl (.inl rfl))
        (pss_cons (ps_dput hu (pv 3) (pv 5) (pe_call PL hr rfl gP kP bP .nil pass0 (pa_cons (pv 0) (pa_cons (pv 4) pa_nil))) rfl)
        (pss_one (ps_expr (pe_bm PySem.F.plainAttrs_list PySem.F.slot_list_append PySem.F.type_list_append mt_append (pv 4) (pa_cons (pv 5) pa_nil))))))
      (pss_one (ps_ret (pv 3)))), ?_⟩
    -- found, ahead = ({}, [end])
    refine fun fd0 hfd => ⟨.str e, rfl, by show 1 ≤ sizeLine; decide, fun ah hah => ⟨_, _, rfl, ?_⟩⟩
    have nfd := D.ned hfd
    have nah := (D.new hfd).ned hah
    have hah0 : H ah = none := by
      by_cases z : ah = fd0
      · rw [z, upd_same] at hah; cases hah
      · rw [upd_ne z] at hah; exact hah
    have nfa : fd0 ≠ ah := ne_of_none upd_same hah
    have D1 : DrawAt (upd (upd H fd0 (.dK [])) ah (.lst [.str e])) d g c := (D.new hfd).new hah
    have x1 : Evl.Ex (off d g H) (off d g (upd (upd H fd0 (.dK [])) ah (.lst [.str e]))) := (off_ex (Evl.Ex.new hfd)).trans (off_ex (Evl.Ex.new hah))
    have e1 : (upd (upd H fd0 (.dK [])) ah (.lst [.str e])) fd0 = some (.dK (tkv [])) := by rw [upd_ne nfa, upd_same]; rfl
    have e2 : (upd (upd H fd0 (.dK [])) ah (.lst [.str e])) ah = some (.lst ([e].map V.str)) := upd_same
    have free1 : ∀ p, (upd (upd H fd0 (.dK [])) ah (.lst [.str e])) p = none → p ≠ fd0 ∧ p ≠ ah := fun p hp => ⟨(ne_of_none e1 hp).symm, (ne_of_none e2 hp).symm⟩
    generalize upd (upd H fd0 (.dK [])) ah (.lst [.str e]) = H1 at D1 x1 e1 e2 free1
    -- for dot in _law_mixed(draw, some)
    refine ⟨.ref d, rfl, .ref a, rfl, d, g, c, a, zs.map V.str, rfl, D1, .inl (Evl.ex_l x1 hS), by rw [List.length_map]; omega, fun v hv => ?_, fun ml ys H2 hperm D2 x2 hml0 hml => ?_⟩
    · obtain ⟨z, hz, rfl⟩ := List.mem_map.mp hv
      exact nm_data (hnm z hz)
    obtain ⟨ws, rfl, hws⟩ : ∃ ws : List Str, ys = ws.map V.str ∧ ws.Perm zs := by
      have h1 : ∀ y ∈ ys, ∃ z : Str, y = V.str z := fun y hy => by
        obtain ⟨z, _, e⟩ := List.mem_map.mp (hperm.subset hy)
        exact ⟨z, e.symm⟩
      have h2 : ∀ l : List V, (∀ y ∈ l, ∃ z : Str, y = V.str z) → ∃ ws : List Str, l = ws.map V.str := fun l => by
        induction l with
        | nil => intro _; exact ⟨[], rfl⟩
        | cons y r ih =>
          intro h
          obtain ⟨z, rfl⟩ := h y List.mem_cons_self
          obtain ⟨ws, rfl⟩ := ih fun u hu => h u (List.mem_cons_of_mem _ hu)
          exact ⟨z :: ws, rfl⟩
      obtain ⟨ws, rfl⟩ := h2 ys h1
      refine ⟨ws, rfl, ?_⟩
      have := hperm.map fun v : V => match v with | .str z => z | _ => Str.empty
      rw [List.map_map, List.map_map] at this
      have i1 : ((fun v : V => match v with | .str z => z | _ => Str.empty) ∘ V.str) = id := rfl
      rw [i1, List.map_id, List.map_id] at this
      exact this
    have e3 : H2 fd0 = some (.dK (tkv [])) := ex_off d g H2 _ _ (x2 _ _ (off_of e1 nfd.1 nfd.2.1))
    have e4 : H2 ah = some (.lst ([e].map V.str)) := ex_off d g H2 _ _ (x2 _ _ (off_of e2 nah.1 nah.2.1))
    have nml := free1 ml hml0
    have hml' := off_some hml
    refine ⟨ml, rfl, ⟨_, Evl.sq_of hml'.2.2⟩, for_list (K := K) (a := ml) (xs := ws.map V.str)
      (fun i σ H' => ∃ (x5 : Option V) (tb : List (Str × V)), σ = [some (.ref d), some (.ref a), some (.str e), some (.ref fd0), some (.ref ah), x5] ∧ tb.map (·.1) = ws.take i ∧ (∀ q ∈ tb, PlaceOk zs e q.1 q.2) ∧
        H' fd0 = some (.dK (tkv tb)) ∧ H' ah = some (.lst ((e :: ws.take i).map V.str)) ∧ H' ml = some (.lst (ws.map V.str)) ∧ DrawAt H' d g c ∧ Evl.Ex (off d g H) (off d g H'))
      ⟨none, [], rfl, rfl, (fun q hq => by cases hq), e3, e4, hml'.2.2, D2, x1.trans x2⟩ (fun i σ H' _ ⟨_, _, _, _, _, _, _, h, _⟩ => Evl.sq_of h) ?_ ?_⟩
    · rintro i y σ H3 hi ⟨x5, tb, rfl, hk, hps, f1, f2, f3, D3, x3⟩
      obtain ⟨z, hz, rfl⟩ : ∃ z, ws[i]? = some z ∧ y = V.str z := by
        rw [List.getElem?_map] at hi
        cases e : ws[i]? with
        | none => rw [e] at hi; cases hi
        | some z => rw [e] at hi; exact ⟨z, rfl, (Option.some.inj hi).symm⟩
      have wnd : ws.Nodup := hws.nodup_iff.mpr hnd
      have hil : i < ws.length := (List.getElem?_eq_some_iff.mp hz).1
      have wl : ws.length ≤ 10 := by rw [hws.length_eq]; exact hzl
      have etake : ws.take (i + 1) = ws.take i ++ [z] := by rw [List.take_add_one, hz]; rfl
      have hzn : z ∉ ws.take i := fun hm => by
        have h1 : (ws.take (i + 1)).Nodup := wnd.sublist (List.take_sublist _ _)
        rw [etake] at h1
        exact (List.nodup_append.mp h1).2.2 z hm z (List.mem_singleton.mpr rfl) rfl
      have hzz : z ∈ zs := hws.subset (List.mem_of_getElem? hz)
      -- found[dot] = _law_pick(draw, ahead)
      refine ⟨.ref d, rfl, .ref ah, rfl, d, g, c, ah, (e :: ws.take i).map V.str, rfl, D3, Evl.sq_of (off_of f2 nah.1 nah.2.1), by simp, ?_, fun j v H4 hv D4 x4 => ?_⟩
      · rw [List.length_map, List.length_cons, List.length_take]
        omega
      have hpl : PlaceOk zs e z v := by
        obtain ⟨u, hu1, rfl⟩ := List.mem_map.mp (List.mem_of_getElem? hv)
        rcases List.mem_cons.mp hu1 with rfl | hu1
        · exact .inr (.inl rfl)
        · exact .inr (.inr ⟨u, hws.subset (List.mem_of_mem_take hu1), fun q => hzn (q ▸ hu1), rfl⟩)
      have g1 : H4 fd0 = some (.dK (tkv tb)) := ex_off d g H4 _ _ (x4 _ _ (off_of f1 nfd.1 nfd.2.1))
      have g2 : H4 ah = some (.lst ((e :: ws.take i).map V.str)) := ex_off d g H4 _ _ (x4 _ _ (off_of f2 nah.1 nah.2.1))
      have g3 : H4 ml = some (.lst (ws.map V.str)) := ex_off d g H4 _ _ (x4 _ _ (off_of f3 hml'.1 hml'.2.1))
      have tlen : tb.length ≤ 10 := by
        have := congrArg List.length hk
        rw [List.length_map, List.length_take] at this
        omega
      refine ⟨.ref fd0, rfl, .str z, rfl, fd0, _, rfl, DPut.k (k := Sum.inr z) g1 (by rw [tkv_len]; exact small1000 (by omega)), ?_⟩
      rw [tkv_new (by rw [hk]; exact hzn)]
      -- ahead.append(dot)
      have g2' : (upd H4 fd0 (.dK (tkv (tb ++ [(z, v)])))) ah = some (.lst ((e :: ws.take i).map V.str)) := by rw [upd_ne nfa.symm]; exact g2
      refine ⟨.ref ah, rfl, .inl ⟨rfl, _, Evl.sq_of g2'⟩, .str z, rfl, ah, _, .str z, rfl, rfl, g2', ?_, ?_⟩
      · rw [List.length_map, List.length_cons, List.length_take]
        exact small1000 (by omega)
      · refine ⟨_, tb ++ [(z, v)], rfl, ?_, ?_, ?_, ?_, ?_, (D4.mut nfd.1 nfd.2.1 nfd.2.2).mut nah.1 nah.2.1 nah.2.2, off_mut (off_mut (x3.trans x4) (off_free hfd)) (off_free hah0)⟩
        · rw [List.map_append, hk, etake]
          rfl
        · intro q hq
          rcases List.mem_append.mp hq with hq | hq
          · exact hps q hq
          · rw [List.mem_singleton.mp hq]
            exact hpl
        · rw [upd_ne nfa, upd_same]
        · rw [upd_same, etake]
          show some (HO.lst ((e :: ws.take i).map V.str ++ [V.str z])) = some (HO.lst ((e :: (ws.take i ++ [z])).map V.str))
          rw [← List.cons_append, List.map_append]
          rfl
        · rw [upd_ne nml.2, upd_ne nml.1]
          exact g3
    · rintro σ H3 ⟨x5, tb, rfl, hk, hps, f1, f2, f3, D3, x3⟩
      rw [List.length_map, List.take_length] at hk
      exact ⟨.ref fd0, rfl, k fd0 tb H3 ⟨by rw [hk]; exact hws, hps⟩ D3 x3 hfd (off_of f1 nfd.1 nfd.2.1)⟩
end
end Rw
end T_B4

section T_B5
set_option Elab.async false
set_option linter.all false
set_option maxRecDepth 100000
set_option maxHeartbeats 4000000
namespace Rw
open PySem L2 PyProof.Rows
section
variable {P : Program} {w : World} {K : PySem.W.Frag} {mg : Str → Option Value} {base : Heap}
abbrev nPath : List Str := ["draw", "some", "end", "row", "k", "dot"]
theorem sc_path : FnScope nPath ["draw", "some", "end"] (defScope s_path) := ⟨rfl, rfl, rfl, by decide +kernel, rfl, by decide +kernel, by decide +kernel⟩
theorem ok_path {f fM : Addr} {fd fdM : FuncData} (F : Fun K "_law_path" "_law_path" s_path f fd)
    (M : FnOk P w K mg base CX0 3 fM fdM ["draw", "some"] (spMixed K)) (kM : PySem.W.keepIn K (.ref fM) = true) (bM : Binds K fdM ["draw", "some"] []) (gM : mg "_law_mixed" = some (.ref fM))
    (mEnum : mg "enumerate" = none) (mDict : mg "dict" = none) :
    FnOk P w K mg base CX0 4 f fd ["draw", "some", "end"] (spTab K) := by
  refine F.ok sc_path (fun vs H Q E h => ?_) (fun cdv A outer s H vs Q E hr h => ?_)
  · obtain ⟨d, g, c, a, zs, e, rfl, _⟩ := h
    rfl
  · obtain ⟨d, g, c, a, zs, e, rfl, D, hS, hnd, hnm, he, hez, hzl, k⟩ := h
    have nd := sc_path.nd
    have hu := hu_of hr
    refine ⟨_, pss_cons (ps_set (i := 3) nd rfl (.inr rfl) (pe_op op_cat (pe_call M hr rfl gM kM bM .nil pass0 (pa_cons (pv 0) (pa_cons (pv 1) pa_nil))) (pe_lst (pa_cons (pv 2) pa_nil))))
      (pss_one (ps_ret (pe_callTy (call_dictP rfl) (by rfl) mDict (by decide +kernel) (pa_cons
        (pe_lc (own := [("k", 4), ("dot", 5)]) (g := gTup K 2 (gCons (gName 4) (gCons (gName 5) gNil))) (tt := tYes) (te := tTup (tCons (tVar 5) (tCons (tOp (rIxL K) (tVar 3) (tOp (rI0 fun i j => .int (i + j)) (tVar 4) (tC (.int 1)))) tNil))) rfl nd
          (pi_enum (by rfl) mEnum (pa_cons (pe_slice sl_list (pv 3) po_none (po_some (pe_un un_neg pe_int))) pa_nil)) (blkOk_by (own := [("k", 4), ("dot", 5)]) (N := nPath) (sc := defScope s_path) (by decide +kernel))
          (fun _ _ _ _ _ => pg_tup rfl (pgs_cons (pg_name (i := 4) nd rfl (Or.inl rfl)) (pgs_cons (pg_name (i := 5) nd rfl (Or.inl rfl)) pgs_nil))) (fun _ _ _ _ _ => pts_nil)
          (fun _ _ _ _ _ => pe_tup (pa_cons (pv 5) (pa_cons (pe_ix ix_list (pv 3) (pe_op op_add (pv 4) pe_int) (fun _ _ => rfl)) pa_nil)))) pa_nil)))), ?_⟩
    -- row = _law_mixed(draw, some) + [end]
    refine ⟨.ref d, rfl, .ref a, rfl, d, g, c, a, zs.map V.str, rfl, D, .inl hS, by rw [List.length_map]; omega, fun v hv => ?_, fun ml ys H2 hperm D2 x2 hml0 hml => ?_⟩
    · obtain ⟨z, hz, rfl⟩ := List.mem_map.mp hv
      exact nm_data (hnm z hz)
    obtain ⟨ws, rfl, hws⟩ := perm_strs hperm
    have wl : ws.length ≤ 10 := by rw [hws.length_eq]; exact hzl
    have hml' := off_some hml
    refine ⟨.str e, rfl, by show 1 ≤ sizeLine; decide, fun q hq => ?_⟩
    have nqm : ml ≠ q := ne_of_none hml'.2.2 hq
    refine ⟨ml, q, ws.map V.str, [.str e], rfl, rfl, by rw [upd_ne nqm]; exact hml'.2.2, upd_same, ?_, fun r hr0 => ?_⟩
    · rw [List.length_map]
      exact Nat.le_of_lt (small1000 (by show ws.length + 1 ≤ 1000; omega))
    have D3 : DrawAt (upd (upd H2 q (.lst [.str e])) r (.lst (ws.map V.str ++ [.str e]))) d g c := (D2.new hq).new hr0
    have x3 : Evl.Ex (off d g H) (off d g (upd (upd H2 q (.lst [.str e])) r (.lst (ws.map V.str ++ [.str e])))) := (x2.trans (off_ex (Evl.Ex.new hq))).trans (off_ex (Evl.Ex.new hr0))
    have e3 : (upd (upd H2 q (.lst [.str e])) r (.lst (ws.map V.str ++ [.str e]))) r = some (.lst ((ws ++ [e]).map V.str)) := by rw [upd_same, List.map_append]; rfl
    generalize upd (upd H2 q (.lst [.str e])) r (.lst (ws.map V.str ++ [.str e])) = H3 at D3 x3 e3
    -- dict([(dot, row[k + 1]) ..])
    refine ⟨.ref r, rfl, 1, rfl, _, rfl, r, _, rfl, Evl.sq_of e3, fun cu hcu => ?_⟩
    have ecut : cutV ((ws ++ [e]).map V.str) none (some (-1)) = ws.map V.str := by
      rw [cut_last, List.map_append]
      exact List.dropLast_concat
    rw [ecut]
    have D4 : DrawAt (upd H3 cu (.lst (ws.map V.str))) d g c := D3.new hcu
    have x4 : Evl.Ex (off d g H) (off d g (upd H3 cu (.lst (ws.map V.str)))) := x3.trans (off_ex (Evl.Ex.new hcu))
    have e4 : (upd H3 cu (.lst (ws.map V.str))) r = some (.lst ((ws ++ [e]).map V.str)) := Evl.Ex.new hcu _ _ e3
    have ec : (upd H3 cu (.lst (ws.map V.str))) cu = some (.lst (ws.map V.str)) := upd_same
    generalize upd H3 cu (.lst (ws.map V.str)) = H4 at D4 x4 e4 ec
    have wnd : ws.Nodup := hws.nodup_iff.mpr hnd
    refine ⟨cu, _, rfl, Evl.sq_of ec, fun Dl hDl => lc_it walk_enum (fun j H' => Evl.Ex H4 H' ∧ ∃ ps : List Addr, ps.length = j ∧ H' Dl = some (.lst (ps.map V.ref)) ∧ Paired (fun p kv => H' p = some (.tup [kV kv.1, kv.2])) ps (tkv ((pathTab ws e).take j)))
      ⟨Evl.Ex.new hDl, [], rfl, upd_same, .nil⟩ (fun j H' _ h => Evl.sq_of (h.1 _ _ ec)) ?_ ?_⟩
    · rintro j x H5 H5' hj ⟨x5, ps, hpl, hD5, hp5⟩ ⟨T, y1, y2, rfl, hT, rfl, hy1, hy2⟩
      cases hy1
      obtain ⟨z, hz, rfl⟩ := str_at hy2
      have hjl : j < ws.length := (List.getElem?_eq_some_iff.mp hz).1
      obtain ⟨y, hy, hget⟩ := pathTab_get (e := e) hz
      refine ⟨T, _, rfl, Evl.st_of upd_same, rfl, _, _, rfl, _, [], rfl, rfl, rfl, ?_⟩
      refine yes_if ?_
      have x6 : Evl.Ex H5 (upd H5 T (.tup [.int (j : Int), .str z])) := Evl.Ex.new hT
      refine ⟨.str z, rfl, .ref r, rfl, .int (j : Int), rfl, (j : Int), 1, rfl, rfl, r, _, (j : Int) + 1, .str y, rfl, rfl, Evl.sq_of (x6 _ _ (x5 _ _ e4)), ?_, by show 2 ≤ sizeLine; decide, fun t ht => ?_⟩
      · have h1 : ((ws ++ [e]).map V.str)[j + 1]? = some (.str y) := by rw [List.getElem?_map, hy]; rfl
        have h2 := atI_nat h1
        rw [show ((j + 1 : Nat) : Int) = (j : Int) + 1 by omega] at h2
        exact h2
      · have x7 : Evl.Ex H5 (upd (upd H5 T (.tup [.int (j : Int), .str z])) t (.tup [.str z, .str y])) := x6.trans (Evl.Ex.new ht)
        have htD : t ≠ Dl := (ne_of_none (x6 _ _ hD5) ht).symm
        refine ⟨_, x7 _ _ hD5, by rw [List.length_map]; exact small1000 (by omega), (x5.trans x7).mut hDl, ps ++ [t], by simp [hpl], by rw [upd_same, List.map_append]; rfl, ?_⟩
        have etake : (pathTab ws e).take (j + 1) = (pathTab ws e).take j ++ [(z, .str y)] := by rw [List.take_add_one, hget]; rfl
        rw [etake]
        unfold tkv
        rw [List.map_append]
        have keep : ∀ (p : Addr) (kv : Key × V), H5 p = some (.tup [kV kv.1, kv.2]) → (upd (upd (upd H5 T (.tup [.int (j : Int), .str z])) t (.tup [.str z, .str y])) Dl (.lst (ps.map V.ref ++ [V.ref t]))) p = some (.tup [kV kv.1, kv.2]) := fun p kv hp => by
          rw [upd_ne (ne_of hp hD5 (by intro z; cases z))]
          exact x7 _ _ hp
        have last : (upd (upd (upd H5 T (.tup [.int (j : Int), .str z])) t (.tup [.str z, .str y])) Dl (.lst (ps.map V.ref ++ [V.ref t]))) t = some (.tup [.str z, .str y]) := by rw [upd_ne htD, upd_same]
        exact Paired.snoc (Paired.mapP hp5 keep) last
    · rintro H5 ⟨x5, ps, hpl, hD5, hp5⟩
      rw [List.length_map] at hp5
      rw [List.take_of_length_le (by rw [← List.length_map (f := (·.1)) , pathTab_keys]; exact Nat.le_refl _)] at hp5
      refine ⟨Dl, ps, tkv (pathTab ws e), rfl, Evl.sq_of hD5, Paired.mapP hp5 (fun p kv hp => Evl.st_of hp), fun p hp => ?_⟩
      rw [merge_tkv (by rw [pathTab_keys]; exact wnd)]
      have D6 : DrawAt (upd H5 p (.dK (tkv (pathTab ws e)))) d g c := (D4.ext x5).new hp
      have np := (D4.ext x5).ned hp
      have x6 : Evl.Ex (off d g H) (off d g (upd H5 p (.dK (tkv (pathTab ws e))))) := (x4.trans (off_ex x5)).trans (off_ex (Evl.Ex.new hp))
      refine k p (pathTab ws e) _ (pathTab_ok hws hnd) D6 x6 ?_ (off_of upd_same np.1 np.2.1)
      cases q : H p with
      | none => rfl
      | some o =>
        have := ex_off d g H5 _ _ ((x4.trans (off_ex x5)) _ _ (off_of q np.1 np.2.1))
        rw [hp] at this
        cases this
end
end Rw
end T_B5

section T_B6
set_option Elab.async false
set_option linter.all false
set_option maxRecDepth 100000
set_option maxHeartbeats 4000000
namespace Rw
open PySem L2 PyProof.Rows
section
variable {P : Program} {w : World} {K : PySem.W.Frag} {mg : Str → Option Value} {base : Heap}
abbrev nWild : List Str := ["draw", "some", "end", "found", "dot", "spots", "spot"]
theorem sc_wild : FnScope nWild ["draw", "some", "end"] (defScope s_wild) := ⟨rfl, rfl, rfl, by decide +kernel, rfl, by decide +kernel, by decide +kernel⟩
theorem ok_wild {f fP : Addr} {fd fdP : FuncData} (F : Fun K "_law_wild" "_law_wild" s_wild f fd)
    (PL : FnOk P w K mg base CX0 3 fP fdP ["draw", "some"] (spPickL K)) (kP : PySem.W.keepIn K (.ref fP) = true) (bP : Binds K fdP ["draw", "some"] []) (gP : mg "_law_pick" = some (.ref fP)) :
    FnOk P w K mg base CX0 4 f fd ["draw", "some", "end"] (spTab K) := by
  refine F.ok sc_wild (fun vs H Q E h => ?_) (fun cdv A outer s H vs Q E hr h => ?_)
  · obtain ⟨d, g, c, a, zs, e, rfl, _⟩ := h
    rfl
  · obtain ⟨d, g, c, a, zs, e, rfl, D, hS, hnd, hnm, he, hez, hzl, k⟩ := h
    have nd := sc_wild.nd
    have hu := hu_of hr
    refine ⟨_, pss_cons (ps_set (i := 3) nd rfl (.inl rfl) pe_dnewK)
      (pss_cons (ps_for PassesOwn.never rfl (pi_list (pv 1)) (pg_name (i := 4) nd rfl (.inr rfl))
        (pss_cons (ps_setLc (i := 5) (own := [("spot", 6)]) (g := gName 6) (tt := tTest (tOp rNe (tVar 6) (tVar 4))) (te := tVar 6) (by rfl) nd rfl rfl (sw_true rfl rfl rfl (by decide +kernel)) (pi_list (pv 1)) (blkOk_by (own := [("spot", 6)]) (N := nWild) (sc := defScope s_wild) (by decide +kernel))
            (fun _ _ _ _ _ => pg_name (i := 6) nd rfl (Or.inl rfl)) (fun _ _ _ _ _ => pts_one (pt_cmpR op_ne (pv 6) (pv 4) (nomark _))) (fun _ _ _ _ _ => pv 6))
        (pss_one (ps_dput hu (pv 3) (pv 4) (pe_call PL hr rfl gP kP bP .nil pass0 (pa_cons (pv 0) (pa_cons (pe_op op_cat (pe_op op_cat (pv 5) (pv 5)) (pe_lst (pa_cons (pv 2) (pa_cons (pv 2) (pa_cons pe_non pa_nil))))) pa_nil))) rfl))))
      (pss_one (ps_ret (pv 3)))), ?_⟩
    -- found = {}
    intro fd0 hfd
    have nfd := D.ned hfd
    have D1 : DrawAt (upd H fd0 (.dK [])) d g c := D.new hfd
    have x1 : Evl.Ex (off d g H) (off d g (upd H fd0 (.dK []))) := off_ex (Evl.Ex.new hfd)
    have e1 : (upd H fd0 (.dK [])) fd0 = some (.dK (tkv [])) := upd_same
    generalize upd H fd0 (.dK []) = H1 at D1 x1 e1
    -- for dot in some
    refine ⟨.ref a, rfl, a, rfl, ⟨_, Evl.ex_l (x1.trans (ex_off d g H1)) hS⟩, for_list (K := K) (a := a) (xs := zs.map V.str)
      (fun i σ H' => ∃ (x4 x5 : Option V) (tb : List (Str × V)), σ = [some (.ref d), some (.ref a), some (.str e), some (.ref fd0), x4, x5, none] ∧ tb.map (·.1) = zs.take i ∧ (∀ q ∈ tb, PlaceOk zs e q.1 q.2) ∧
        H' fd0 = some (.dK (tkv tb)) ∧ DrawAt H' d g c ∧ Evl.Ex (off d g H) (off d g H'))
      ⟨none, none, [], rfl, rfl, (fun q hq => by cases hq), e1, D1, x1⟩ (fun i σ H' _ ⟨_, _, _, _, _, _, _, _, h⟩ => Evl.ex_l (h.trans (ex_off d g H')) hS) ?_ ?_⟩
    · rintro i y σ H3 hi ⟨x4, x5, tb, rfl, hk, hps, f1, D3, x3⟩
      obtain ⟨z, hz, rfl⟩ := str_at hi
      have hil : i < zs.length := (List.getElem?_eq_some_iff.mp hz).1
      have etake : zs.take (i + 1) = zs.take i ++ [z] := by rw [List.take_add_one, hz]; rfl
      have hzn : z ∉ zs.take i := fun hm => by
        have h1 : (zs.take (i + 1)).Nodup := hnd.sublist (List.take_sublist _ _)
        rw [etake] at h1
        exact (List.nodup_append.mp h1).2.2 z hm z (List.mem_singleton.mpr rfl) rfl
      -- spots = [..]
      refine ⟨.ref a, rfl, a, rfl, ⟨_, Evl.ex_l (x3.trans (ex_off d g H3)) hS⟩, fun sp hsp => lc_list (K := K) (a := a) (xs := zs.map V.str)
        (fun j H' => H' = upd H3 sp (.lst (((zs.take j).filter fun y => decide (y ≠ z)).map V.str))) rfl (fun j H' _ h => by rw [h]; exact Evl.ex_l ((x3.trans (ex_off d g H3)).trans (Evl.Ex.new hsp)) hS) ?_ ?_⟩
      · rintro j x H4 hj rfl
        obtain ⟨y, hy, rfl⟩ := str_at hj
        have hjl : j < zs.length := (List.getElem?_eq_some_iff.mp hy).1
        have et : zs.take (j + 1) = zs.take j ++ [y] := by rw [List.take_add_one, hy]; rfl
        refine ⟨rfl, .str y, rfl, .str z, rfl, rfl, _, rfl, ?_⟩
        by_cases q : y = z
        · subst q
          refine iteNS rfl ?_
          show upd H3 sp _ = _
          rw [et, List.filter_append, List.filter_cons_of_neg (by simp), List.filter_nil, List.append_nil]
        · have hq : decide (V.str y = V.str z) = false := decide_eq_false fun w => q (V.str.inj w)
          rw [hq]
          refine iteT ?_
          refine ⟨.str y, rfl, _, upd_same, ?_, ?_⟩
          · rw [List.length_map]
            refine small1000 (Nat.le_trans (List.length_filter_le _ _) ?_)
            rw [List.length_take]
            omega
          · show upd (upd H3 sp _) sp _ = _
            rw [upd_upd, et, List.filter_append, List.filter_cons_of_pos (by simp [q]), List.filter_nil, List.map_append]
            rfl
      · rintro H4 rfl
        rw [List.length_map, List.take_length]
        have hfl : (zs.filter fun y => decide (y ≠ z)).length ≤ 10 := Nat.le_trans (List.length_filter_le _ _) hzl
        have esp : (upd H3 sp (.lst ((zs.filter fun y => decide (y ≠ z)).map V.str))) sp = some (.lst ((zs.filter fun y => decide (y ≠ z)).map V.str)) := upd_same
        have x4' : Evl.Ex H3 (upd H3 sp (.lst ((zs.filter fun y => decide (y ≠ z)).map V.str))) := Evl.Ex.new hsp
        generalize upd H3 sp (.lst ((zs.filter fun y => decide (y ≠ z)).map V.str)) = H4 at esp x4'
        -- found[dot] = _law_pick(draw, spots + spots + [end, end, None])
        refine ⟨.ref d, rfl, .ref sp, rfl, .ref sp, rfl, sp, sp, _, _, rfl, rfl, esp, esp, by rw [List.length_map]; exact Nat.le_of_lt (small1000 (by omega)), fun p hp => ?_⟩
        refine ⟨.str e, rfl, .str e, rfl, by show 3 ≤ sizeLine; decide, fun q hq => ?_⟩
        have npq : p ≠ q := ne_of_none upd_same hq
        refine ⟨p, q, _, _, rfl, rfl, by rw [upd_ne npq]; exact upd_same, upd_same, ?_, fun r hr0 => ?_⟩
        · rw [List.length_append, List.length_map]
          exact Nat.le_of_lt (small1000 (by show _ + _ + 3 ≤ 1000; omega))
        have x5' := ((x4'.trans (Evl.Ex.new hp)).trans (Evl.Ex.new hq)).trans (Evl.Ex.new (o := .lst ((zs.filter fun y => decide (y ≠ z)).map V.str ++ (zs.filter fun y => decide (y ≠ z)).map V.str ++ [.str e, .str e, .non])) hr0)
        have D5 := D3.ext x5'
        have nr := (((D3.ext x4').new hp).new hq).ned hr0
        refine ⟨d, g, c, r, _, rfl, D5, Evl.sq_of (off_of upd_same nr.1 nr.2.1), ?_, ?_, fun j v H6 hv D6 x6 => ?_⟩
        · rw [List.length_append]
          exact Nat.lt_of_lt_of_le (by decide : 0 < 3) (Nat.le_add_left _ _)
        · rw [List.length_append, List.length_append, List.length_map]
          show _ + _ + 3 < _
          omega
        have hpl : PlaceOk zs e z v := by
          have hm := List.mem_of_getElem? hv
          have hf : ∀ u, u ∈ (zs.filter fun y => decide (y ≠ z)).map V.str → PlaceOk zs e z u := fun u hu => by
            obtain ⟨y, hy, rfl⟩ := List.mem_map.mp hu
            have := List.mem_filter.mp hy
            exact .inr (.inr ⟨y, this.1, of_decide_eq_true this.2, rfl⟩)
          rcases List.mem_append.mp hm with hm | hm
          · rcases List.mem_append.mp hm with hm | hm
            · exact hf v hm
            · exact hf v hm
          · rcases List.mem_cons.mp hm with rfl | hm
            · exact .inr (.inl rfl)
            · rcases List.mem_cons.mp hm with rfl | hm
              · exact .inr (.inl rfl)
              · rw [List.mem_singleton.mp hm]
                exact .inl rfl
        have x7 := (off_ex (d := d) (g := g) x5').trans x6
        have g1 : H6 fd0 = some (.dK (tkv tb)) := ex_off d g H6 _ _ (x7 _ _ (off_of f1 nfd.1 nfd.2.1))
        have tlen : tb.length ≤ 10 := by
          have := congrArg List.length hk
          rw [List.length_map, List.length_take] at this
          omega
        refine ⟨.ref fd0, rfl, .str z, rfl, fd0, _, rfl, DPut.k (k := Sum.inr z) g1 (by rw [tkv_len]; exact small1000 (by omega)), ?_⟩
        rw [tkv_new (by rw [hk]; exact hzn)]
        refine ⟨_, _, tb ++ [(z, v)], rfl, ?_, ?_, upd_same, D6.mut nfd.1 nfd.2.1 nfd.2.2, off_mut (x3.trans x7) (off_free hfd)⟩
        · rw [List.map_append, hk, etake]
          rfl
        · intro q hq
          rcases List.mem_append.mp hq with hq | hq
          · exact hps q hq
          · rw [List.mem_singleton.mp hq]
            exact hpl
    · rintro σ H3 ⟨x4, x5, tb, rfl, hk, hps, f1, D3, x3⟩
      rw [List.length_map, List.take_length] at hk
      exact ⟨.ref fd0, rfl, k fd0 tb H3 ⟨by rw [hk], hps⟩ D3 x3 hfd (off_of f1 nfd.1 nfd.2.1)⟩
end
end Rw
end T_B6

section T_B7
set_option Elab.async false
set_option linter.all false
set_option maxRecDepth 100000
set_option maxHeartbeats 4000000
namespace Rw
open PySem L2 PyProof.Rows
section
variable {P : Program} {w : World} {K : PySem.W.Frag} {mg : Str → Option Value} {base : Heap}
abbrev nNear : List Str := ["draw", "table", "end", "found", "some", "turn", "dot", "spot"]
theorem sc_near : FnScope nNear ["draw", "table", "end"] (defScope s_near) := ⟨rfl, rfl, rfl, by decide +kernel, rfl, by decide +kernel, by decide +kernel⟩
theorem ok_near {f fT fP : Addr} {fd fdT fdP : FuncData} (F : Fun K "_law_near" "_law_near" s_near f fd)
    (T : FnOk P w K mg base CX0 2 fT fdT ["draw", "size"] spTake) (kT : PySem.W.keepIn K (.ref fT) = true) (bT : Binds K fdT ["draw", "size"] []) (gT : mg "_law_take" = some (.ref fT))
    (PL : FnOk P w K mg base CX0 3 fP fdP ["draw", "some"] (spPickL K)) (kP : PySem.W.keepIn K (.ref fP) = true) (bP : Binds K fdP ["draw", "some"] []) (gP : mg "_law_pick" = some (.ref fP))
    (mDict : mg "dict" = none) (mSorted : mg "sorted" = none) (mRange : mg "range" = none) :
    FnOk P w K mg base CX0 4 f fd ["draw", "table", "end"] (spNear K) := by
  refine F.ok sc_near (fun vs H Q E h => ?_) (fun cdv A outer s H vs Q E hr h => ?_)
  · obtain ⟨d, g, c, t, zs, e, tb, rfl, _⟩ := h
    rfl
  · obtain ⟨d, g, c, t, zs, e, tb, rfl, D, ht, hT, hnd, h0, hzl, k⟩ := h
    have nd := sc_near.nd
    have hu := hu_of hr
    have hr2 : Room 2 _ := hr.mono (by decide)
    refine ⟨_, pss_cons (ps_par (i := 3) (j := 4) (by rfl) nd rfl rfl (by decide) rfl rfl (pa_cons (pe_callTy call_dictD (by rfl) mDict (by decide +kernel) (pa_cons (pv 1) pa_nil)) (pa_cons (pe_callB (call_sortedD rfl) (by rfl) mSorted (by decide +kernel) (pa_cons (pv 1) pa_nil)) pa_nil)) (by rfl))
      (pss_cons (ps_for PassesOwn.never rfl (pi_range1 (by rfl) mRange (pa_cons (pe_op op_add pe_int (pe_call T hr2 rfl gT kT bT .nil pass0 (pa_cons (pv 0) (pa_cons pe_int pa_nil)))) pa_nil)) (pg_name (i := 5) nd rfl (.inl rfl))
        (pss_cons (ps_set (i := 6) nd rfl (.inr rfl) (pe_call PL hr rfl gP kP bP .nil pass0 (pa_cons (pv 0) (pa_cons (pv 4) pa_nil))))
        (pss_one (ps_dput hu (pv 3) (pv 6) (pe_call PL hr rfl gP kP bP .nil pass0 (pa_cons (pv 0) (pa_cons (pe_op op_cat
            (pe_lc (own := [("spot", 7)]) (g := gName 7) (tt := tTest (tOp rNe (tVar 7) (tVar 6))) (te := tVar 7) rfl nd (pi_list (pv 4)) (blkOk_by (own := [("spot", 7)]) (N := nNear) (sc := defScope s_near) (by decide +kernel))
              (fun _ _ _ _ _ => pg_name (i := 7) nd rfl (Or.inl rfl)) (fun _ _ _ _ _ => pts_one (pt_cmpR op_ne (pv 7) (pv 6) (nomark _))) (fun _ _ _ _ _ => pv 7))
            (pe_lst (pa_cons (pv 2) pa_nil))) pa_nil))) rfl))))
      (pss_one (ps_ret (pv 3)))), ?_⟩
    have ht' := off_some ht
    -- found, some = (dict(table), sorted(table))
    refine ⟨.ref t, rfl, t, _, rfl, .inl ht'.2.2, fun fd0 hfd => ⟨.ref t, rfl, t, tkv tb, tb.map (·.1), rfl, .inl (Evl.Ex.new hfd _ _ ht'.2.2), ?_, ?_, fun ws so hws _ hso => ⟨_, _, rfl, ?_⟩⟩⟩
    · unfold tkv
      rw [List.map_map, List.map_map]
      rfl
    · rw [hT.ks.length_eq]
      omega
    have hwz : ws.Perm zs := hws.trans hT.ks
    have wl : ws.length = zs.length := hwz.length_eq
    have nfd := D.ned hfd
    have nso := (D.new hfd).ned hso
    have D1 : DrawAt (upd (upd H fd0 (.dK (tkv tb))) so (.lst (ws.map V.str))) d g c := (D.new hfd).new hso
    have x1 : Evl.Ex (off d g H) (off d g (upd (upd H fd0 (.dK (tkv tb))) so (.lst (ws.map V.str)))) := (off_ex (Evl.Ex.new hfd)).trans (off_ex (Evl.Ex.new hso))
    have e1 : (upd (upd H fd0 (.dK (tkv tb))) so (.lst (ws.map V.str))) fd0 = some (.dK (tkv tb)) := Evl.Ex.new hso _ _ upd_same
    have e2 : off d g (upd (upd H fd0 (.dK (tkv tb))) so (.lst (ws.map V.str))) so = some (.lst (ws.map V.str)) := off_of upd_same nso.1 nso.2.1
    have nfs : fd0 ≠ so := ne_of_none upd_same hso
    generalize upd (upd H fd0 (.dK (tkv tb))) so (.lst (ws.map V.str)) = H1 at D1 x1 e1 e2
    -- for turn in range(1 + ..)
    refine ⟨.ref d, rfl, d, g, c, 2, rfl, by decide, by decide, D1, fun n H2 n0 n1 D2 x2 => ⟨1, n, rfl, rfl, 1 + n, rfl, by omega, by omega, for_range (lo := 0) (n := (1 + n).toNat)
      (fun i σ H' => ∃ (x5 x6 : Option V) (tb' : List (Str × V)), σ = [some (.ref d), some (.ref t), some (.str e), some (.ref fd0), some (.ref so), x5, x6, none] ∧ TabOk zs e tb' ∧
        H' fd0 = some (.dK (tkv tb')) ∧ off d g H' so = some (.lst (ws.map V.str)) ∧ DrawAt H' d g c ∧ Evl.Ex (off d g H) (off d g H'))
      ⟨none, none, tb, rfl, hT, ex_off d g H2 _ _ (x2 _ _ (off_of e1 nfd.1 nfd.2.1)), x2 _ _ e2, D2, x1.trans x2⟩ ?_ ?_⟩⟩
    · rintro i σ H3 hi ⟨x5, x6, tb', rfl, hT', f1, f2, D3, x3⟩
      -- dot = _law_pick(draw, some)
      refine ⟨.ref d, rfl, .ref so, rfl, d, g, c, so, ws.map V.str, rfl, D3, Evl.sq_of f2, by rw [List.length_map]; omega, by rw [List.length_map]; omega, fun j v H4 hv D4 x4 => ?_⟩
      obtain ⟨z, hz, rfl⟩ := str_at hv
      have g1 : H4 fd0 = some (.dK (tkv tb')) := ex_off d g H4 _ _ (x4 _ _ (off_of f1 nfd.1 nfd.2.1))
      have g2 := x4 _ _ f2
      have g2' := off_some g2
      -- the places
      refine ⟨.ref d, rfl, .ref so, rfl, so, rfl, ⟨_, Evl.sq_of g2'.2.2⟩, fun sp hsp => lc_list (K := K) (a := so) (xs := ws.map V.str)
        (fun j H' => H' = upd H4 sp (.lst (((ws.take j).filter fun y => decide (y ≠ z)).map V.str))) rfl (fun j H' _ h => by rw [h]; exact Evl.ex_l (Evl.Ex.new hsp) (Evl.sq_of g2'.2.2)) ?_ ?_⟩
      · rintro j x H5 hj rfl
        obtain ⟨y, hy, rfl⟩ := str_at hj
        have hjl : j < ws.length := (List.getElem?_eq_some_iff.mp hy).1
        have et : ws.take (j + 1) = ws.take j ++ [y] := by rw [List.take_add_one, hy]; rfl
        refine ⟨rfl, .str y, rfl, .str z, rfl, rfl, _, rfl, ?_⟩
        by_cases q : y = z
        · subst q
          refine iteNS rfl ?_
          show upd H4 sp _ = _
          rw [et, List.filter_append, List.filter_cons_of_neg (by simp), List.filter_nil, List.append_nil]
        · have hq : decide (V.str y = V.str z) = false := decide_eq_false fun w => q (V.str.inj w)
          rw [hq]
          refine iteT ?_
          refine ⟨.str y, rfl, _, upd_same, ?_, ?_⟩
          · rw [List.length_map]
            refine small1000 (Nat.le_trans (List.length_filter_le _ _) ?_)
            rw [List.length_take]
            omega
          · show upd (upd H4 sp _) sp _ = _
            rw [upd_upd, et, List.filter_append, List.filter_cons_of_pos (by simp [q]), List.filter_nil, List.map_append]
            rfl
      · rintro H5 rfl
        rw [List.length_map, List.take_length]
        have hfl : (ws.filter fun y => decide (y ≠ z)).length ≤ 10 := Nat.le_trans (List.length_filter_le _ _) (by omega)
        have esp : (upd H4 sp (.lst ((ws.filter fun y => decide (y ≠ z)).map V.str))) sp = some (.lst ((ws.filter fun y => decide (y ≠ z)).map V.str)) := upd_same
        have x5' : Evl.Ex H4 (upd H4 sp (.lst ((ws.filter fun y => decide (y ≠ z)).map V.str))) := Evl.Ex.new hsp
        generalize upd H4 sp (.lst ((ws.filter fun y => decide (y ≠ z)).map V.str)) = H5 at esp x5'
        refine ⟨.str e, rfl, by show 1 ≤ sizeLine; decide, fun q hq => ?_⟩
        have npq : sp ≠ q := ne_of_none esp hq
        refine ⟨sp, q, _, _, rfl, rfl, by rw [upd_ne npq]; exact esp, upd_same, ?_, fun r hr0 => ?_⟩
        · rw [List.length_map]
          exact Nat.le_of_lt (small1000 (by show _ + 1 ≤ 1000; omega))
        have x6' := (x5'.trans (Evl.Ex.new (o := .lst [.str e]) hq)).trans (Evl.Ex.new (o := .lst ((ws.filter fun y => decide (y ≠ z)).map V.str ++ [.str e])) hr0)
        have D6 := D4.ext x6'
        have nr := ((D4.ext x5').new hq).ned hr0
        refine ⟨d, g, c, r, _, rfl, D6, Evl.sq_of (off_of upd_same nr.1 nr.2.1), ?_, ?_, fun j v H7 hv D7 x7 => ?_⟩
        · rw [List.length_append]
          exact Nat.lt_of_lt_of_le (by decide : 0 < 1) (Nat.le_add_left _ _)
        · rw [List.length_append, List.length_map]
          show _ + 1 < _
          omega
        have hpl : PlaceOk zs e z v := by
          rcases List.mem_append.mp (List.mem_of_getElem? hv) with hm | hm
          · obtain ⟨y, hy, rfl⟩ := List.mem_map.mp hm
            have := List.mem_filter.mp hy
            exact .inr (.inr ⟨y, hwz.subset this.1, of_decide_eq_true this.2, rfl⟩)
          · rw [List.mem_singleton.mp hm]
            exact .inr (.inl rfl)
        have x8 := (off_ex (d := d) (g := g) x6').trans x7
        have k1 : H7 fd0 = some (.dK (tkv tb')) := ex_off d g H7 _ _ (x8 _ _ (off_of g1 nfd.1 nfd.2.1))
        have k2 := off_some (x8 _ _ g2)
        have tl : tb'.length = zs.length := by rw [← hT'.ks.length_eq, List.length_map]
        refine ⟨.ref fd0, rfl, .str z, rfl, fd0, _, rfl, DPut.k (k := Sum.inr z) k1 (by rw [tkv_len]; exact small1000 (by omega)), ?_⟩
        rw [tkv_old (hT'.ks.mem_iff.mpr (hwz.subset (List.mem_of_getElem? hz)))]
        exact ⟨_, _, _, rfl, hT'.put hpl, upd_same, off_of (by rw [upd_ne nfs.symm]; exact k2.2.2) k2.1 k2.2.1, D7.mut nfd.1 nfd.2.1 nfd.2.2, off_mut ((x3.trans x4).trans x8) (off_free hfd)⟩
    · rintro σ H3 ⟨x5, x6, tb', rfl, hT', f1, f2, D3, x3⟩
      exact ⟨.ref fd0, rfl, k fd0 tb' H3 hT' D3 x3 hfd (off_of f1 nfd.1 nfd.2.1)⟩
end
end Rw
end T_B7

section T_B8
set_option Elab.async false
set_option linter.all false
set_option maxRecDepth 100000
set_option maxHeartbeats 4000000
namespace Rw
open PySem L2 PyProof.Rows
section
variable {P : Program} {w : World} {K : PySem.W.Frag} {mg : Str → Option Value} {base : Heap}
abbrev nPair : List Str := ["draw", "some", "end", "sort", "old"]
theorem sc_pair : FnScope nPair ["draw", "some", "end"] (defScope s_pair) := ⟨rfl, rfl, rfl, by decide +kernel, rfl, by decide +kernel, by decide +kernel⟩
theorem ok_pair {f fT f1 f2 f3 f4 : Addr} {fd fdT fd1 fd2 fd3 fd4 : FuncData} (F : Fun K "_law_pair" "_law_pair" s_pair f fd)
    (T : FnOk P w K mg base CX0 2 fT fdT ["draw", "size"] spTake) (kT : PySem.W.keepIn K (.ref fT) = true) (bT : Binds K fdT ["draw", "size"] []) (gT : mg "_law_take" = some (.ref fT))
    (T1 : FnOk P w K mg base CX0 4 f1 fd1 ["draw", "some", "end"] (spTab K)) (k1 : PySem.W.keepIn K (.ref f1) = true) (b1 : Binds K fd1 ["draw", "some", "end"] []) (g1 : mg "_law_tree" = some (.ref f1))
    (T2 : FnOk P w K mg base CX0 4 f2 fd2 ["draw", "some", "end"] (spTab K)) (k2 : PySem.W.keepIn K (.ref f2) = true) (b2 : Binds K fd2 ["draw", "some", "end"] []) (g2 : mg "_law_path" = some (.ref f2))
    (T3 : FnOk P w K mg base CX0 4 f3 fd3 ["draw", "some", "end"] (spTab K)) (k3 : PySem.W.keepIn K (.ref f3) = true) (b3 : Binds K fd3 ["draw", "some", "end"] []) (g3 : mg "_law_wild" = some (.ref f3))
    (T4 : FnOk P w K mg base CX0 4 f4 fd4 ["draw", "table", "end"] (spNear K)) (k4 : PySem.W.keepIn K (.ref f4) = true) (b4 : Binds K fd4 ["draw", "table", "end"] []) (g4 : mg "_law_near" = some (.ref f4)) :
    FnOk P w K mg base CX0 5 f fd ["draw", "some", "end"] (spPair K) := by
  refine F.ok sc_pair (fun vs H Q E h => ?_) (fun cdv A outer s H vs Q E hr h => ?_)
  · obtain ⟨d, g, c, a, zs, e, rfl, _⟩ := h
    rfl
  · obtain ⟨d, g, c, a, zs, e, rfl, D, hS, hnd, hnm, he, hez, h0, hzl, k⟩ := h
    have nd := sc_pair.nd
    have hu := hu_of hr
    have hr2 : Room 2 _ := hr.mono (by decide)
    have a3 : ∀ {X : Cx}, True := trivial
    refine ⟨_, pss_cons (ps_set (i := 3) nd rfl (.inl rfl) (pe_call T hr2 rfl gT kT bT .nil pass0 (pa_cons (pv 0) (pa_cons pe_int pa_nil))))
      (pss_cons (ps_if (pt_cmpR op_lt (pv 3) pe_int (nomark _)) (pss_one (ps_ret (pe_tup (pa_cons (pe_call T1 hr rfl g1 k1 b1 .nil pass0 (pa_cons (pv 0) (pa_cons (pv 1) (pa_cons (pv 2) pa_nil)))) (pa_cons (pe_call T1 hr rfl g1 k1 b1 .nil pass0 (pa_cons (pv 0) (pa_cons (pv 1) (pa_cons (pv 2) pa_nil)))) pa_nil))))) pss_nil)
      (pss_cons (ps_if (pt_cmpR op_eq (pv 3) pe_int (nomark _)) (pss_one (ps_ret (pe_tup (pa_cons (pe_call T2 hr rfl g2 k2 b2 .nil pass0 (pa_cons (pv 0) (pa_cons (pv 1) (pa_cons (pv 2) pa_nil)))) (pa_cons (pe_call T2 hr rfl g2 k2 b2 .nil pass0 (pa_cons (pv 0) (pa_cons (pv 1) (pa_cons (pv 2) pa_nil)))) pa_nil))))) pss_nil)
      (pss_cons (ps_set (i := 4) nd rfl (.inl rfl) (pe_ifExp (pt_cmpR op_eq (pv 3) pe_int (nomark _)) (pe_call T1 hr rfl g1 k1 b1 .nil pass0 (pa_cons (pv 0) (pa_cons (pv 1) (pa_cons (pv 2) pa_nil)))) (pe_call T3 hr rfl g3 k3 b3 .nil pass0 (pa_cons (pv 0) (pa_cons (pv 1) (pa_cons (pv 2) pa_nil))))))
      (pss_one (ps_ret (pe_tup (pa_cons (pv 4) (pa_cons (pe_ifExp (pt_cmpR op_eq (pv 3) pe_int (nomark _)) (pe_call T4 hr rfl g4 k4 b4 .nil pass0 (pa_cons (pv 0) (pa_cons (pv 4) (pa_cons (pv 2) pa_nil)))) (pe_call T3 hr rfl g3 k3 b3 .nil pass0 (pa_cons (pv 0) (pa_cons (pv 1) (pa_cons (pv 2) pa_nil))))) pa_nil)))))))), ?_⟩
    -- a pair of two new tables
    have fin : ∀ {H1 H2 H3 : Hp} {p1 p2 : Addr} {t1 t2 : List (Str × V)}, Evl.Ex (off d g H) (off d g H2) → Evl.Ex (off d g H2) (off d g H3) → off d g H2 p1 = some (.dK (tkv t1)) → off d g H3 p2 = some (.dK (tkv t2)) → TabOk zs e t1 → TabOk zs e t2 → DrawAt H3 d g c → H p1 = none → H p2 = none →
        ∀ p, H3 p = none → Q (.ref p) (upd H3 p (.tup [.ref p1, .ref p2])) := fun {H1 H2 H3 p1 p2 t1 t2} x1 x2 q1 q2 o1 o2 D3 f1 f2 p hp => by
      have np := D3.ned hp
      have x3 := off_ex (d := d) (g := g) (Evl.Ex.new (o := .tup [.ref p1, .ref p2]) hp)
      exact k p p1 p2 t1 t2 _ (D3.new hp) ((x1.trans x2).trans x3) ⟨off_of upd_same np.1 np.2.1, x3 _ _ (x2 _ _ q1), x3 _ _ q2, o1, o2⟩ (ex_free (x1.trans x2) np.1 np.2.1 hp) f1 f2
    refine ⟨.ref d, rfl, d, g, c, 6, rfl, by decide, by decide, D, fun n H1 n0 n1 D1 x1 => ?_⟩
    refine ⟨_, rfl, n, 3, rfl, rfl, _, rfl, ite2 (fun _ => ?_) (fun _ => ?_)⟩
    · refine ⟨.ref d, rfl, .ref a, rfl, .str e, rfl, d, g, c, a, zs, e, rfl, D1, Evl.ex_l x1 hS, hnd, hnm, he, hez, hzl, fun p1 t1 H2 o1 D2 x2 w1 q1 => ?_⟩
      refine ⟨.ref d, rfl, .ref a, rfl, .str e, rfl, d, g, c, a, zs, e, rfl, D2, Evl.ex_l (x1.trans x2) hS, hnd, hnm, he, hez, hzl, fun p2 t2 H3 o2 D3 x3 w2 q2 => ⟨by show 2 ≤ sizeLine; decide, fin (H1 := H1) (x1.trans x2) x3 q1 q2 o1 o2 D3 (ex_free x1 (off_some q1).1 (off_some q1).2.1 w1) (ex_free (x1.trans x2) (off_some q2).1 (off_some q2).2.1 w2)⟩⟩
    · refine ⟨_, rfl, rfl, _, rfl, ite2 (fun _ => ?_) (fun _ => ?_)⟩
      · refine ⟨.ref d, rfl, .ref a, rfl, .str e, rfl, d, g, c, a, zs, e, rfl, D1, Evl.ex_l x1 hS, hnd, hnm, he, hez, hzl, fun p1 t1 H2 o1 D2 x2 w1 q1 => ?_⟩
        refine ⟨.ref d, rfl, .ref a, rfl, .str e, rfl, d, g, c, a, zs, e, rfl, D2, Evl.ex_l (x1.trans x2) hS, hnd, hnm, he, hez, hzl, fun p2 t2 H3 o2 D3 x3 w2 q2 => ⟨by show 2 ≤ sizeLine; decide, fin (H1 := H1) (x1.trans x2) x3 q1 q2 o1 o2 D3 (ex_free x1 (off_some q1).1 (off_some q1).2.1 w1) (ex_free (x1.trans x2) (off_some q2).1 (off_some q2).2.1 w2)⟩⟩
      · refine ⟨_, rfl, rfl, _, rfl, ite2 (fun h4 => ?_) (fun h4 => ?_)⟩
        · refine ⟨.ref d, rfl, .ref a, rfl, .str e, rfl, d, g, c, a, zs, e, rfl, D1, Evl.ex_l x1 hS, hnd, hnm, he, hez, hzl, fun p1 t1 H2 o1 D2 x2 w1 q1 => ?_⟩
          refine ⟨_, rfl, _, rfl, rfl, _, rfl, ite2 (fun _ => ?_) (fun h5 => absurd h4 h5)⟩
          refine ⟨.ref d, rfl, .ref p1, rfl, .str e, rfl, d, g, c, p1, zs, e, t1, rfl, D2, q1, o1, hnd, h0, hzl, fun p2 t2 H3 o2 D3 x3 w2 q2 => ⟨by show 2 ≤ sizeLine; decide, fin (H1 := H1) (x1.trans x2) x3 q1 q2 o1 o2 D3 (ex_free x1 (off_some q1).1 (off_some q1).2.1 w1) (ex_free (x1.trans x2) (off_some q2).1 (off_some q2).2.1 w2)⟩⟩
        · refine ⟨.ref d, rfl, .ref a, rfl, .str e, rfl, d, g, c, a, zs, e, rfl, D1, Evl.ex_l x1 hS, hnd, hnm, he, hez, hzl, fun p1 t1 H2 o1 D2 x2 w1 q1 => ?_⟩
          refine ⟨_, rfl, _, rfl, rfl, _, rfl, ite2 (fun h5 => absurd h5 h4) (fun _ => ?_)⟩
          refine ⟨.ref d, rfl, .ref a, rfl, .str e, rfl, d, g, c, a, zs, e, rfl, D2, Evl.ex_l (x1.trans x2) hS, hnd, hnm, he, hez, hzl, fun p2 t2 H3 o2 D3 x3 w2 q2 => ⟨by show 2 ≤ sizeLine; decide, fin (H1 := H1) (x1.trans x2) x3 q1 q2 o1 o2 D3 (ex_free x1 (off_some q1).1 (off_some q1).2.1 w1) (ex_free (x1.trans x2) (off_some q2).1 (off_some q2).2.1 w2)⟩⟩
end
end Rw
end T_B8

section T_Z0
set_option Elab.async false
set_option linter.all false
set_option maxRecDepth 100000
set_option maxHeartbeats 8000000
namespace Rw
open PySem L2 PyProof.Rows
theorem all_mk {P : Program} {w : World} {K : PySem.W.Frag} {h : Heap} {mg : Str → Option Value} {fa : Addr} (X : K.In h) (G : h.Ns mainGlobals mg) (hfa : mg "law" = some (.ref fa))
    {C fI TI q1 q2 : Addr} {odI anI odT : Option Addr} {slI slT : Array (Option Value)} {ocI kVI dcI pmI cdI ctI ocT : Value} {nT : Nat}
    {f_s_begin : Addr} {od_s_begin an_s_begin : Option Addr} {sl_s_begin : Array (Option Value)} {oc_s_begin kV_s_begin dc_s_begin pm_s_begin cd_s_begin ct_s_begin : Value}
    {f_s_blend : Addr} {od_s_blend an_s_blend : Option Addr} {sl_s_blend : Array (Option Value)} {oc_s_blend kV_s_blend dc_s_blend pm_s_blend cd_s_blend ct_s_blend : Value}
    {f_s_take : Addr} {od_s_take an_s_take : Option Addr} {sl_s_take : Array (Option Value)} {oc_s_take kV_s_take dc_s_take pm_s_take cd_s_take ct_s_take : Value}
    {f_s_pick : Addr} {od_s_pick an_s_pick : Option Addr} {sl_s_pick : Array (Option Value)} {oc_s_pick kV_s_pick dc_s_pick pm_s_pick cd_s_pick ct_s_pick : Value}
    {f_s_mixed : Addr} {od_s_mixed an_s_mixed : Option Addr} {sl_s_mixed : Array (Option Value)} {oc_s_mixed kV_s_mixed dc_s_mixed pm_s_mixed cd_s_mixed ct_s_mixed : Value}
    {f_s_words : Addr} {od_s_words an_s_words : Option Addr} {sl_s_words : Array (Option Value)} {oc_s_words kV_s_words dc_s_words pm_s_words cd_s_words ct_s_words : Value}
    {f_s_tree : Addr} {od_s_tree an_s_tree : Option Addr} {sl_s_tree : Array (Option Value)} {oc_s_tree kV_s_tree dc_s_tree pm_s_tree cd_s_tree ct_s_tree : Value}
    {f_s_path : Addr} {od_s_path an_s_path : Option Addr} {sl_s_path : Array (Option Value)} {oc_s_path kV_s_path dc_s_path pm_s_path cd_s_path ct_s_path : Value}
    {f_s_wild : Addr} {od_s_wild an_s_wild : Option Addr} {sl_s_wild : Array (Option Value)} {oc_s_wild kV_s_wild dc_s_wild pm_s_wild cd_s_wild ct_s_wild : Value}
    {f_s_near : Addr} {od_s_near an_s_near : Option Addr} {sl_s_near : Array (Option Value)} {oc_s_near kV_s_near dc_s_near pm_s_near cd_s_near ct_s_near : Value}
    {f_s_pair : Addr} {od_s_pair an_s_pair : Option Addr} {sl_s_pair : Array (Option Value)} {oc_s_pair kV_s_pair dc_s_pair pm_s_pair cd_s_pair ct_s_pair : Value}
    {f_s_model : Addr} {od_s_model an_s_model : Option Addr} {sl_s_model : Array (Option Value)} {oc_s_model kV_s_model dc_s_model pm_s_model cd_s_model ct_s_model : Value}
    {f_s_net : Addr} {od_s_net an_s_net : Option Addr} {sl_s_net : Array (Option Value)} {oc_s_net kV_s_net dc_s_net pm_s_net cd_s_net ct_s_net : Value}
    {f_s_moving_dots : Addr} {od_s_moving_dots an_s_moving_dots : Option Addr} {sl_s_moving_dots : Array (Option Value)} {oc_s_moving_dots kV_s_moving_dots dc_s_moving_dots pm_s_moving_dots cd_s_moving_dots ct_s_moving_dots : Value}
    {f_s_round : Addr} {od_s_round an_s_round : Option Addr} {sl_s_round : Array (Option Value)} {oc_s_round kV_s_round dc_s_round pm_s_round cd_s_round ct_s_round : Value}
    {f_s_named : Addr} {od_s_named an_s_named : Option Addr} {sl_s_named : Array (Option Value)} {oc_s_named kV_s_named dc_s_named pm_s_named cd_s_named ct_s_named : Value}
    {f_s_turned_right : Addr} {od_s_turned_right an_s_turned_right : Option Addr} {sl_s_turned_right : Array (Option Value)} {oc_s_turned_right kV_s_turned_right dc_s_turned_right pm_s_turned_right cd_s_turned_right ct_s_turned_right : Value}
    {f_s_parts_right : Addr} {od_s_parts_right an_s_parts_right : Option Addr} {sl_s_parts_right : Array (Option Value)} {oc_s_parts_right kV_s_parts_right dc_s_parts_right pm_s_parts_right cd_s_parts_right ct_s_parts_right : Value}
    {f_s_named_right : Addr} {od_s_named_right an_s_named_right : Option Addr} {sl_s_named_right : Array (Option Value)} {oc_s_named_right kV_s_named_right dc_s_named_right pm_s_named_right cd_s_named_right ct_s_named_right : Value}
    {f_p_is_list : Addr} {od_p_is_list an_p_is_list : Option Addr} {sl_p_is_list : Array (Option Value)} {oc_p_is_list kV_p_is_list dc_p_is_list pm_p_is_list cd_p_is_list ct_p_is_list : Value}
    {f_p_is_name : Addr} {od_p_is_name an_p_is_name : Option Addr} {sl_p_is_name : Array (Option Value)} {oc_p_is_name kV_p_is_name dc_p_is_name pm_p_is_name cd_p_is_name ct_p_is_name : Value}
    {f_p_is_place : Addr} {od_p_is_place an_p_is_place : Option Addr} {sl_p_is_place : Array (Option Value)} {oc_p_is_place kV_p_is_place dc_p_is_place pm_p_is_place cd_p_is_place ct_p_is_place : Value}
    {f_p_is_table : Addr} {od_p_is_table an_p_is_table : Option Addr} {sl_p_is_table : Array (Option Value)} {oc_p_is_table kV_p_is_table dc_p_is_table pm_p_is_table cd_p_is_table ct_p_is_table : Value}
    {f_p_are_different : Addr} {od_p_are_different an_p_are_different : Option Addr} {sl_p_are_different : Array (Option Value)} {oc_p_are_different kV_p_are_different dc_p_are_different pm_p_are_different cd_p_are_different ct_p_are_different : Value}
    {f_p_are_nodes : Addr} {od_p_are_nodes an_p_are_nodes : Option Addr} {sl_p_are_nodes : Array (Option Value)} {oc_p_are_nodes kV_p_are_nodes dc_p_are_nodes pm_p_are_nodes cd_p_are_nodes ct_p_are_nodes : Value}
    {f_p_is_pair_of_dicts : Addr} {od_p_is_pair_of_dicts an_p_is_pair_of_dicts : Option Addr} {sl_p_is_pair_of_dicts : Array (Option Value)} {oc_p_is_pair_of_dicts kV_p_is_pair_of_dicts dc_p_is_pair_of_dicts pm_p_is_pair_of_dicts cd_p_is_pair_of_dicts ct_p_is_pair_of_dicts : Value}
    {f_p_are_tables : Addr} {od_p_are_tables an_p_are_tables : Option Addr} {sl_p_are_tables : Array (Option Value)} {oc_p_are_tables kV_p_are_tables dc_p_are_tables pm_p_are_tables cd_p_are_tables ct_p_are_tables : Value}
    {f_p_check_net : Addr} {od_p_check_net an_p_check_net : Option Addr} {sl_p_check_net : Array (Option Value)} {oc_p_check_net kV_p_check_net dc_p_check_net pm_p_check_net cd_p_check_net ct_p_check_net : Value}
    {f_p_check_goal : Addr} {od_p_check_goal an_p_check_goal : Option Addr} {sl_p_check_goal : Array (Option Value)} {oc_p_check_goal kV_p_check_goal dc_p_check_goal pm_p_check_goal cd_p_check_goal ct_p_check_goal : Value}
    {f_p_check_lot : Addr} {od_p_check_lot an_p_check_lot : Option Addr} {sl_p_check_lot : Array (Option Value)} {oc_p_check_lot kV_p_check_lot dc_p_check_lot pm_p_check_lot cd_p_check_lot ct_p_check_lot : Value}
    {f_p_check_round : Addr} {od_p_check_round an_p_check_round : Option Addr} {sl_p_check_round : Array (Option Value)} {oc_p_check_round kV_p_check_round dc_p_check_round pm_p_check_round cd_p_check_round ct_p_check_round : Value}
    {f_p_is_lot_of : Addr} {od_p_is_lot_of an_p_is_lot_of : Option Addr} {sl_p_is_lot_of : Array (Option Value)} {oc_p_is_lot_of kV_p_is_lot_of dc_p_is_lot_of pm_p_is_lot_of cd_p_is_lot_of ct_p_is_lot_of : Value}
    {f_g_goals : Addr} {od_g_goals an_g_goals : Option Addr} {sl_g_goals : Array (Option Value)} {oc_g_goals kV_g_goals dc_g_goals pm_g_goals cd_g_goals ct_g_goals : Value}
    {p_g_goals : Addr} {r_g_goals : List Value}
    {f_g_nodes : Addr} {od_g_nodes an_g_nodes : Option Addr} {sl_g_nodes : Array (Option Value)} {oc_g_nodes kV_g_nodes dc_g_nodes pm_g_nodes cd_g_nodes ct_g_nodes : Value}
    {p_g_nodes : Addr} {r_g_nodes : List Value}
    {f_g_changing : Addr} {od_g_changing an_g_changing : Option Addr} {sl_g_changing : Array (Option Value)} {oc_g_changing kV_g_changing dc_g_changing pm_g_changing cd_g_changing ct_g_changing : Value}
    {p_g_changing : Addr} {r_g_changing : List Value}
    {f_p_check_node : Addr} {od_p_check_node an_p_check_node : Option Addr} {sl_p_check_node : Array (Option Value)} {oc_p_check_node kV_p_check_node dc_p_check_node pm_p_check_node cd_p_check_node ct_p_check_node : Value}
    {f_p_followed : Addr} {od_p_followed an_p_followed : Option Addr} {sl_p_followed : Array (Option Value)} {oc_p_followed kV_p_followed dc_p_followed pm_p_followed cd_p_followed ct_p_followed : Value}
    {f_p_ways : Addr} {od_p_ways an_p_ways : Option Addr} {sl_p_ways : Array (Option Value)} {oc_p_ways kV_p_ways dc_p_ways pm_p_ways cd_p_ways ct_p_ways : Value}
    {f_p_ring : Addr} {od_p_ring an_p_ring : Option Addr} {sl_p_ring : Array (Option Value)} {oc_p_ring kV_p_ring dc_p_ring pm_p_ring cd_p_ring ct_p_ring : Value}
    {f_p_least_ring : Addr} {od_p_least_ring an_p_least_ring : Option Addr} {sl_p_least_ring : Array (Option Value)} {oc_p_least_ring kV_p_least_ring dc_p_least_ring pm_p_least_ring cd_p_least_ring ct_p_least_ring : Value}
    {f_p_ranks : Addr} {od_p_ranks an_p_ranks : Option Addr} {sl_p_ranks : Array (Option Value)} {oc_p_ranks kV_p_ranks dc_p_ranks pm_p_ranks cd_p_ranks ct_p_ranks : Value}
    {f_p_least_ranks : Addr} {od_p_least_ranks an_p_least_ranks : Option Addr} {sl_p_least_ranks : Array (Option Value)} {oc_p_least_ranks kV_p_least_ranks dc_p_least_ranks pm_p_least_ranks cd_p_least_ranks ct_p_least_ranks : Value}
    {f_p_led : Addr} {od_p_led an_p_led : Option Addr} {sl_p_led : Array (Option Value)} {oc_p_led kV_p_led dc_p_led pm_p_led cd_p_led ct_p_led : Value}
    {f_p_reached : Addr} {od_p_reached an_p_reached : Option Addr} {sl_p_reached : Array (Option Value)} {oc_p_reached kV_p_reached dc_p_reached pm_p_reached cd_p_reached ct_p_reached : Value}
    {f_p_nodes_reached : Addr} {od_p_nodes_reached an_p_nodes_reached : Option Addr} {sl_p_nodes_reached : Array (Option Value)} {oc_p_nodes_reached kV_p_nodes_reached dc_p_nodes_reached pm_p_nodes_reached cd_p_nodes_reached ct_p_nodes_reached : Value}
    {f_p_ways_at : Addr} {od_p_ways_at an_p_ways_at : Option Addr} {sl_p_ways_at : Array (Option Value)} {oc_p_ways_at kV_p_ways_at dc_p_ways_at pm_p_ways_at cd_p_ways_at ct_p_ways_at : Value}
    {f_p_nodes_behind : Addr} {od_p_nodes_behind an_p_nodes_behind : Option Addr} {sl_p_nodes_behind : Array (Option Value)} {oc_p_nodes_behind kV_p_nodes_behind dc_p_nodes_behind pm_p_nodes_behind cd_p_nodes_behind ct_p_nodes_behind : Value}
    {f_g_tables : Addr} {od_g_tables an_g_tables : Option Addr} {sl_g_tables : Array (Option Value)} {oc_g_tables kV_g_tables dc_g_tables pm_g_tables cd_g_tables ct_g_tables : Value}
    {p_g_tables : Addr} {r_g_tables : List Value}
    {f_m_way : Addr} {od_m_way an_m_way : Option Addr} {sl_m_way : Array (Option Value)} {oc_m_way kV_m_way dc_m_way pm_m_way cd_m_way ct_m_way : Value}
    {f_m_turned : Addr} {od_m_turned an_m_turned : Option Addr} {sl_m_turned : Array (Option Value)} {oc_m_turned kV_m_turned dc_m_turned pm_m_turned cd_m_turned ct_m_turned : Value}
    {f_law : Addr} {od_law an_law : Option Addr} {sl_law : Array (Option Value)} {oc_law kV_law dc_law pm_law cd_law ct_law : Value}
    {t_MOST_POSTS : Tok}
    {t_MOST_NODES : Tok}
    {t_MOST_GOALS : Tok}
    {t_MOST_LETTERS : Tok}
    (aC : PySem.W.nsIn K mainGlobals "Net" = some (some (.ref C)))
    (a_s_begin : PySem.W.nsIn K mainGlobals "_law_begin" = some (some (.ref f_s_begin)))
    (l_s_begin : K.lookup f_s_begin = some ⟨oc_s_begin, od_s_begin, .func (PySem.W.fnOf "_law_begin" "_law_begin" (defArgs s_begin) (defBody s_begin) (defScope s_begin) .none kV_s_begin dc_s_begin pm_s_begin an_s_begin cd_s_begin ct_s_begin), sl_s_begin⟩)
    (c_s_begin : PySem.W.codeIn K cd_s_begin "_law_begin" = true)
    (k_s_begin : PySem.W.keepIn K (.ref f_s_begin) = true)
    (a_s_blend : PySem.W.nsIn K mainGlobals "_law_blend" = some (some (.ref f_s_blend)))
    (l_s_blend : K.lookup f_s_blend = some ⟨oc_s_blend, od_s_blend, .func (PySem.W.fnOf "_law_blend" "_law_blend" (defArgs s_blend) (defBody s_blend) (defScope s_blend) .none kV_s_blend dc_s_blend pm_s_blend an_s_blend cd_s_blend ct_s_blend), sl_s_blend⟩)
    (c_s_blend : PySem.W.codeIn K cd_s_blend "_law_blend" = true)
    (k_s_blend : PySem.W.keepIn K (.ref f_s_blend) = true)
    (a_s_take : PySem.W.nsIn K mainGlobals "_law_take" = some (some (.ref f_s_take)))
    (l_s_take : K.lookup f_s_take = some ⟨oc_s_take, od_s_take, .func (PySem.W.fnOf "_law_take" "_law_take" (defArgs s_take) (defBody s_take) (defScope s_take) .none kV_s_take dc_s_take pm_s_take an_s_take cd_s_take ct_s_take), sl_s_take⟩)
    (c_s_take : PySem.W.codeIn K cd_s_take "_law_take" = true)
    (k_s_take : PySem.W.keepIn K (.ref f_s_take) = true)
    (a_s_pick : PySem.W.nsIn K mainGlobals "_law_pick" = some (some (.ref f_s_pick)))
    (l_s_pick : K.lookup f_s_pick = some ⟨oc_s_pick, od_s_pick, .func (PySem.W.fnOf "_law_pick" "_law_pick" (defArgs s_pick) (defBody s_pick) (defScope s_pick) .none kV_s_pick dc_s_pick pm_s_pick an_s_pick cd_s_pick ct_s_pick), sl_s_pick⟩)
    (c_s_pick : PySem.W.codeIn K cd_s_pick "_law_pick" = true)
    (k_s_pick : PySem.W.keepIn K (.ref f_s_pick) = true)
    (a_s_mixed : PySem.W.nsIn K mainGlobals "_law_mixed" = some (some (.ref f_s_mixed)))
    (l_s_mixed : K.lookup f_s_mixed = some ⟨oc_s_mixed, od_s_mixed, .func (PySem.W.fnOf "_law_mixed" "_law_mixed" (defArgs s_mixed) (defBody s_mixed) (defScope s_mixed) .none kV_s_mixed dc_s_mixed pm_s_mixed an_s_mixed cd_s_mixed ct_s_mixed), sl_s_mixed⟩)
    (c_s_mixed : PySem.W.codeIn K cd_s_mixed "_law_mixed" = true)
    (k_s_mixed : PySem.W.keepIn K (.ref f_s_mixed) = true)
    (a_s_words : PySem.W.nsIn K mainGlobals "_law_words" = some (some (.ref f_s_words)))
    (l_s_words : K.lookup f_s_words = some ⟨oc_s_words, od_s_words, .func (PySem.W.fnOf "_law_words" "_law_words" (defArgs s_words) (defBody s_words) (defScope s_words) .none kV_s_words dc_s_words pm_s_words an_s_words cd_s_words ct_s_words), sl_s_words⟩)
    (c_s_words : PySem.W.codeIn K cd_s_words "_law_words" = true)
    (k_s_words : PySem.W.keepIn K (.ref f_s_words) = true)
    (a_s_tree : PySem.W.nsIn K mainGlobals "_law_tree" = some (some (.ref f_s_tree)))
    (l_s_tree : K.lookup f_s_tree = some ⟨oc_s_tree, od_s_tree, .func (PySem.W.fnOf "_law_tree" "_law_tree" (defArgs s_tree) (defBody s_tree) (defScope s_tree) .none kV_s_tree dc_s_tree pm_s_tree an_s_tree cd_s_tree ct_s_tree), sl_s_tree⟩)
    (c_s_tree : PySem.W.codeIn K cd_s_tree "_law_tree" = true)
    (k_s_tree : PySem.W.keepIn K (.ref f_s_tree) = true)
    (a_s_path : PySem.W.nsIn K mainGlobals "_law_path" = some (some (.ref f_s_path)))
    (l_s_path : K.lookup f_s_path = some ⟨oc_s_path, od_s_path, .func (PySem.W.fnOf "_law_path" "_law_path" (defArgs s_path) (defBody s_path) (defScope s_path) .none kV_s_path dc_s_path pm_s_path an_s_path cd_s_path ct_s_path), sl_s_path⟩)
    (c_s_path : PySem.W.codeIn K cd_s_path "_law_path" = true)
    (k_s_path : PySem.W.keepIn K (.ref f_s_path) = true)
    (a_s_wild : PySem.W.nsIn K mainGlobals "_law_wild" = some (some (.ref f_s_wild)))
    (l_s_wild : K.lookup f_s_wild = some ⟨oc_s_wild, od_s_wild, .func (PySem.W.fnOf "_law_wild" "_law_wild" (defArgs s_wild) (defBody s_wild) (defScope s_wild) .none kV_s_wild dc_s_wild pm_s_wild an_s_wild cd_s_wild ct_s_wild), sl_s_wild⟩)
    (c_s_wild : PySem.W.codeIn K cd_s_wild "_law_wild" = true)
    (k_s_wild : PySem.W.keepIn K (.ref f_s_wild) = true)
    (a_s_near : PySem.W.nsIn K mainGlobals "_law_near" = some (some (.ref f_s_near)))
    (l_s_near : K.lookup f_s_near = some ⟨oc_s_near, od_s_near, .func (PySem.W.fnOf "_law_near" "_law_near" (defArgs s_near) (defBody s_near) (defScope s_near) .none kV_s_near dc_s_near pm_s_near an_s_near cd_s_near ct_s_near), sl_s_near⟩)
    (c_s_near : PySem.W.codeIn K cd_s_near "_law_near" = true)
    (k_s_near : PySem.W.keepIn K (.ref f_s_near) = true)
    (a_s_pair : PySem.W.nsIn K mainGlobals "_law_pair" = some (some (.ref f_s_pair)))
    (l_s_pair : K.lookup f_s_pair = some ⟨oc_s_pair, od_s_pair, .func (PySem.W.fnOf "_law_pair" "_law_pair" (defArgs s_pair) (defBody s_pair) (defScope s_pair) .none kV_s_pair dc_s_pair pm_s_pair an_s_pair cd_s_pair ct_s_pair), sl_s_pair⟩)
    (c_s_pair : PySem.W.codeIn K cd_s_pair "_law_pair" = true)
    (k_s_pair : PySem.W.keepIn K (.ref f_s_pair) = true)
    (a_s_model : PySem.W.nsIn K mainGlobals "_law_model" = some (some (.ref f_s_model)))
    (l_s_model : K.lookup f_s_model = some ⟨oc_s_model, od_s_model, .func (PySem.W.fnOf "_law_model" "_law_model" (defArgs s_model) (defBody s_model) (defScope s_model) .none kV_s_model dc_s_model pm_s_model an_s_model cd_s_model ct_s_model), sl_s_model⟩)
    (c_s_model : PySem.W.codeIn K cd_s_model "_law_model" = true)
    (k_s_model : PySem.W.keepIn K (.ref f_s_model) = true)
    (a_s_net : PySem.W.nsIn K mainGlobals "_law_net" = some (some (.ref f_s_net)))
    (l_s_net : K.lookup f_s_net = some ⟨oc_s_net, od_s_net, .func (PySem.W.fnOf "_law_net" "_law_net" (defArgs s_net) (defBody s_net) (defScope s_net) .none kV_s_net dc_s_net pm_s_net an_s_net cd_s_net ct_s_net), sl_s_net⟩)
    (c_s_net : PySem.W.codeIn K cd_s_net "_law_net" = true)
    (k_s_net : PySem.W.keepIn K (.ref f_s_net) = true)
    (a_s_moving_dots : PySem.W.nsIn K mainGlobals "_law_moving_dots" = some (some (.ref f_s_moving_dots)))
    (l_s_moving_dots : K.lookup f_s_moving_dots = some ⟨oc_s_moving_dots, od_s_moving_dots, .func (PySem.W.fnOf "_law_moving_dots" "_law_moving_dots" (defArgs s_moving_dots) (defBody s_moving_dots) (defScope s_moving_dots) .none kV_s_moving_dots dc_s_moving_dots pm_s_moving_dots an_s_moving_dots cd_s_moving_dots ct_s_moving_dots), sl_s_moving_dots⟩)
    (c_s_moving_dots : PySem.W.codeIn K cd_s_moving_dots "_law_moving_dots" = true)
    (k_s_moving_dots : PySem.W.keepIn K (.ref f_s_moving_dots) = true)
    (a_s_round : PySem.W.nsIn K mainGlobals "_law_round" = some (some (.ref f_s_round)))
    (l_s_round : K.lookup f_s_round = some ⟨oc_s_round, od_s_round, .func (PySem.W.fnOf "_law_round" "_law_round" (defArgs s_round) (defBody s_round) (defScope s_round) .none kV_s_round dc_s_round pm_s_round an_s_round cd_s_round ct_s_round), sl_s_round⟩)
    (c_s_round : PySem.W.codeIn K cd_s_round "_law_round" = true)
    (k_s_round : PySem.W.keepIn K (.ref f_s_round) = true)
    (a_s_named : PySem.W.nsIn K mainGlobals "_law_named" = some (some (.ref f_s_named)))
    (l_s_named : K.lookup f_s_named = some ⟨oc_s_named, od_s_named, .func (PySem.W.fnOf "_law_named" "_law_named" (defArgs s_named) (defBody s_named) (defScope s_named) .none kV_s_named dc_s_named pm_s_named an_s_named cd_s_named ct_s_named), sl_s_named⟩)
    (c_s_named : PySem.W.codeIn K cd_s_named "_law_named" = true)
    (k_s_named : PySem.W.keepIn K (.ref f_s_named) = true)
    (a_s_turned_right : PySem.W.nsIn K mainGlobals "_law_turned_right" = some (some (.ref f_s_turned_right)))
    (l_s_turned_right : K.lookup f_s_turned_right = some ⟨oc_s_turned_right, od_s_turned_right, .func (PySem.W.fnOf "_law_turned_right" "_law_turned_right" (defArgs s_turned_right) (defBody s_turned_right) (defScope s_turned_right) .none kV_s_turned_right dc_s_turned_right pm_s_turned_right an_s_turned_right cd_s_turned_right ct_s_turned_right), sl_s_turned_right⟩)
    (c_s_turned_right : PySem.W.codeIn K cd_s_turned_right "_law_turned_right" = true)
    (k_s_turned_right : PySem.W.keepIn K (.ref f_s_turned_right) = true)
    (a_s_parts_right : PySem.W.nsIn K mainGlobals "_law_parts_right" = some (some (.ref f_s_parts_right)))
    (l_s_parts_right : K.lookup f_s_parts_right = some ⟨oc_s_parts_right, od_s_parts_right, .func (PySem.W.fnOf "_law_parts_right" "_law_parts_right" (defArgs s_parts_right) (defBody s_parts_right) (defScope s_parts_right) .none kV_s_parts_right dc_s_parts_right pm_s_parts_right an_s_parts_right cd_s_parts_right ct_s_parts_right), sl_s_parts_right⟩)
    (c_s_parts_right : PySem.W.codeIn K cd_s_parts_right "_law_parts_right" = true)
    (k_s_parts_right : PySem.W.keepIn K (.ref f_s_parts_right) = true)
    (a_s_named_right : PySem.W.nsIn K mainGlobals "_law_named_right" = some (some (.ref f_s_named_right)))
    (l_s_named_right : K.lookup f_s_named_right = some ⟨oc_s_named_right, od_s_named_right, .func (PySem.W.fnOf "_law_named_right" "_law_named_right" (defArgs s_named_right) (defBody s_named_right) (defScope s_named_right) .none kV_s_named_right dc_s_named_right pm_s_named_right an_s_named_right cd_s_named_right ct_s_named_right), sl_s_named_right⟩)
    (c_s_named_right : PySem.W.codeIn K cd_s_named_right "_law_named_right" = true)
    (k_s_named_right : PySem.W.keepIn K (.ref f_s_named_right) = true)
    (a_p_is_list : PySem.W.nsIn K mainGlobals "is_list" = some (some (.ref f_p_is_list)))
    (l_p_is_list : K.lookup f_p_is_list = some ⟨oc_p_is_list, od_p_is_list, .func (PySem.W.fnOf "is_list" "is_list" (defArgs p_is_list) (defBody p_is_list) (defScope p_is_list) .none kV_p_is_list dc_p_is_list pm_p_is_list an_p_is_list cd_p_is_list ct_p_is_list), sl_p_is_list⟩)
    (c_p_is_list : PySem.W.codeIn K cd_p_is_list "is_list" = true)
    (k_p_is_list : PySem.W.keepIn K (.ref f_p_is_list) = true)
    (a_p_is_name : PySem.W.nsIn K mainGlobals "is_name" = some (some (.ref f_p_is_name)))
    (l_p_is_name : K.lookup f_p_is_name = some ⟨oc_p_is_name, od_p_is_name, .func (PySem.W.fnOf "is_name" "is_name" (defArgs p_is_name) (defBody p_is_name) (defScope p_is_name) .none kV_p_is_name dc_p_is_name pm_p_is_name an_p_is_name cd_p_is_name ct_p_is_name), sl_p_is_name⟩)
    (c_p_is_name : PySem.W.codeIn K cd_p_is_name "is_name" = true)
    (k_p_is_name : PySem.W.keepIn K (.ref f_p_is_name) = true)
    (a_p_is_place : PySem.W.nsIn K mainGlobals "is_place" = some (some (.ref f_p_is_place)))
    (l_p_is_place : K.lookup f_p_is_place = some ⟨oc_p_is_place, od_p_is_place, .func (PySem.W.fnOf "is_place" "is_place" (defArgs p_is_place) (defBody p_is_place) (defScope p_is_place) .none kV_p_is_place dc_p_is_place pm_p_is_place an_p_is_place cd_p_is_place ct_p_is_place), sl_p_is_place⟩)
    (c_p_is_place : PySem.W.codeIn K cd_p_is_place "is_place" = true)
    (k_p_is_place : PySem.W.keepIn K (.ref f_p_is_place) = true)
    (a_p_is_table : PySem.W.nsIn K mainGlobals "is_table" = some (some (.ref f_p_is_table)))
    (l_p_is_table : K.lookup f_p_is_table = some ⟨oc_p_is_table, od_p_is_table, .func (PySem.W.fnOf "is_table" "is_table" (defArgs p_is_table) (defBody p_is_table) (defScope p_is_table) .none kV_p_is_table dc_p_is_table pm_p_is_table an_p_is_table cd_p_is_table ct_p_is_table), sl_p_is_table⟩)
    (c_p_is_table : PySem.W.codeIn K cd_p_is_table "is_table" = true)
    (k_p_is_table : PySem.W.keepIn K (.ref f_p_is_table) = true)
    (a_p_are_different : PySem.W.nsIn K mainGlobals "are_different" = some (some (.ref f_p_are_different)))
    (l_p_are_different : K.lookup f_p_are_different = some ⟨oc_p_are_different, od_p_are_different, .func (PySem.W.fnOf "are_different" "are_different" (defArgs p_are_different) (defBody p_are_different) (defScope p_are_different) .none kV_p_are_different dc_p_are_different pm_p_are_different an_p_are_different cd_p_are_different ct_p_are_different), sl_p_are_different⟩)
    (c_p_are_different : PySem.W.codeIn K cd_p_are_different "are_different" = true)
    (k_p_are_different : PySem.W.keepIn K (.ref f_p_are_different) = true)
    (a_p_are_nodes : PySem.W.nsIn K mainGlobals "are_nodes" = some (some (.ref f_p_are_nodes)))
    (l_p_are_nodes : K.lookup f_p_are_nodes = some ⟨oc_p_are_nodes, od_p_are_nodes, .func (PySem.W.fnOf "are_nodes" "are_nodes" (defArgs p_are_nodes) (defBody p_are_nodes) (defScope p_are_nodes) .none kV_p_are_nodes dc_p_are_nodes pm_p_are_nodes an_p_are_nodes cd_p_are_nodes ct_p_are_nodes), sl_p_are_nodes⟩)
    (c_p_are_nodes : PySem.W.codeIn K cd_p_are_nodes "are_nodes" = true)
    (k_p_are_nodes : PySem.W.keepIn K (.ref f_p_are_nodes) = true)
    (a_p_is_pair_of_dicts : PySem.W.nsIn K mainGlobals "is_pair_of_dicts" = some (some (.ref f_p_is_pair_of_dicts)))
    (l_p_is_pair_of_dicts : K.lookup f_p_is_pair_of_dicts = some ⟨oc_p_is_pair_of_dicts, od_p_is_pair_of_dicts, .func (PySem.W.fnOf "is_pair_of_dicts" "is_pair_of_dicts" (defArgs p_is_pair_of_dicts) (defBody p_is_pair_of_dicts) (defScope p_is_pair_of_dicts) .none kV_p_is_pair_of_dicts dc_p_is_pair_of_dicts pm_p_is_pair_of_dicts an_p_is_pair_of_dicts cd_p_is_pair_of_dicts ct_p_is_pair_of_dicts), sl_p_is_pair_of_dicts⟩)
    (c_p_is_pair_of_dicts : PySem.W.codeIn K cd_p_is_pair_of_dicts "is_pair_of_dicts" = true)
    (k_p_is_pair_of_dicts : PySem.W.keepIn K (.ref f_p_is_pair_of_dicts) = true)
    (a_p_are_tables : PySem.W.nsIn K mainGlobals "are_tables" = some (some (.ref f_p_are_tables)))
    (l_p_are_tables : K.lookup f_p_are_tables = some ⟨oc_p_are_tables, od_p_are_tables, .func (PySem.W.fnOf "are_tables" "are_tables" (defArgs p_are_tables) (defBody p_are_tables) (defScope p_are_tables) .none kV_p_are_tables dc_p_are_tables pm_p_are_tables an_p_are_tables cd_p_are_tables ct_p_are_tables), sl_p_are_tables⟩)
    (c_p_are_tables : PySem.W.codeIn K cd_p_are_tables "are_tables" = true)
    (k_p_are_tables : PySem.W.keepIn K (.ref f_p_are_tables) = true)
    (a_p_check_net : PySem.W.nsIn K mainGlobals "check_net" = some (some (.ref f_p_check_net)))
    (l_p_check_net : K.lookup f_p_check_net = some ⟨oc_p_check_net, od_p_check_net, .func (PySem.W.fnOf "check_net" "check_net" (defArgs p_check_net) (defBody p_check_net) (defScope p_check_net) .none kV_p_check_net dc_p_check_net pm_p_check_net an_p_check_net cd_p_check_net ct_p_check_net), sl_p_check_net⟩)
    (c_p_check_net : PySem.W.codeIn K cd_p_check_net "check_net" = true)
    (k_p_check_net : PySem.W.keepIn K (.ref f_p_check_net) = true)
    (a_p_check_goal : PySem.W.nsIn K mainGlobals "check_goal" = some (some (.ref f_p_check_goal)))
    (l_p_check_goal : K.lookup f_p_check_goal = some ⟨oc_p_check_goal, od_p_check_goal, .func (PySem.W.fnOf "check_goal" "check_goal" (defArgs p_check_goal) (defBody p_check_goal) (defScope p_check_goal) .none kV_p_check_goal dc_p_check_goal pm_p_check_goal an_p_check_goal cd_p_check_goal ct_p_check_goal), sl_p_check_goal⟩)
    (c_p_check_goal : PySem.W.codeIn K cd_p_check_goal "check_goal" = true)
    (k_p_check_goal : PySem.W.keepIn K (.ref f_p_check_goal) = true)
    (a_p_check_lot : PySem.W.nsIn K mainGlobals "check_lot" = some (some (.ref f_p_check_lot)))
    (l_p_check_lot : K.lookup f_p_check_lot = some ⟨oc_p_check_lot, od_p_check_lot, .func (PySem.W.fnOf "check_lot" "check_lot" (defArgs p_check_lot) (defBody p_check_lot) (defScope p_check_lot) .none kV_p_check_lot dc_p_check_lot pm_p_check_lot an_p_check_lot cd_p_check_lot ct_p_check_lot), sl_p_check_lot⟩)
    (c_p_check_lot : PySem.W.codeIn K cd_p_check_lot "check_lot" = true)
    (k_p_check_lot : PySem.W.keepIn K (.ref f_p_check_lot) = true)
    (a_p_check_round : PySem.W.nsIn K mainGlobals "check_round" = some (some (.ref f_p_check_round)))
    (l_p_check_round : K.lookup f_p_check_round = some ⟨oc_p_check_round, od_p_check_round, .func (PySem.W.fnOf "check_round" "check_round" (defArgs p_check_round) (defBody p_check_round) (defScope p_check_round) .none kV_p_check_round dc_p_check_round pm_p_check_round an_p_check_round cd_p_check_round ct_p_check_round), sl_p_check_round⟩)
    (c_p_check_round : PySem.W.codeIn K cd_p_check_round "check_round" = true)
    (k_p_check_round : PySem.W.keepIn K (.ref f_p_check_round) = true)
    (a_p_is_lot_of : PySem.W.nsIn K mainGlobals "is_lot_of" = some (some (.ref f_p_is_lot_of)))
    (l_p_is_lot_of : K.lookup f_p_is_lot_of = some ⟨oc_p_is_lot_of, od_p_is_lot_of, .func (PySem.W.fnOf "is_lot_of" "is_lot_of" (defArgs p_is_lot_of) (defBody p_is_lot_of) (defScope p_is_lot_of) .none kV_p_is_lot_of dc_p_is_lot_of pm_p_is_lot_of an_p_is_lot_of cd_p_is_lot_of ct_p_is_lot_of), sl_p_is_lot_of⟩)
    (c_p_is_lot_of : PySem.W.codeIn K cd_p_is_lot_of "is_lot_of" = true)
    (k_p_is_lot_of : PySem.W.keepIn K (.ref f_p_is_lot_of) = true)
    (a_g_goals : PySem.W.findIn K (.ref C) "goals" = some (some (.ref p_g_goals)))
    (ge_g_goals : PySem.W.specialIn K (.ref p_g_goals) "__get__" = some (some (.builtin "property.__get__")))
    (ta_g_goals : PySem.W.takesIn K (.ref p_g_goals) = some true)
    (re_g_goals : PySem.W.recIn K p_g_goals "property" = some (.ref f_g_goals :: r_g_goals))
    (l_g_goals : K.lookup f_g_goals = some ⟨oc_g_goals, od_g_goals, .func (PySem.W.fnOf "goals" "Net.goals" (defArgs c_Net_goals) (defBody c_Net_goals) (defScope c_Net_goals) .none kV_g_goals dc_g_goals pm_g_goals an_g_goals cd_g_goals ct_g_goals), sl_g_goals⟩)
    (c_g_goals : PySem.W.codeIn K cd_g_goals "Net.goals" = true)
    (k_g_goals : PySem.W.keepIn K (.ref f_g_goals) = true)
    (a_g_nodes : PySem.W.findIn K (.ref C) "nodes" = some (some (.ref p_g_nodes)))
    (ge_g_nodes : PySem.W.specialIn K (.ref p_g_nodes) "__get__" = some (some (.builtin "property.__get__")))
    (ta_g_nodes : PySem.W.takesIn K (.ref p_g_nodes) = some true)
    (re_g_nodes : PySem.W.recIn K p_g_nodes "property" = some (.ref f_g_nodes :: r_g_nodes))
    (l_g_nodes : K.lookup f_g_nodes = some ⟨oc_g_nodes, od_g_nodes, .func (PySem.W.fnOf "nodes" "Net.nodes" (defArgs c_Net_nodes) (defBody c_Net_nodes) (defScope c_Net_nodes) .none kV_g_nodes dc_g_nodes pm_g_nodes an_g_nodes cd_g_nodes ct_g_nodes), sl_g_nodes⟩)
    (c_g_nodes : PySem.W.codeIn K cd_g_nodes "Net.nodes" = true)
    (k_g_nodes : PySem.W.keepIn K (.ref f_g_nodes) = true)
    (a_g_changing : PySem.W.findIn K (.ref C) "changing" = some (some (.ref p_g_changing)))
    (ge_g_changing : PySem.W.specialIn K (.ref p_g_changing) "__get__" = some (some (.builtin "property.__get__")))
    (ta_g_changing : PySem.W.takesIn K (.ref p_g_changing) = some true)
    (re_g_changing : PySem.W.recIn K p_g_changing "property" = some (.ref f_g_changing :: r_g_changing))
    (l_g_changing : K.lookup f_g_changing = some ⟨oc_g_changing, od_g_changing, .func (PySem.W.fnOf "changing" "Net.changing" (defArgs c_Net_changing) (defBody c_Net_changing) (defScope c_Net_changing) .none kV_g_changing dc_g_changing pm_g_changing an_g_changing cd_g_changing ct_g_changing), sl_g_changing⟩)
    (c_g_changing : PySem.W.codeIn K cd_g_changing "Net.changing" = true)
    (k_g_changing : PySem.W.keepIn K (.ref f_g_changing) = true)
    (a_p_check_node : PySem.W.nsIn K mainGlobals "check_node" = some (some (.ref f_p_check_node)))
    (l_p_check_node : K.lookup f_p_check_node = some ⟨oc_p_check_node, od_p_check_node, .func (PySem.W.fnOf "check_node" "check_node" (defArgs p_check_node) (defBody p_check_node) (defScope p_check_node) .none kV_p_check_node dc_p_check_node pm_p_check_node an_p_check_node cd_p_check_node ct_p_check_node), sl_p_check_node⟩)
    (c_p_check_node : PySem.W.codeIn K cd_p_check_node "check_node" = true)
    (k_p_check_node : PySem.W.keepIn K (.ref f_p_check_node) = true)
    (a_p_followed : PySem.W.nsIn K mainGlobals "followed" = some (some (.ref f_p_followed)))
    (l_p_followed : K.lookup f_p_followed = some ⟨oc_p_followed, od_p_followed, .func (PySem.W.fnOf "followed" "followed" (defArgs p_followed) (defBody p_followed) (defScope p_followed) .none kV_p_followed dc_p_followed pm_p_followed an_p_followed cd_p_followed ct_p_followed), sl_p_followed⟩)
    (c_p_followed : PySem.W.codeIn K cd_p_followed "followed" = true)
    (k_p_followed : PySem.W.keepIn K (.ref f_p_followed) = true)
    (a_p_ways : PySem.W.nsIn K mainGlobals "ways" = some (some (.ref f_p_ways)))
    (l_p_ways : K.lookup f_p_ways = some ⟨oc_p_ways, od_p_ways, .func (PySem.W.fnOf "ways" "ways" (defArgs p_ways) (defBody p_ways) (defScope p_ways) .none kV_p_ways dc_p_ways pm_p_ways an_p_ways cd_p_ways ct_p_ways), sl_p_ways⟩)
    (c_p_ways : PySem.W.codeIn K cd_p_ways "ways" = true)
    (k_p_ways : PySem.W.keepIn K (.ref f_p_ways) = true)
    (a_p_ring : PySem.W.nsIn K mainGlobals "ring" = some (some (.ref f_p_ring)))
    (l_p_ring : K.lookup f_p_ring = some ⟨oc_p_ring, od_p_ring, .func (PySem.W.fnOf "ring" "ring" (defArgs p_ring) (defBody p_ring) (defScope p_ring) .none kV_p_ring dc_p_ring pm_p_ring an_p_ring cd_p_ring ct_p_ring), sl_p_ring⟩)
    (c_p_ring : PySem.W.codeIn K cd_p_ring "ring" = true)
    (k_p_ring : PySem.W.keepIn K (.ref f_p_ring) = true)
    (a_p_least_ring : PySem.W.nsIn K mainGlobals "least_ring" = some (some (.ref f_p_least_ring)))
    (l_p_least_ring : K.lookup f_p_least_ring = some ⟨oc_p_least_ring, od_p_least_ring, .func (PySem.W.fnOf "least_ring" "least_ring" (defArgs p_least_ring) (defBody p_least_ring) (defScope p_least_ring) .none kV_p_least_ring dc_p_least_ring pm_p_least_ring an_p_least_ring cd_p_least_ring ct_p_least_ring), sl_p_least_ring⟩)
    (c_p_least_ring : PySem.W.codeIn K cd_p_least_ring "least_ring" = true)
    (k_p_least_ring : PySem.W.keepIn K (.ref f_p_least_ring) = true)
    (a_p_ranks : PySem.W.nsIn K mainGlobals "ranks" = some (some (.ref f_p_ranks)))
    (l_p_ranks : K.lookup f_p_ranks = some ⟨oc_p_ranks, od_p_ranks, .func (PySem.W.fnOf "ranks" "ranks" (defArgs p_ranks) (defBody p_ranks) (defScope p_ranks) .none kV_p_ranks dc_p_ranks pm_p_ranks an_p_ranks cd_p_ranks ct_p_ranks), sl_p_ranks⟩)
    (c_p_ranks : PySem.W.codeIn K cd_p_ranks "ranks" = true)
    (k_p_ranks : PySem.W.keepIn K (.ref f_p_ranks) = true)
    (a_p_least_ranks : PySem.W.nsIn K mainGlobals "least_ranks" = some (some (.ref f_p_least_ranks)))
    (l_p_least_ranks : K.lookup f_p_least_ranks = some ⟨oc_p_least_ranks, od_p_least_ranks, .func (PySem.W.fnOf "least_ranks" "least_ranks" (defArgs p_least_ranks) (defBody p_least_ranks) (defScope p_least_ranks) .none kV_p_least_ranks dc_p_least_ranks pm_p_least_ranks an_p_least_ranks cd_p_least_ranks ct_p_least_ranks), sl_p_least_ranks⟩)
    (c_p_least_ranks : PySem.W.codeIn K cd_p_least_ranks "least_ranks" = true)
    (k_p_least_ranks : PySem.W.keepIn K (.ref f_p_least_ranks) = true)
    (a_p_led : PySem.W.nsIn K mainGlobals "led" = some (some (.ref f_p_led)))
    (l_p_led : K.lookup f_p_led = some ⟨oc_p_led, od_p_led, .func (PySem.W.fnOf "led" "led" (defArgs p_led) (defBody p_led) (defScope p_led) .none kV_p_led dc_p_led pm_p_led an_p_led cd_p_led ct_p_led), sl_p_led⟩)
    (c_p_led : PySem.W.codeIn K cd_p_led "led" = true)
    (k_p_led : PySem.W.keepIn K (.ref f_p_led) = true)
    (a_p_reached : PySem.W.nsIn K mainGlobals "reached" = some (some (.ref f_p_reached)))
    (l_p_reached : K.lookup f_p_reached = some ⟨oc_p_reached, od_p_reached, .func (PySem.W.fnOf "reached" "reached" (defArgs p_reached) (defBody p_reached) (defScope p_reached) .none kV_p_reached dc_p_reached pm_p_reached an_p_reached cd_p_reached ct_p_reached), sl_p_reached⟩)
    (c_p_reached : PySem.W.codeIn K cd_p_reached "reached" = true)
    (k_p_reached : PySem.W.keepIn K (.ref f_p_reached) = true)
    (a_p_nodes_reached : PySem.W.nsIn K mainGlobals "nodes_reached" = some (some (.ref f_p_nodes_reached)))
    (l_p_nodes_reached : K.lookup f_p_nodes_reached = some ⟨oc_p_nodes_reached, od_p_nodes_reached, .func (PySem.W.fnOf "nodes_reached" "nodes_reached" (defArgs p_nodes_reached) (defBody p_nodes_reached) (defScope p_nodes_reached) .none kV_p_nodes_reached dc_p_nodes_reached pm_p_nodes_reached an_p_nodes_reached cd_p_nodes_reached ct_p_nodes_reached), sl_p_nodes_reached⟩)
    (c_p_nodes_reached : PySem.W.codeIn K cd_p_nodes_reached "nodes_reached" = true)
    (k_p_nodes_reached : PySem.W.keepIn K (.ref f_p_nodes_reached) = true)
    (a_p_ways_at : PySem.W.nsIn K mainGlobals "ways_at" = some (some (.ref f_p_ways_at)))
    (l_p_ways_at : K.lookup f_p_ways_at = some ⟨oc_p_ways_at, od_p_ways_at, .func (PySem.W.fnOf "ways_at" "ways_at" (defArgs p_ways_at) (defBody p_ways_at) (defScope p_ways_at) .none kV_p_ways_at dc_p_ways_at pm_p_ways_at an_p_ways_at cd_p_ways_at ct_p_ways_at), sl_p_ways_at⟩)
    (c_p_ways_at : PySem.W.codeIn K cd_p_ways_at "ways_at" = true)
    (k_p_ways_at : PySem.W.keepIn K (.ref f_p_ways_at) = true)
    (a_p_nodes_behind : PySem.W.nsIn K mainGlobals "nodes_behind" = some (some (.ref f_p_nodes_behind)))
    (l_p_nodes_behind : K.lookup f_p_nodes_behind = some ⟨oc_p_nodes_behind, od_p_nodes_behind, .func (PySem.W.fnOf "nodes_behind" "nodes_behind" (defArgs p_nodes_behind) (defBody p_nodes_behind) (defScope p_nodes_behind) .none kV_p_nodes_behind dc_p_nodes_behind pm_p_nodes_behind an_p_nodes_behind cd_p_nodes_behind ct_p_nodes_behind), sl_p_nodes_behind⟩)
    (c_p_nodes_behind : PySem.W.codeIn K cd_p_nodes_behind "nodes_behind" = true)
    (k_p_nodes_behind : PySem.W.keepIn K (.ref f_p_nodes_behind) = true)
    (a_g_tables : PySem.W.findIn K (.ref C) "tables" = some (some (.ref p_g_tables)))
    (ge_g_tables : PySem.W.specialIn K (.ref p_g_tables) "__get__" = some (some (.builtin "property.__get__")))
    (ta_g_tables : PySem.W.takesIn K (.ref p_g_tables) = some true)
    (re_g_tables : PySem.W.recIn K p_g_tables "property" = some (.ref f_g_tables :: r_g_tables))
    (l_g_tables : K.lookup f_g_tables = some ⟨oc_g_tables, od_g_tables, .func (PySem.W.fnOf "tables" "Net.tables" (defArgs c_Net_tables) (defBody c_Net_tables) (defScope c_Net_tables) .none kV_g_tables dc_g_tables pm_g_tables an_g_tables cd_g_tables ct_g_tables), sl_g_tables⟩)
    (c_g_tables : PySem.W.codeIn K cd_g_tables "Net.tables" = true)
    (k_g_tables : PySem.W.keepIn K (.ref f_g_tables) = true)
    (a_m_way : PySem.W.findIn K (.ref C) "way" = some (some (.ref f_m_way)))
    (i_m_way : PySem.W.isFn K (.ref f_m_way) = true)
    (l_m_way : K.lookup f_m_way = some ⟨oc_m_way, od_m_way, .func (PySem.W.fnOf "way" "Net.way" (defArgs c_Net_way) (defBody c_Net_way) (defScope c_Net_way) .none kV_m_way dc_m_way pm_m_way an_m_way cd_m_way ct_m_way), sl_m_way⟩)
    (c_m_way : PySem.W.codeIn K cd_m_way "Net.way" = true)
    (k_m_way : PySem.W.keepIn K (.ref f_m_way) = true)
    (a_m_turned : PySem.W.findIn K (.ref C) "turned" = some (some (.ref f_m_turned)))
    (i_m_turned : PySem.W.isFn K (.ref f_m_turned) = true)
    (l_m_turned : K.lookup f_m_turned = some ⟨oc_m_turned, od_m_turned, .func (PySem.W.fnOf "turned" "Net.turned" (defArgs c_Net_turned) (defBody c_Net_turned) (defScope c_Net_turned) .none kV_m_turned dc_m_turned pm_m_turned an_m_turned cd_m_turned ct_m_turned), sl_m_turned⟩)
    (c_m_turned : PySem.W.codeIn K cd_m_turned "Net.turned" = true)
    (k_m_turned : PySem.W.keepIn K (.ref f_m_turned) = true)
    (a_law : PySem.W.nsIn K mainGlobals "law" = some (some (.ref f_law)))
    (l_law : K.lookup f_law = some ⟨oc_law, od_law, .func (PySem.W.fnOf "law" "law" (defArgs s_law) (defBody s_law) (defScope s_law) .none kV_law dc_law pm_law an_law cd_law ct_law), sl_law⟩)
    (c_law : PySem.W.codeIn K cd_law "law" = true)
    (k_law : PySem.W.keepIn K (.ref f_law) = true)
    (aI : PySem.W.findIn K (.ref C) "__init__" = some (some (.ref fI)))
    (iI : PySem.W.isFn K (.ref fI) = true)
    (lI : K.lookup fI = some ⟨ocI, odI, .func (PySem.W.fnOf "__init__" "Net.__init__" (defArgs c_Net_init) (defBody c_Net_init) (defScope c_Net_init) (.ref TI) kVI dcI pmI anI cdI ctI), slI⟩)
    (cI : PySem.W.codeIn K cdI "Net.__init__" = true)
    (kI : PySem.W.keepIn K (.ref fI) = true)
    (lT : K.lookup TI = some ⟨ocT, odT, .seq [Value.ref q1, Value.ref q2].toArray nT, slT⟩)
    (pg : PySem.W.plainGet K C Str.empty = true)
    (hd : PySem.W.hasDictIn K C = true)
    (po : PySem.W.plainOver K C = true)
    (sa : PySem.W.findIn K (.ref C) "__setattr__" = some (some (.builtin "object.__setattr__")))
    (mk : PySem.W.makesIn K C = true)
    (kc : PySem.W.keepIn K (.ref C) = true)
    (nT_ : PySem.W.findIn K (.ref C) "_tables" = some none)
    (nN_ : PySem.W.findIn K (.ref C) "_nodes" = some none)
    (nS_ : PySem.W.findIn K (.ref C) "_sources" = some none)
    (nP_ : PySem.W.findIn K (.ref C) "_posts" = some none)
    (ha : PySem.W.findIn K (.ref C) "__class__" = some (some (.builtin "object.__class__")))
    (hn : PySem.W.specialIn K (.builtin "object.__class__") "__get__" = some (some (.builtin "getset_descriptor.__get__")))
    (hk : PySem.W.takesIn K (.builtin "object.__class__") = some true)
    (hm : PySem.W.mroIn K C (.type "object") = some true)
    (v_MOST_POSTS : PySem.W.nsIn K mainGlobals "MOST_POSTS" = some (some (.int 2 t_MOST_POSTS)))
    (v_MOST_NODES : PySem.W.nsIn K mainGlobals "MOST_NODES" = some (some (.int 6 t_MOST_NODES)))
    (v_MOST_GOALS : PySem.W.nsIn K mainGlobals "MOST_GOALS" = some (some (.int 2 t_MOST_GOALS)))
    (v_MOST_LETTERS : PySem.W.nsIn K mainGlobals "MOST_LETTERS" = some (some (.int 6 t_MOST_LETTERS)))
    (z_int : PySem.W.nsIn K mainGlobals "int" = some none)
    (z_len : PySem.W.nsIn K mainGlobals "len" = some none)
    (z_abs : PySem.W.nsIn K mainGlobals "abs" = some none)
    (z_list : PySem.W.nsIn K mainGlobals "list" = some none)
    (z_dict : PySem.W.nsIn K mainGlobals "dict" = some none)
    (z_sorted : PySem.W.nsIn K mainGlobals "sorted" = some none)
    (z_range : PySem.W.nsIn K mainGlobals "range" = some none)
    (z_isinstance : PySem.W.nsIn K mainGlobals "isinstance" = some none)
    (z_str : PySem.W.nsIn K mainGlobals "str" = some none)
    (z_tuple : PySem.W.nsIn K mainGlobals "tuple" = some none)
    (z_all : PySem.W.nsIn K mainGlobals "all" = some none)
    (z_any : PySem.W.nsIn K mainGlobals "any" = some none)
    (z_set : PySem.W.nsIn K mainGlobals "set" = some none)
    (z_enumerate : PySem.W.nsIn K mainGlobals "enumerate" = some none)
    (z_min : PySem.W.nsIn K mainGlobals "min" = some none)
    (z_repr : PySem.W.nsIn K mainGlobals "repr" = some none)
    (z_max : PySem.W.nsIn K mainGlobals "max" = some none)
    (z_zip : PySem.W.nsIn K mainGlobals "zip" = some none)
    : ∃ fd : FuncData, (∀ (s : Shared) (v : Value), BindsTo s fd ⟨[v], []⟩ [("script", v)]) ∧ ∀ base : Heap, K.In base → base.Ns mainGlobals mg → FnG P w K mg base CX0 9 fa fd ["script"] (spLaw K) := by
  have e := hfa.symm.trans (PySem.W.mg_of X G a_law)
  cases e
  have T : NetTxt K C := ⟨⟨pg, hd, po, sa⟩, nT_, nN_, nS_, nP_⟩
  have Is : NetIsi K C := ⟨ha, hn, hk, hm, if_pos (beq_self_eq_true _)⟩
  have mNet := PySem.W.mg_of X G aC
  have F_s_begin := fun_mk (st := s_begin) l_s_begin c_s_begin k_s_begin
  have b_s_begin := F_s_begin.binds (ps := ["script"]) fun _ _ _ _ _ _ us hl => match us, hl with | [_], _ => rfl
  have g_s_begin := PySem.W.mg_of X G a_s_begin
  have F_s_blend := fun_mk (st := s_blend) l_s_blend c_s_blend k_s_blend
  have b_s_blend := F_s_blend.binds (ps := ["draw"]) fun _ _ _ _ _ _ us hl => match us, hl with | [_], _ => rfl
  have g_s_blend := PySem.W.mg_of X G a_s_blend
  have F_s_take := fun_mk (st := s_take) l_s_take c_s_take k_s_take
  have b_s_take := F_s_take.binds (ps := ["draw", "size"]) fun _ _ _ _ _ _ us hl => match us, hl with | [_, _], _ => rfl
  have g_s_take := PySem.W.mg_of X G a_s_take
  have F_s_pick := fun_mk (st := s_pick) l_s_pick c_s_pick k_s_pick
  have b_s_pick := F_s_pick.binds (ps := ["draw", "some"]) fun _ _ _ _ _ _ us hl => match us, hl with | [_, _], _ => rfl
  have g_s_pick := PySem.W.mg_of X G a_s_pick
  have F_s_mixed := fun_mk (st := s_mixed) l_s_mixed c_s_mixed k_s_mixed
  have b_s_mixed := F_s_mixed.binds (ps := ["draw", "some"]) fun _ _ _ _ _ _ us hl => match us, hl with | [_, _], _ => rfl
  have g_s_mixed := PySem.W.mg_of X G a_s_mixed
  have F_s_words := fun_mk (st := s_words) l_s_words c_s_words k_s_words
  have b_s_words := F_s_words.binds (ps := ["draw", "count"]) fun _ _ _ _ _ _ us hl => match us, hl with | [_, _], _ => rfl
  have g_s_words := PySem.W.mg_of X G a_s_words
  have F_s_tree := fun_mk (st := s_tree) l_s_tree c_s_tree k_s_tree
  have b_s_tree := F_s_tree.binds (ps := ["draw", "some", "end"]) fun _ _ _ _ _ _ us hl => match us, hl with | [_, _, _], _ => rfl
  have g_s_tree := PySem.W.mg_of X G a_s_tree
  have F_s_path := fun_mk (st := s_path) l_s_path c_s_path k_s_path
  have b_s_path := F_s_path.binds (ps := ["draw", "some", "end"]) fun _ _ _ _ _ _ us hl => match us, hl with | [_, _, _], _ => rfl
  have g_s_path := PySem.W.mg_of X G a_s_path
  have F_s_wild := fun_mk (st := s_wild) l_s_wild c_s_wild k_s_wild
  have b_s_wild := F_s_wild.binds (ps := ["draw", "some", "end"]) fun _ _ _ _ _ _ us hl => match us, hl with | [_, _, _], _ => rfl
  have g_s_wild := PySem.W.mg_of X G a_s_wild
  have F_s_near := fun_mk (st := s_near) l_s_near c_s_near k_s_near
  have b_s_near := F_s_near.binds (ps := ["draw", "table", "end"]) fun _ _ _ _ _ _ us hl => match us, hl with | [_, _, _], _ => rfl
  have g_s_near := PySem.W.mg_of X G a_s_near
  have F_s_pair := fun_mk (st := s_pair) l_s_pair c_s_pair k_s_pair
  have b_s_pair := F_s_pair.binds (ps := ["draw", "some", "end"]) fun _ _ _ _ _ _ us hl => match us, hl with | [_, _, _], _ => rfl
  have g_s_pair := PySem.W.mg_of X G a_s_pair
  have F_s_model := fun_mk (st := s_model) l_s_model c_s_model k_s_model
  have b_s_model := F_s_model.binds (ps := ["draw", "ends", "most"]) fun _ _ _ _ _ _ us hl => match us, hl with | [_, _, _], _ => rfl
  have g_s_model := PySem.W.mg_of X G a_s_model
  have F_s_net := fun_mk (st := s_net) l_s_net c_s_net k_s_net
  have b_s_net := F_s_net.binds (ps := ["model"]) fun _ _ _ _ _ _ us hl => match us, hl with | [_], _ => rfl
  have g_s_net := PySem.W.mg_of X G a_s_net
  have F_s_moving_dots := fun_mk (st := s_moving_dots) l_s_moving_dots c_s_moving_dots k_s_moving_dots
  have b_s_moving_dots := F_s_moving_dots.binds (ps := ["model"]) fun _ _ _ _ _ _ us hl => match us, hl with | [_], _ => rfl
  have g_s_moving_dots := PySem.W.mg_of X G a_s_moving_dots
  have F_s_round := fun_mk (st := s_round) l_s_round c_s_round k_s_round
  have b_s_round := F_s_round.binds (ps := ["draw", "model"]) fun _ _ _ _ _ _ us hl => match us, hl with | [_, _], _ => rfl
  have g_s_round := PySem.W.mg_of X G a_s_round
  have F_s_named := fun_mk (st := s_named) l_s_named c_s_named k_s_named
  have b_s_named := F_s_named.binds (ps := ["model", "names"]) fun _ _ _ _ _ _ us hl => match us, hl with | [_, _], _ => rfl
  have g_s_named := PySem.W.mg_of X G a_s_named
  have F_s_turned_right := fun_mk (st := s_turned_right) l_s_turned_right c_s_turned_right k_s_turned_right
  have b_s_turned_right := F_s_turned_right.binds (ps := ["model", "made", "ready", "part", "end"]) fun _ _ _ _ _ _ us hl => match us, hl with | [_, _, _, _, _], _ => rfl
  have g_s_turned_right := PySem.W.mg_of X G a_s_turned_right
  have F_s_parts_right := fun_mk (st := s_parts_right) l_s_parts_right c_s_parts_right k_s_parts_right
  have b_s_parts_right := F_s_parts_right.binds (ps := ["draw", "made", "ready", "part", "end"]) fun _ _ _ _ _ _ us hl => match us, hl with | [_, _, _, _, _], _ => rfl
  have g_s_parts_right := PySem.W.mg_of X G a_s_parts_right
  have F_s_named_right := fun_mk (st := s_named_right) l_s_named_right c_s_named_right k_s_named_right
  have b_s_named_right := F_s_named_right.binds (ps := ["draw", "model", "made", "ready", "part", "end"]) fun _ _ _ _ _ _ us hl => match us, hl with | [_, _, _, _, _, _], _ => rfl
  have g_s_named_right := PySem.W.mg_of X G a_s_named_right
  have F_p_is_list := fun_mk (st := p_is_list) l_p_is_list c_p_is_list k_p_is_list
  have b_p_is_list := F_p_is_list.binds (ps := ["value"]) fun _ _ _ _ _ _ us hl => match us, hl with | [_], _ => rfl
  have g_p_is_list := PySem.W.mg_of X G a_p_is_list
  have F_p_is_name := fun_mk (st := p_is_name) l_p_is_name c_p_is_name k_p_is_name
  have b_p_is_name := F_p_is_name.binds (ps := ["value"]) fun _ _ _ _ _ _ us hl => match us, hl with | [_], _ => rfl
  have g_p_is_name := PySem.W.mg_of X G a_p_is_name
  have F_p_is_place := fun_mk (st := p_is_place) l_p_is_place c_p_is_place k_p_is_place
  have b_p_is_place := F_p_is_place.binds (ps := ["value", "node", "nodes", "goal"]) fun _ _ _ _ _ _ us hl => match us, hl with | [_, _, _, _], _ => rfl
  have g_p_is_place := PySem.W.mg_of X G a_p_is_place
  have F_p_is_table := fun_mk (st := p_is_table) l_p_is_table c_p_is_table k_p_is_table
  have b_p_is_table := F_p_is_table.binds (ps := ["table", "nodes", "goal"]) fun _ _ _ _ _ _ us hl => match us, hl with | [_, _, _], _ => rfl
  have g_p_is_table := PySem.W.mg_of X G a_p_is_table
  have F_p_are_different := fun_mk (st := p_are_different) l_p_are_different c_p_are_different k_p_are_different
  have b_p_are_different := F_p_are_different.binds (ps := ["value", "nodes"]) fun _ _ _ _ _ _ us hl => match us, hl with | [_, _], _ => rfl
  have g_p_are_different := PySem.W.mg_of X G a_p_are_different
  have F_p_are_nodes := fun_mk (st := p_are_nodes) l_p_are_nodes c_p_are_nodes k_p_are_nodes
  have b_p_are_nodes := F_p_are_nodes.binds (ps := ["names", "goals"]) fun _ _ _ _ _ _ us hl => match us, hl with | [_, _], _ => rfl
  have g_p_are_nodes := PySem.W.mg_of X G a_p_are_nodes
  have F_p_is_pair_of_dicts := fun_mk (st := p_is_pair_of_dicts) l_p_is_pair_of_dicts c_p_is_pair_of_dicts k_p_is_pair_of_dicts
  have b_p_is_pair_of_dicts := F_p_is_pair_of_dicts.binds (ps := ["value"]) fun _ _ _ _ _ _ us hl => match us, hl with | [_], _ => rfl
  have g_p_is_pair_of_dicts := PySem.W.mg_of X G a_p_is_pair_of_dicts
  have F_p_are_tables := fun_mk (st := p_are_tables) l_p_are_tables c_p_are_tables k_p_are_tables
  have b_p_are_tables := F_p_are_tables.binds (ps := ["value"]) fun _ _ _ _ _ _ us hl => match us, hl with | [_], _ => rfl
  have g_p_are_tables := PySem.W.mg_of X G a_p_are_tables
  have F_p_check_net := fun_mk (st := p_check_net) l_p_check_net c_p_check_net k_p_check_net
  have b_p_check_net := F_p_check_net.binds (ps := ["net"]) fun _ _ _ _ _ _ us hl => match us, hl with | [_], _ => rfl
  have g_p_check_net := PySem.W.mg_of X G a_p_check_net
  have F_p_check_goal := fun_mk (st := p_check_goal) l_p_check_goal c_p_check_goal k_p_check_goal
  have b_p_check_goal := F_p_check_goal.binds (ps := ["net", "goal"]) fun _ _ _ _ _ _ us hl => match us, hl with | [_, _], _ => rfl
  have g_p_check_goal := PySem.W.mg_of X G a_p_check_goal
  have F_p_check_lot := fun_mk (st := p_check_lot) l_p_check_lot c_p_check_lot k_p_check_lot
  have b_p_check_lot := F_p_check_lot.binds (ps := ["net", "lot", "part"]) fun _ _ _ _ _ _ us hl => match us, hl with | [_, _, _], _ => rfl
  have g_p_check_lot := PySem.W.mg_of X G a_p_check_lot
  have F_p_check_round := fun_mk (st := p_check_round) l_p_check_round c_p_check_round k_p_check_round
  have b_p_check_round := F_p_check_round.binds (ps := ["net", "done", "lot", "part"]) fun _ _ _ _ _ _ us hl => match us, hl with | [_, _, _, _], _ => rfl
  have g_p_check_round := PySem.W.mg_of X G a_p_check_round
  have F_p_is_lot_of := fun_mk (st := p_is_lot_of) l_p_is_lot_of c_p_is_lot_of k_p_is_lot_of
  have b_p_is_lot_of := F_p_is_lot_of.binds (ps := ["value", "nodes"]) fun _ _ _ _ _ _ us hl => match us, hl with | [_, _], _ => rfl
  have g_p_is_lot_of := PySem.W.mg_of X G a_p_is_lot_of
  have F_g_goals := fun_mk (st := c_Net_goals) l_g_goals c_g_goals k_g_goals
  have b_g_goals := F_g_goals.binds (ps := ["self"]) fun _ _ _ _ _ _ us hl => match us, hl with | [_], _ => rfl
  have F_g_nodes := fun_mk (st := c_Net_nodes) l_g_nodes c_g_nodes k_g_nodes
  have b_g_nodes := F_g_nodes.binds (ps := ["self"]) fun _ _ _ _ _ _ us hl => match us, hl with | [_], _ => rfl
  have F_g_changing := fun_mk (st := c_Net_changing) l_g_changing c_g_changing k_g_changing
  have b_g_changing := F_g_changing.binds (ps := ["self"]) fun _ _ _ _ _ _ us hl => match us, hl with | [_], _ => rfl
  have F_p_check_node := fun_mk (st := p_check_node) l_p_check_node c_p_check_node k_p_check_node
  have b_p_check_node := F_p_check_node.binds (ps := ["net", "node"]) fun _ _ _ _ _ _ us hl => match us, hl with | [_, _], _ => rfl
  have g_p_check_node := PySem.W.mg_of X G a_p_check_node
  have F_p_followed := fun_mk (st := p_followed) l_p_followed c_p_followed k_p_followed
  have b_p_followed := F_p_followed.binds (ps := ["table", "node"]) fun _ _ _ _ _ _ us hl => match us, hl with | [_, _], _ => rfl
  have g_p_followed := PySem.W.mg_of X G a_p_followed
  have F_p_ways := fun_mk (st := p_ways) l_p_ways c_p_ways k_p_ways
  have b_p_ways := F_p_ways.binds (ps := ["net", "done", "lot", "goal"]) fun _ _ _ _ _ _ us hl => match us, hl with | [_, _, _, _], _ => rfl
  have g_p_ways := PySem.W.mg_of X G a_p_ways
  have F_p_ring := fun_mk (st := p_ring) l_p_ring c_p_ring k_p_ring
  have b_p_ring := F_p_ring.binds (ps := ["net", "done", "lot", "goal"]) fun _ _ _ _ _ _ us hl => match us, hl with | [_, _, _, _], _ => rfl
  have g_p_ring := PySem.W.mg_of X G a_p_ring
  have F_p_least_ring := fun_mk (st := p_least_ring) l_p_least_ring c_p_least_ring k_p_least_ring
  have b_p_least_ring := F_p_least_ring.binds (ps := ["mixture"]) fun _ _ _ _ _ _ us hl => match us, hl with | [_], _ => rfl
  have g_p_least_ring := PySem.W.mg_of X G a_p_least_ring
  have F_p_ranks := fun_mk (st := p_ranks) l_p_ranks c_p_ranks k_p_ranks
  have b_p_ranks := F_p_ranks.binds (ps := ["net", "done", "lot", "goal"]) fun _ _ _ _ _ _ us hl => match us, hl with | [_, _, _, _], _ => rfl
  have g_p_ranks := PySem.W.mg_of X G a_p_ranks
  have F_p_least_ranks := fun_mk (st := p_least_ranks) l_p_least_ranks c_p_least_ranks k_p_least_ranks
  have b_p_least_ranks := F_p_least_ranks.binds (ps := ["mixture"]) fun _ _ _ _ _ _ us hl => match us, hl with | [_], _ => rfl
  have g_p_least_ranks := PySem.W.mg_of X G a_p_least_ranks
  have F_p_led := fun_mk (st := p_led) l_p_led c_p_led k_p_led
  have b_p_led := F_p_led.binds (ps := ["net", "done", "changed", "goal", "node"]) fun _ _ _ _ _ _ us hl => match us, hl with | [_, _, _, _, _], _ => rfl
  have g_p_led := PySem.W.mg_of X G a_p_led
  have F_p_reached := fun_mk (st := p_reached) l_p_reached c_p_reached k_p_reached
  have b_p_reached := F_p_reached.binds (ps := ["net", "done", "lot", "goal", "node"]) fun _ _ _ _ _ _ us hl => match us, hl with | [_, _, _, _, _], _ => rfl
  have g_p_reached := PySem.W.mg_of X G a_p_reached
  have F_p_nodes_reached := fun_mk (st := p_nodes_reached) l_p_nodes_reached c_p_nodes_reached k_p_nodes_reached
  have b_p_nodes_reached := F_p_nodes_reached.binds (ps := ["mixture", "starts"]) fun _ _ _ _ _ _ us hl => match us, hl with | [_, _], _ => rfl
  have g_p_nodes_reached := PySem.W.mg_of X G a_p_nodes_reached
  have F_p_ways_at := fun_mk (st := p_ways_at) l_p_ways_at c_p_ways_at k_p_ways_at
  have b_p_ways_at := F_p_ways_at.binds (ps := ["net", "done", "changed", "goal"]) fun _ _ _ _ _ _ us hl => match us, hl with | [_, _, _, _], _ => rfl
  have g_p_ways_at := PySem.W.mg_of X G a_p_ways_at
  have F_p_nodes_behind := fun_mk (st := p_nodes_behind) l_p_nodes_behind c_p_nodes_behind k_p_nodes_behind
  have b_p_nodes_behind := F_p_nodes_behind.binds (ps := ["mixture", "node"]) fun _ _ _ _ _ _ us hl => match us, hl with | [_, _], _ => rfl
  have g_p_nodes_behind := PySem.W.mg_of X G a_p_nodes_behind
  have F_g_tables := fun_mk (st := c_Net_tables) l_g_tables c_g_tables k_g_tables
  have b_g_tables := F_g_tables.binds (ps := ["self"]) fun _ _ _ _ _ _ us hl => match us, hl with | [_], _ => rfl
  have F_m_way := fun_mk (st := c_Net_way) l_m_way c_m_way k_m_way
  have b_m_way := F_m_way.binds (ps := ["self", "goal", "node", "is_new"]) fun _ _ _ _ _ _ us hl => match us, hl with | [_, _, _, _], _ => rfl
  have F_m_turned := fun_mk (st := c_Net_turned) l_m_turned c_m_turned k_m_turned
  have b_m_turned := F_m_turned.binds (ps := ["self"]) fun _ _ _ _ _ _ us hl => match us, hl with | [_], _ => rfl
  have F_law := fun_mk (st := s_law) l_law c_law k_law
  have w_MOST_POSTS := PySem.W.mg_of X G v_MOST_POSTS
  have w_MOST_NODES := PySem.W.mg_of X G v_MOST_NODES
  have w_MOST_GOALS := PySem.W.mg_of X G v_MOST_GOALS
  have w_MOST_LETTERS := PySem.W.mg_of X G v_MOST_LETTERS
  have m_int := PySem.W.mg_none_of X G z_int
  have m_len := PySem.W.mg_none_of X G z_len
  have m_abs := PySem.W.mg_none_of X G z_abs
  have m_list := PySem.W.mg_none_of X G z_list
  have m_dict := PySem.W.mg_none_of X G z_dict
  have m_sorted := PySem.W.mg_none_of X G z_sorted
  have m_range := PySem.W.mg_none_of X G z_range
  have m_isinstance := PySem.W.mg_none_of X G z_isinstance
  have m_str := PySem.W.mg_none_of X G z_str
  have m_tuple := PySem.W.mg_none_of X G z_tuple
  have m_all := PySem.W.mg_none_of X G z_all
  have m_any := PySem.W.mg_none_of X G z_any
  have m_set := PySem.W.mg_none_of X G z_set
  have m_enumerate := PySem.W.mg_none_of X G z_enumerate
  have m_min := PySem.W.mg_none_of X G z_min
  have m_repr := PySem.W.mg_none_of X G z_repr
  have m_max := PySem.W.mg_none_of X G z_max
  have m_zip := PySem.W.mg_none_of X G z_zip
  have FI : FunD K "__init__" "Net.__init__" (defArgs c_Net_init) (defBody c_Net_init) (defScope c_Net_init) [.ref q1, .ref q2] [] fI (PySem.W.fnOf "__init__" "Net.__init__" (defArgs c_Net_init) (defBody c_Net_init) (defScope c_Net_init) (.ref TI) kVI dcI pmI anI cdI ctI) := ⟨⟨ocI, odI, .ref TI, kVI, dcI, pmI, anI, cdI, ctI, slI, rfl, lI, cI, .inr ⟨by simp, TI, _, [.ref q1, .ref q2], nT, rfl, lT, rfl, .cons rfl (.cons rfl .nil)⟩, .inl rfl⟩, kI⟩
  have bI : Binds K (PySem.W.fnOf "__init__" "Net.__init__" (defArgs c_Net_init) (defBody c_Net_init) (defScope c_Net_init) (.ref TI) kVI dcI pmI anI cdI ctI) ["self", "tables", "sources", "posts"] [] := by
    obtain ⟨ds, r, b⟩ := FI.binds1 (ps := ["self", "tables", "sources", "posts"]) 4 2 (by simp) rfl (fun TT kV doc pm an cdv ct us its l1 l2 => match us, l1, its, l2 with | [a, b, c, d], _, [i1, i2], _ => ⟨_, rfl, rfl⟩)
    cases r
    exact b
  refine ⟨_, fun s v => .of_eq (show bindArgs (PySem.W.fnOf "law" "law" (defArgs s_law) (defBody s_law) (defScope s_law) .none kV_law dc_law pm_law an_law cd_law ct_law) ⟨[v], []⟩ = _ from rfl), fun base _ _ => ?_⟩
  have O_s_take := ok_take (P := P) (w := w) (mg := mg) (base := base) F_s_take F_s_blend b_s_blend g_s_blend m_int
  have O_s_pick := ok_pickL (P := P) (w := w) (mg := mg) (base := base) F_s_pick O_s_take k_s_take b_s_take g_s_take m_len
  have O_S_pick := ok_pickS (P := P) (w := w) (mg := mg) (base := base) F_s_pick O_s_take k_s_take b_s_take g_s_take m_len
  have O_s_mixed := ok_mixed (P := P) (w := w) (mg := mg) (base := base) F_s_mixed O_s_take k_s_take b_s_take g_s_take m_len m_list
  have O_s_begin := ok_begin (P := P) (w := w) (mg := mg) (base := base) F_s_begin m_abs
  have O_s_words := ok_words (P := P) (w := w) (mg := mg) (base := base) F_s_words O_s_take k_s_take b_s_take g_s_take O_s_pick O_S_pick k_s_pick b_s_pick g_s_pick m_range
  have O_s_tree := ok_tree (P := P) (w := w) (mg := mg) (base := base) F_s_tree O_s_mixed k_s_mixed b_s_mixed g_s_mixed O_s_pick k_s_pick b_s_pick g_s_pick
  have O_s_path := ok_path (P := P) (w := w) (mg := mg) (base := base) F_s_path O_s_mixed k_s_mixed b_s_mixed g_s_mixed m_enumerate m_dict
  have O_s_wild := ok_wild (P := P) (w := w) (mg := mg) (base := base) F_s_wild O_s_pick k_s_pick b_s_pick g_s_pick
  have O_s_near := ok_near (P := P) (w := w) (mg := mg) (base := base) F_s_near O_s_take k_s_take b_s_take g_s_take O_s_pick k_s_pick b_s_pick g_s_pick m_dict m_sorted m_range
  have O_s_pair := ok_pair (P := P) (w := w) (mg := mg) (base := base) F_s_pair O_s_take k_s_take b_s_take g_s_take O_s_tree k_s_tree b_s_tree g_s_tree O_s_path k_s_path b_s_path g_s_path O_s_wild k_s_wild b_s_wild g_s_wild O_s_near k_s_near b_s_near g_s_near
  have O_s_model := ok_model (P := P) (w := w) (mg := mg) (base := base) F_s_model O_s_take k_s_take b_s_take g_s_take O_s_pick k_s_pick b_s_pick g_s_pick O_s_mixed k_s_mixed b_s_mixed g_s_mixed O_s_words k_s_words b_s_words g_s_words O_s_pair k_s_pair b_s_pair g_s_pair m_sorted m_min
  have O_p_is_list := ok_is_list (P := P) (w := w) (mg := mg) (base := base) F_p_is_list m_isinstance m_list m_tuple
  have O_p_is_name := ok_is_name (P := P) (w := w) (mg := mg) (base := base) F_p_is_name m_isinstance m_str m_len m_all w_MOST_LETTERS
  have O_p_is_place := ok_is_place (P := P) (w := w) (mg := mg) (base := base) F_p_is_place
  have O_p_is_table := ok_is_table (P := P) (w := w) (mg := mg) (base := base) F_p_is_table O_p_is_place k_p_is_place b_p_is_place g_p_is_place m_len m_all
  have O_p_are_different := ok_diff (P := P) (w := w) (mg := mg) (base := base) F_p_are_different O_p_is_list k_p_is_list b_p_is_list g_p_is_list m_len m_all m_set
  have O_p_are_nodes := ok_nodes (P := P) (w := w) (mg := mg) (base := base) F_p_are_nodes O_p_is_name k_p_is_name b_p_is_name g_p_is_name m_len m_all w_MOST_NODES
  have O_p_is_pair_of_dicts := ok_pairD (P := P) (w := w) (mg := mg) (base := base) F_p_is_pair_of_dicts m_isinstance m_tuple m_dict m_len m_all
  have O_p_are_tables := ok_tables (P := P) (w := w) (mg := mg) (base := base) F_p_are_tables O_p_is_name k_p_is_name b_p_is_name g_p_is_name O_p_is_pair_of_dicts k_p_is_pair_of_dicts b_p_is_pair_of_dicts g_p_is_pair_of_dicts O_p_are_nodes k_p_are_nodes b_p_are_nodes g_p_are_nodes O_p_is_table k_p_is_table b_p_is_table g_p_is_table m_isinstance m_dict m_list m_len m_all w_MOST_GOALS
  have O_I := ok_init (P := P) (w := w) (mg := mg) (base := base) FI T O_p_are_tables k_p_are_tables b_p_are_tables g_p_are_tables O_p_are_different k_p_are_different b_p_are_different g_p_are_different m_list m_tuple m_sorted m_len w_MOST_POSTS
  have O_g_goals := ok_goals (P := P) (w := w) (mg := mg) (base := base) F_g_goals T m_tuple
  have O_g_nodes := ok_dots (P := P) (w := w) (mg := mg) (base := base) F_g_nodes T
  have O_g_changing := ok_changing (P := P) (w := w) (mg := mg) (base := base) F_g_changing T m_tuple m_list m_any
  have O_g_tables := ok_tabs (P := P) (w := w) (mg := mg) (base := base) F_g_tables T m_dict
  have R_goals : Prp P w K mg base C 1 "goals" (spGoals C) := ⟨_, _, _, ⟨a_g_goals, ge_g_goals, ta_g_goals, _, re_g_goals⟩, O_g_goals, b_g_goals⟩
  have R_nodes : Prp P w K mg base C 1 "nodes" (spDots C) := ⟨_, _, _, ⟨a_g_nodes, ge_g_nodes, ta_g_nodes, _, re_g_nodes⟩, O_g_nodes, b_g_nodes⟩
  have R_changing : Prp P w K mg base C 2 "changing" (spChanging C) := ⟨_, _, _, ⟨a_g_changing, ge_g_changing, ta_g_changing, _, re_g_changing⟩, O_g_changing, b_g_changing⟩
  have R_tables : Prp P w K mg base C 1 "tables" (spTabs C) := ⟨_, _, _, ⟨a_g_tables, ge_g_tables, ta_g_tables, _, re_g_tables⟩, O_g_tables, b_g_tables⟩
  have O_p_check_goal := ok_check_goal (P := P) (w := w) (mg := mg) (base := base) F_p_check_goal T R_goals
  have O_p_check_node := ok_check_node (P := P) (w := w) (mg := mg) (base := base) F_p_check_node T R_nodes
  have O_p_check_net := ok_check_net (P := P) (w := w) (mg := mg) (base := base) F_p_check_net T Is m_isinstance mNet
  have O_p_is_lot_of := ok_lot_of (P := P) (w := w) (mg := mg) (base := base) F_p_is_lot_of m_isinstance m_tuple m_all m_sorted m_set
  have O_p_check_lot := ok_check_lot (P := P) (w := w) (mg := mg) (base := base) F_p_check_lot T R_changing ⟨_, _, O_p_is_lot_of, k_p_is_lot_of, b_p_is_lot_of, g_p_is_lot_of⟩
  have O_p_check_round := ok_check_round (P := P) (w := w) (mg := mg) (base := base) F_p_check_round ⟨_, _, O_p_check_net, k_p_check_net, b_p_check_net, g_p_check_net⟩ ⟨_, _, O_p_check_lot, k_p_check_lot, b_p_check_lot, g_p_check_lot⟩ m_any
  have O_p_ways := ok_mix (P := P) (w := w) (mg := mg) (base := base) F_p_ways T ⟨_, _, O_p_check_round, k_p_check_round, b_p_check_round, g_p_check_round⟩ ⟨_, _, O_p_check_goal, k_p_check_goal, b_p_check_goal, g_p_check_goal⟩ R_tables R_nodes
  have O_p_followed := ok_followed (P := P) (w := w) (mg := mg) (base := base) F_p_followed
  have O_m_way := ok_way (P := P) (w := w) (mg := mg) (base := base) F_m_way T ⟨_, _, O_p_check_goal, k_p_check_goal, b_p_check_goal, g_p_check_goal⟩ ⟨_, _, O_p_check_node, k_p_check_node, b_p_check_node, g_p_check_node⟩
  have O_p_ways_at := ok_ways_at (P := P) (w := w) (mg := mg) (base := base) F_p_ways_at T R_tables R_nodes
  have O_p_led := ok_led (P := P) (w := w) (mg := mg) (base := base) F_p_led ⟨_, _, O_p_check_round, k_p_check_round, b_p_check_round, g_p_check_round⟩ ⟨_, _, O_p_check_goal, k_p_check_goal, b_p_check_goal, g_p_check_goal⟩ ⟨_, _, O_p_check_node, k_p_check_node, b_p_check_node, g_p_check_node⟩ ⟨_, _, O_p_ways_at, k_p_ways_at, b_p_ways_at, g_p_ways_at⟩ ⟨_, _, O_p_followed, k_p_followed, b_p_followed, g_p_followed⟩
  have O_p_nodes_behind := ok_behind (P := P) (w := w) (mg := mg) (base := base) F_p_nodes_behind
  have O_p_least_ring := ok_lring (P := P) (w := w) (mg := mg) (base := base) F_p_least_ring ⟨_, _, O_p_nodes_behind, k_p_nodes_behind, b_p_nodes_behind, g_p_nodes_behind⟩ m_sorted
  have O_p_ring := ok_ring (P := P) (w := w) (mg := mg) (base := base) F_p_ring ⟨_, _, O_p_ways, k_p_ways, b_p_ways, g_p_ways⟩ ⟨_, _, O_p_least_ring, k_p_least_ring, b_p_least_ring, g_p_least_ring⟩
  have O_p_least_ranks := ok_lranks (P := P) (w := w) (mg := mg) (base := base) F_p_least_ranks ⟨_, _, O_p_nodes_behind, k_p_nodes_behind, b_p_nodes_behind, g_p_nodes_behind⟩ m_all m_max m_len
  have O_p_ranks := ok_ranks (P := P) (w := w) (mg := mg) (base := base) F_p_ranks ⟨_, _, O_p_ways, k_p_ways, b_p_ways, g_p_ways⟩ ⟨_, _, O_p_least_ranks, k_p_least_ranks, b_p_least_ranks, g_p_least_ranks⟩
  have O_p_nodes_reached := ok_nr (P := P) (w := w) (mg := mg) (base := base) F_p_nodes_reached ⟨_, _, O_p_nodes_behind, k_p_nodes_behind, b_p_nodes_behind, g_p_nodes_behind⟩ m_sorted m_set
  have O_p_reached := ok_reached (P := P) (w := w) (mg := mg) (base := base) F_p_reached ⟨_, _, O_p_ways, k_p_ways, b_p_ways, g_p_ways⟩ ⟨_, _, O_p_nodes_reached, k_p_nodes_reached, b_p_nodes_reached, g_p_nodes_reached⟩ ⟨_, _, O_p_check_node, k_p_check_node, b_p_check_node, g_p_check_node⟩ m_tuple m_sorted m_set
  have O_m_turned := ok_turned (P := P) (w := w) (mg := mg) (base := base) F_m_turned T ⟨mk, aI, iI, kc⟩ O_I bI mNet
  have O_s_net := ok_net (P := P) (w := w) (mg := mg) (base := base) F_s_net ⟨mk, aI, iI, kc⟩ O_I bI mNet
  have O_s_moving_dots := ok_moves (P := P) (w := w) (mg := mg) (base := base) F_s_moving_dots
  have O_s_round := ok_lots (P := P) (w := w) (mg := mg) (base := base) F_s_round ⟨_, _, O_s_take, k_s_take, b_s_take, g_s_take⟩ ⟨_, _, O_s_pick, k_s_pick, b_s_pick, g_s_pick⟩ ⟨_, _, O_s_mixed, k_s_mixed, b_s_mixed, g_s_mixed⟩ ⟨_, _, O_s_moving_dots, k_s_moving_dots, b_s_moving_dots, g_s_moving_dots⟩ m_len m_tuple m_sorted
  have O_S_netP := ok_netP (P := P) (w := w) (mg := mg) (base := base) F_s_net ⟨mk, aI, iI, kc⟩ O_I bI mNet
  have O_s_named := ok_named (P := P) (w := w) (mg := mg) (base := base) F_s_named m_dict m_tuple m_sorted
  have O_s_turned_right := ok_turned_right (P := P) (w := w) (mg := mg) (base := base) F_s_turned_right T ⟨_, _, O_s_moving_dots, k_s_moving_dots, b_s_moving_dots, g_s_moving_dots⟩ ⟨_, _, O_p_ways, k_p_ways, b_p_ways, g_p_ways⟩ ⟨_, _, O_p_ring, k_p_ring, b_p_ring, g_p_ring⟩ ⟨_, _, O_p_ranks, k_p_ranks, b_p_ranks, g_p_ranks⟩ ⟨a_m_turned, i_m_turned, k_m_turned⟩ O_m_turned b_m_turned m_tuple m_dict
  have O_s_parts_right := ok_parts_right (P := P) (w := w) (mg := mg) (base := base) F_s_parts_right ⟨_, _, O_s_take, k_s_take, b_s_take, g_s_take⟩ ⟨_, _, O_p_ways, k_p_ways, b_p_ways, g_p_ways⟩ ⟨_, _, O_p_ring, k_p_ring, b_p_ring, g_p_ring⟩ m_tuple m_sorted
  have O_s_named_right := ok_named_right (P := P) (w := w) (mg := mg) (base := base) F_s_named_right ⟨_, _, O_s_words, k_s_words, b_s_words, g_s_words⟩ ⟨_, _, O_s_named, k_s_named, b_s_named, g_s_named⟩ ⟨_, _, O_S_netP, k_s_net, b_s_net, g_s_net⟩ ⟨_, _, O_p_ways, k_p_ways, b_p_ways, g_p_ways⟩ ⟨_, _, O_p_led, k_p_led, b_p_led, g_p_led⟩ ⟨_, _, O_p_reached, k_p_reached, b_p_reached, g_p_reached⟩ ⟨_, _, O_p_ring, k_p_ring, b_p_ring, g_p_ring⟩ m_sorted m_dict m_zip m_len m_tuple
  exact ok_law F_law  ⟨_, _, O_s_begin, k_s_begin, b_s_begin, g_s_begin⟩ ⟨_, _, O_s_model, k_s_model, b_s_model, g_s_model⟩ ⟨_, _, O_s_net, k_s_net, b_s_net, g_s_net⟩ ⟨_, _, O_s_round, k_s_round, b_s_round, g_s_round⟩ ⟨_, _, O_s_turned_right, k_s_turned_right, b_s_turned_right, g_s_turned_right⟩ ⟨_, _, O_s_parts_right, k_s_parts_right, b_s_parts_right, g_s_parts_right⟩ ⟨_, _, O_s_named_right, k_s_named_right, b_s_named_right, g_s_named_right⟩ m_range m_min m_len m_sorted
end Rw
end T_Z0

section T_Z1
set_option Elab.async false
set_option maxRecDepth 100000
open PySem PySem.W PyProof.Rows
set_option maxRecDepth 100000 in
set_option maxHeartbeats 0 in
theorem PySem.Challenge.cw_roundways_k14_whole_turned_parted_and_re_holds : PySem.Challenge.rw_roundways_k14_whole_turned_parted_and_re.Holds := by
  w_on; o_law; k_head; (case hw => w_witness2)
  k_fill
  refine Rw.walk_ofG (l := PySem.Challenge.rw_roundways_k14_whole_turned_parted_and_re) (n := 63) (k := 9) (x := "script") (sp := fun w => Rw.spLaw _) rfl (by decide) rfl ⟨rfl, by decide, by decide⟩ (fun w h Y => PySem.W.kIn_of Y) ?F (fun w H a ns few hS => ⟨a, ns, rfl, hS, few, fun _ => rfl⟩)
  case F =>
    intro w mg fa h KX G hmg
    refine' Rw.all_mk KX G hmg ?aC ?a_s_begin ?l_s_begin ?c_s_begin ?k_s_begin ?a_s_blend ?l_s_blend ?c_s_blend ?k_s_blend ?a_s_take ?l_s_take ?c_s_take ?k_s_take ?a_s_pick ?l_s_pick ?c_s_pick ?k_s_pick ?a_s_mixed ?l_s_mixed ?c_s_mixed ?k_s_mixed ?a_s_words ?l_s_words ?c_s_words ?k_s_words ?a_s_tree ?l_s_tree ?c_s_tree ?k_s_tree ?a_s_path ?l_s_path ?c_s_path ?k_s_path ?a_s_wild ?l_s_wild ?c_s_wild ?k_s_wild ?a_s_near ?l_s_near ?c_s_near ?k_s_near ?a_s_pair ?l_s_pair ?c_s_pair ?k_s_pair ?a_s_model ?l_s_model ?c_s_model ?k_s_model ?a_s_net ?l_s_net ?c_s_net ?k_s_net ?a_s_moving_dots ?l_s_moving_dots ?c_s_moving_dots ?k_s_moving_dots ?a_s_round ?l_s_round ?c_s_round ?k_s_round ?a_s_named ?l_s_named ?c_s_named ?k_s_named ?a_s_turned_right ?l_s_turned_right ?c_s_turned_right ?k_s_turned_right ?a_s_parts_right ?l_s_parts_right ?c_s_parts_right ?k_s_parts_right ?a_s_named_right ?l_s_named_right ?c_s_named_right ?k_s_named_right ?a_p_is_list ?l_p_is_list ?c_p_is_list ?k_p_is_list ?a_p_is_name ?l_p_is_name ?c_p_is_name ?k_p_is_name ?a_p_is_place ?l_p_is_place ?c_p_is_place ?k_p_is_place ?a_p_is_table ?l_p_is_table ?c_p_is_table ?k_p_is_table ?a_p_are_different ?l_p_are_different ?c_p_are_different ?k_p_are_different ?a_p_are_nodes ?l_p_are_nodes ?c_p_are_nodes ?k_p_are_nodes ?a_p_is_pair_of_dicts ?l_p_is_pair_of_dicts ?c_p_is_pair_of_dicts ?k_p_is_pair_of_dicts ?a_p_are_tables ?l_p_are_tables ?c_p_are_tables ?k_p_are_tables ?a_p_check_net ?l_p_check_net ?c_p_check_net ?k_p_check_net ?a_p_check_goal ?l_p_check_goal ?c_p_check_goal ?k_p_check_goal ?a_p_check_lot ?l_p_check_lot ?c_p_check_lot ?k_p_check_lot ?a_p_check_round ?l_p_check_round ?c_p_check_round ?k_p_check_round ?a_p_is_lot_of ?l_p_is_lot_of ?c_p_is_lot_of ?k_p_is_lot_of ?a_g_goals ?ge_g_goals ?ta_g_goals ?re_g_goals ?l_g_goals ?c_g_goals ?k_g_goals ?a_g_nodes ?ge_g_nodes ?ta_g_nodes ?re_g_nodes ?l_g_nodes ?c_g_nodes ?k_g_nodes ?a_g_changing ?ge_g_changing ?ta_g_changing ?re_g_changing ?l_g_changing ?c_g_changing ?k_g_changing ?a_p_check_node ?l_p_check_node ?c_p_check_node ?k_p_check_node ?a_p_followed ?l_p_followed ?c_p_followed ?k_p_followed ?a_p_ways ?l_p_ways ?c_p_ways ?k_p_ways ?a_p_ring ?l_p_ring ?c_p_ring ?k_p_ring ?a_p_least_ring ?l_p_least_ring ?c_p_least_ring ?k_p_least_ring ?a_p_ranks ?l_p_ranks ?c_p_ranks ?k_p_ranks ?a_p_least_ranks ?l_p_least_ranks ?c_p_least_ranks ?k_p_least_ranks ?a_p_led ?l_p_led ?c_p_led ?k_p_led ?a_p_reached ?l_p_reached ?c_p_reached ?k_p_reached ?a_p_nodes_reached ?l_p_nodes_reached ?c_p_nodes_reached ?k_p_nodes_reached ?a_p_ways_at ?l_p_ways_at ?c_p_ways_at ?k_p_ways_at ?a_p_nodes_behind ?l_p_nodes_behind ?c_p_nodes_behind ?k_p_nodes_behind ?a_g_tables ?ge_g_tables ?ta_g_tables ?re_g_tables ?l_g_tables ?c_g_tables ?k_g_tables ?a_m_way ?i_m_way ?l_m_way ?c_m_way ?k_m_way ?a_m_turned ?i_m_turned ?l_m_turned ?c_m_turned ?k_m_turned ?a_law ?l_law ?c_law ?k_law ?aI ?iI ?lI ?cI ?kI ?lT ?pg ?hd ?po ?sa ?mk ?kc ?nT_ ?nN_ ?nS_ ?nP_ ?ha ?hn ?hk ?hm ?v_MOST_POSTS ?v_MOST_NODES ?v_MOST_GOALS ?v_MOST_LETTERS ?z_int ?z_len ?z_abs ?z_list ?z_dict ?z_sorted ?z_range ?z_isinstance ?z_str ?z_tuple ?z_all ?z_any ?z_set ?z_enumerate ?z_min ?z_repr ?z_max ?z_zip
    (case aC => k_is); (case a_s_begin => k_is); (case l_s_begin => k_is); (case c_s_begin => k_is); (case k_s_begin => k_is); (case a_s_blend => k_is)
    (case l_s_blend => k_is); (case c_s_blend => k_is); (case k_s_blend => k_is); (case a_s_take => k_is); (case l_s_take => k_is); (case c_s_take => k_is)
    (case k_s_take => k_is); (case a_s_pick => k_is); (case l_s_pick => k_is); (case c_s_pick => k_is); (case k_s_pick => k_is); (case a_s_mixed => k_is)
    (case l_s_mixed => k_is); (case c_s_mixed => k_is); (case k_s_mixed => k_is); (case a_s_words => k_is); (case l_s_words => k_is); (case c_s_words => k_is)
    (case k_s_words => k_is); (case a_s_tree => k_is); (case l_s_tree => k_is); (case c_s_tree => k_is); (case k_s_tree => k_is); (case a_s_path => k_is)
    (case l_s_path => k_is); (case c_s_path => k_is); (case k_s_path => k_is); (case a_s_wild => k_is); (case l_s_wild => k_is); (case c_s_wild => k_is)
    (case k_s_wild => k_is); (case a_s_near => k_is); (case l_s_near => k_is); (case c_s_near => k_is); (case k_s_near => k_is); (case a_s_pair => k_is)
    (case l_s_pair => k_is); (case c_s_pair => k_is); (case k_s_pair => k_is); (case a_s_model => k_is); (case l_s_model => k_is); (case c_s_model => k_is)
    (case k_s_model => k_is); (case a_s_net => k_is); (case l_s_net => k_is); (case c_s_net => k_is); (case k_s_net => k_is); (case a_s_moving_dots => k_is)
    (case l_s_moving_dots => k_is); (case c_s_moving_dots => k_is); (case k_s_moving_dots => k_is); (case a_s_round => k_is); (case l_s_round => k_is); (case c_s_round => k_is)
    (case k_s_round => k_is); (case a_s_named => k_is); (case l_s_named => k_is); (case c_s_named => k_is); (case k_s_named => k_is); (case a_s_turned_right => k_is)
    (case l_s_turned_right => k_is); (case c_s_turned_right => k_is); (case k_s_turned_right => k_is); (case a_s_parts_right => k_is); (case l_s_parts_right => k_is); (case c_s_parts_right => k_is)
    (case k_s_parts_right => k_is); (case a_s_named_right => k_is); (case l_s_named_right => k_is); (case c_s_named_right => k_is); (case k_s_named_right => k_is); (case a_p_is_list => k_is)
    (case l_p_is_list => k_is); (case c_p_is_list => k_is); (case k_p_is_list => k_is); (case a_p_is_name => k_is); (case l_p_is_name => k_is); (case c_p_is_name => k_is)
    (case k_p_is_name => k_is); (case a_p_is_place => k_is); (case l_p_is_place => k_is); (case c_p_is_place => k_is); (case k_p_is_place => k_is); (case a_p_is_table => k_is)
    (case l_p_is_table => k_is); (case c_p_is_table => k_is); (case k_p_is_table => k_is); (case a_p_are_different => k_is); (case l_p_are_different => k_is); (case c_p_are_different => k_is)
    (case k_p_are_different => k_is); (case a_p_are_nodes => k_is); (case l_p_are_nodes => k_is); (case c_p_are_nodes => k_is); (case k_p_are_nodes => k_is); (case a_p_is_pair_of_dicts => k_is)
    (case l_p_is_pair_of_dicts => k_is); (case c_p_is_pair_of_dicts => k_is); (case k_p_is_pair_of_dicts => k_is); (case a_p_are_tables => k_is); (case l_p_are_tables => k_is); (case c_p_are_tables => k_is)
    (case k_p_are_tables => k_is); (case a_p_check_net => k_is); (case l_p_check_net => k_is); (case c_p_check_net => k_is); (case k_p_check_net => k_is); (case a_p_check_goal => k_is)
    (case l_p_check_goal => k_is); (case c_p_check_goal => k_is); (case k_p_check_goal => k_is); (case a_p_check_lot => k_is); (case l_p_check_lot => k_is); (case c_p_check_lot => k_is)
    (case k_p_check_lot => k_is); (case a_p_check_round => k_is); (case l_p_check_round => k_is); (case c_p_check_round => k_is); (case k_p_check_round => k_is); (case a_p_is_lot_of => k_is)
    (case l_p_is_lot_of => k_is); (case c_p_is_lot_of => k_is); (case k_p_is_lot_of => k_is); (case a_g_goals => k_is); (case ge_g_goals => k_is); (case ta_g_goals => k_is)
    (case re_g_goals => k_is); (case l_g_goals => k_is); (case c_g_goals => k_is); (case k_g_goals => k_is); (case a_g_nodes => k_is); (case ge_g_nodes => k_is)
    (case ta_g_nodes => k_is); (case re_g_nodes => k_is); (case l_g_nodes => k_is); (case c_g_nodes => k_is); (case k_g_nodes => k_is); (case a_g_changing => k_is)
    (case ge_g_changing => k_is); (case ta_g_changing => k_is); (case re_g_changing => k_is); (case l_g_changing => k_is); (case c_g_changing => k_is); (case k_g_changing => k_is)
    (case a_p_check_node => k_is); (case l_p_check_node => k_is); (case c_p_check_node => k_is); (case k_p_check_node => k_is); (case a_p_followed => k_is); (case l_p_followed => k_is)
    (case c_p_followed => k_is); (case k_p_followed => k_is); (case a_p_ways => k_is); (case l_p_ways => k_is); (case c_p_ways => k_is); (case k_p_ways => k_is)
    (case a_p_ring => k_is); (case l_p_ring => k_is); (case c_p_ring => k_is); (case k_p_ring => k_is); (case a_p_least_ring => k_is); (case l_p_least_ring => k_is)
    (case c_p_least_ring => k_is); (case k_p_least_ring => k_is); (case a_p_ranks => k_is); (case l_p_ranks => k_is); (case c_p_ranks => k_is); (case k_p_ranks => k_is)
    (case a_p_least_ranks => k_is); (case l_p_least_ranks => k_is); (case c_p_least_ranks => k_is); (case k_p_least_ranks => k_is); (case a_p_led => k_is); (case l_p_led => k_is)
    (case c_p_led => k_is); (case k_p_led => k_is); (case a_p_reached => k_is); (case l_p_reached => k_is); (case c_p_reached => k_is); (case k_p_reached => k_is)
    (case a_p_nodes_reached => k_is); (case l_p_nodes_reached => k_is); (case c_p_nodes_reached => k_is); (case k_p_nodes_reached => k_is); (case a_p_ways_at => k_is); (case l_p_ways_at => k_is)
    (case c_p_ways_at => k_is); (case k_p_ways_at => k_is); (case a_p_nodes_behind => k_is); (case l_p_nodes_behind => k_is); (case c_p_nodes_behind => k_is); (case k_p_nodes_behind => k_is)
    (case a_g_tables => k_is); (case ge_g_tables => k_is); (case ta_g_tables => k_is); (case re_g_tables => k_is); (case l_g_tables => k_is); (case c_g_tables => k_is)
    (case k_g_tables => k_is); (case a_m_way => k_is); (case i_m_way => k_is); (case l_m_way => k_is); (case c_m_way => k_is); (case k_m_way => k_is)
    (case a_m_turned => k_is); (case i_m_turned => k_is); (case l_m_turned => k_is); (case c_m_turned => k_is); (case k_m_turned => k_is); (case a_law => k_is)
    (case l_law => k_is); (case c_law => k_is); (case k_law => k_is); (case aI => k_is); (case iI => k_is); (case lI => k_is)
    (case cI => k_is); (case kI => k_is); (case lT => k_is); (case pg => k_is); (case hd => k_is); (case po => k_is)
    (case sa => k_is); (case mk => k_is); (case kc => k_is); (case nT_ => k_is); (case nN_ => k_is); (case nS_ => k_is)
    (case nP_ => k_is); (case ha => k_is); (case hn => k_is); (case hk => k_is); (case hm => k_is); (case v_MOST_POSTS => k_is)
    (case v_MOST_NODES => k_is); (case v_MOST_GOALS => k_is); (case v_MOST_LETTERS => k_is); (case z_int => k_is); (case z_len => k_is); (case z_abs => k_is)
    (case z_list => k_is); (case z_dict => k_is); (case z_sorted => k_is); (case z_range => k_is); (case z_isinstance => k_is); (case z_str => k_is)
    (case z_tuple => k_is); (case z_all => k_is); (case z_any => k_is); (case z_set => k_is); (case z_enumerate => k_is); (case z_min => k_is)
    (case z_repr => k_is); (case z_max => k_is); (case z_zip => k_is)
end T_Z1
