import PyProof.Rows.All
import Wide.All
import OpenK.AllK
import Wide.FinOn
import HandS.ForMost
import HandS.Codes
import HandS.Evl
import HandS.Walk
import HandS.More
import HandS.Property
import HandS.DictComp
import HandS.Strs
import HandS.Zip
import HandS.IsInst
import HandS.Conv
import PySem.Challenge.RW_roundways_k15_known_mixtures
import HandS.Set
import HandS.SetFor
import KE.KDictCopyH
import HandS.Defaults
import HandS.NoneIn
import HandS.DictTup
import HandS.SortRule
import HandS.Star
import HandS.SortKw
import PyProof.MinMaxWalk
import PyProof.WalkInts
import HandS.TupAny
import HandS.Style
import KE.DatumOrd
section T_D0
set_option Elab.async false
set_option linter.all false
set_option maxRecDepth 100000
set_option maxHeartbeats 4000000
namespace Rw
open PySem L2 PyProof.Rows
/-! ### ints as data -/
theorem dp_ints {K : PySem.W.Frag} {H : Hp} : ∀ ns : List Int, DpAll K H (ns.map V.int) (ns.map PyData.int)
  | [] => .nil
  | n :: r => .cons (.int n) (dp_ints r)
theorem canlay_ints : ∀ ns : List Int, PyData.canLayAll0 (ns.map PyData.int) = true
  | [] => rfl
  | n :: r => by
    show (PyData.canLay0 (.int n) && PyData.canLayAll0 (r.map PyData.int)) = true
    rw [canlay_ints r]
    rfl
theorem depth_ints : ∀ ns : List Int, PyData.depthAll (ns.map PyData.int) = 0
  | [] => rfl
  | n :: r => by
    show max (PyData.depth (.int n)) (PyData.depthAll (r.map PyData.int)) = 0
    rw [depth_ints r]
    rfl
theorem shaped_ints (ns : List Int) : SeqAt.shaped (.list (ns.map PyData.int)) = true := by
  unfold SeqAt.shaped
  rw [show PyData.canLay0 (.list (ns.map PyData.int)) = PyData.canLayAll0 (ns.map PyData.int) from rfl, canlay_ints,
    show PyData.depth (.list (ns.map PyData.int)) = PyData.depthAll (ns.map PyData.int) + 1 from rfl, depth_ints]
  rfl
theorem eqv_nil (ns : List Int) : PyData.eqv (.list (ns.map PyData.int)) (.list []) = ns.isEmpty := by
  cases ns <;> rfl
/-! ### the draws: at d the dict, at g what is great, at c the cells -/
def dkv (g c : Addr) (r t : Int) : List (Key × V) := [(.inr "great", .ref g), (.inr "rest", .int r), (.inr "cells", .ref c), (.inr "turn", .int t)]
theorem dkv_great (g c : Addr) (r t : Int) : valV (dkv g c r t) (.inr "great") = some (.ref g) := by kernel_rfl
theorem dkv_rest (g c : Addr) (r t : Int) : valV (dkv g c r t) (.inr "rest") = some (.int r) := by kernel_rfl
theorem dkv_cells (g c : Addr) (r t : Int) : valV (dkv g c r t) (.inr "cells") = some (.ref c) := by kernel_rfl
theorem dkv_turn (g c : Addr) (r t : Int) : valV (dkv g c r t) (.inr "turn") = some (.int t) := by kernel_rfl
theorem dkv_put_rest (g c : Addr) (r t x : Int) : putK (dkv g c r t) (.inr "rest") (.int x) = dkv g c x t := by kernel_rfl
theorem dkv_put_turn (g c : Addr) (r t x : Int) : putK (dkv g c r t) (.inr "turn") (.int x) = dkv g c r x := by kernel_rfl
structure DrawAt (H : Hp) (d g c : Addr) : Prop where
  ex : ∃ r t : Int, H d = some (.dK (dkv g c r t))
  gl : ∃ gs : List Int, H g = some (.lst (gs.map V.int))
  cl : ∃ cs : List Int, H c = some (.lst (cs.map V.int))
  ne : c ≠ g
/-- what stood stands, but at d and g -/
def SameD (d g : Addr) (H H' : Hp) : Prop := ∀ a o, H a = some o → a ≠ d → a ≠ g → H' a = some o
/-! ### the heap without the draws -/
def off (d g : Addr) (H : Hp) : Hp := fun a => if a = d ∨ a = g then none else H a
theorem off_some {d g : Addr} {H : Hp} {a : Addr} {o : HO} (h : off d g H a = some o) : a ≠ d ∧ a ≠ g ∧ H a = some o := by
  unfold off at h
  by_cases e : a = d ∨ a = g
  · rw [if_pos e] at h; cases h
  · rw [if_neg e] at h; exact ⟨fun z => e (.inl z), fun z => e (.inr z), h⟩
theorem off_of {d g : Addr} {H : Hp} {a : Addr} {o : HO} (h : H a = some o) (h1 : a ≠ d) (h2 : a ≠ g) : off d g H a = some o := by
  unfold off
  rw [if_neg (fun z => z.elim h1 h2)]
  exact h
theorem off_free {d g : Addr} {H : Hp} {a : Addr} (h : H a = none) : off d g H a = none := by
  unfold off
  by_cases e : a = d ∨ a = g
  · rw [if_pos e]
  · rw [if_neg e]; exact h
theorem ex_off (d g : Addr) (H : Hp) : Evl.Ex (off d g H) H := fun a o h => (off_some h).2.2
theorem off_ex {d g : Addr} {H H' : Hp} (e : Evl.Ex H H') : Evl.Ex (off d g H) (off d g H') := fun a o h => off_of (e a o (off_some h).2.2) (off_some h).1 (off_some h).2.1
theorem off_same {d g : Addr} {H H' : Hp} (e : SameD d g H H') : Evl.Ex (off d g H) (off d g H') := fun a o h => off_of (e a o (off_some h).2.2 (off_some h).1 (off_some h).2.1) (off_some h).1 (off_some h).2.1
theorem DrawAt.ext {H H' : Hp} {d g c : Addr} (D : DrawAt H d g c) (e : Evl.Ex H H') : DrawAt H' d g c := by
  obtain ⟨⟨r, t, hd⟩, ⟨gs, hg⟩, ⟨cs, hc⟩, ne⟩ := D
  exact ⟨⟨r, t, e _ _ hd⟩, ⟨gs, e _ _ hg⟩, ⟨cs, e _ _ hc⟩, ne⟩
theorem DrawAt.new {H : Hp} {d g c p : Addr} {o : HO} (D : DrawAt H d g c) (h : H p = none) : DrawAt (upd H p o) d g c := D.ext (Evl.Ex.new h)
theorem DrawAt.ned {H : Hp} {d g c p : Addr} (D : DrawAt H d g c) (h : H p = none) : p ≠ d ∧ p ≠ g ∧ p ≠ c := by
  obtain ⟨⟨r, t, hd⟩, ⟨gs, hg⟩, ⟨cs, hc⟩, ne⟩ := D
  exact ⟨(ne_of_none hd h).symm, (ne_of_none hg h).symm, (ne_of_none hc h).symm⟩
/-- a new object of one's own, behind changes of others -/
theorem off_mut {d g : Addr} {H H' : Hp} {p : Addr} {o : HO} (e : Evl.Ex H (off d g H')) (h : H p = none) : Evl.Ex H (off d g (upd H' p o)) := fun a u ha => by
  have z := off_some (e a u ha)
  exact off_of (by rw [upd_ne (ne_of_none ha h)]; exact z.2.2) z.1 z.2.1
theorem DrawAt.mut {H : Hp} {d g c p : Addr} {o : HO} (D : DrawAt H d g c) (h1 : p ≠ d) (h2 : p ≠ g) (h3 : p ≠ c) : DrawAt (upd H p o) d g c := by
  obtain ⟨⟨r, t, hd⟩, ⟨gs, hg⟩, ⟨cs, hc⟩, ne⟩ := D
  exact ⟨⟨r, t, by rw [upd_ne h1.symm]; exact hd⟩, ⟨gs, by rw [upd_ne h2.symm]; exact hg⟩, ⟨cs, by rw [upd_ne h3.symm]; exact hc⟩, ne⟩
theorem ps_never {X : Cx} {st : Stmt} : PS X st (fun _ _ _ => False) := ⟨fun _ _ _ _ _ _ h => h.elim⟩
theorem pe_never {X : Cx} {e : Expr} : PE X e (fun _ _ _ => False) := ⟨fun _ _ _ _ _ _ h => h.elim⟩
theorem yes_if {σ : L2.St} {H : Hp} {F G : Hp → Prop} (h : F H) : tYes σ H (fun b H3 => if b = true then F H3 else G H3) := by
  show if true = true then F H else G H
  rw [if_pos rfl]
  exact h
/-! ### data -/
mutual
theorem dp_ex {K : PySem.W.Frag} {H H' : Hp} (e : Evl.Ex H H') : ∀ (d : PyData) (v : V), Dp K H v d → Dp K H' v d
  | .none, _, h => by cases h; exact .non
  | .bool b, _, h => by cases h; exact .bl b
  | .int i, _, h => by cases h; exact .int i
  | .str x, _, h => by cases h; exact .str x
  | .list ds, _, h => by cases h with | lst hq hd => exact .lst (Evl.ex_l e hq) (dpa_ex e ds _ hd)
  | .tuple ds, _, h => by cases h with | tup hq hd => exact .tup (Evl.ex_t e hq) (dpa_ex e ds _ hd)
  | .dict _, _, h => by cases h
theorem dpa_ex {K : PySem.W.Frag} {H H' : Hp} (e : Evl.Ex H H') : ∀ (ds : List PyData) (vs : List V), DpAll K H vs ds → DpAll K H' vs ds
  | [], _, h => by cases h; exact .nil
  | d :: ds, _, h => by cases h with | cons h1 h2 => exact .cons (dp_ex e d _ h1) (dpa_ex e ds _ h2)
end
/-- a value that is data, not deep -/
def DataV (K : PySem.W.Frag) (H : Hp) (v : V) : Prop := ∃ d : PyData, Dp K H v d ∧ d.canLay0 = true ∧ d.depth ≤ 60
theorem DataV.ex {K : PySem.W.Frag} {H H' : Hp} {v : V} (h : DataV K H v) (e : Evl.Ex H H') : DataV K H' v := by
  obtain ⟨d, h1, h2⟩ := h
  exact ⟨d, dp_ex e d v h1, h2⟩
theorem data_all {K : PySem.W.Frag} {H : Hp} : ∀ vs : List V, (∀ v ∈ vs, DataV K H v) → ∃ ds : List PyData, DpAll K H vs ds ∧ PyData.canLayAll0 ds = true ∧ PyData.depthAll ds ≤ 60 ∧ ds.length = vs.length
  | [], _ => ⟨[], .nil, rfl, Nat.zero_le _, rfl⟩
  | v :: vs, h => by
    obtain ⟨d, h1, h2, h3⟩ := h v List.mem_cons_self
    obtain ⟨ds, g1, g2, g3, g4⟩ := data_all vs fun u hu => h u (List.mem_cons_of_mem _ hu)
    refine ⟨d :: ds, .cons h1 g1, ?_, ?_, by simp [g4]⟩
    · show (d.canLay0 && PyData.canLayAll0 ds) = true
      rw [h2, g2]
      rfl
    · show max d.depth (PyData.depthAll ds) ≤ 60
      omega
theorem data_list {K : PySem.W.Frag} {H : Hp} {a : Addr} {vs : List V} (hS : SqL K H a vs) (h : ∀ v ∈ vs, DataV K H v) : ∃ d : PyData, Dp K H (.ref a) d ∧ SeqAt.shaped d = true ∧ PyData.eqv d (.list []) = vs.isEmpty := by
  obtain ⟨ds, g1, g2, g3, g4⟩ := data_all vs h
  refine ⟨.list ds, .lst hS g1, ?_, ?_⟩
  · unfold SeqAt.shaped
    rw [show PyData.canLay0 (.list ds) = PyData.canLayAll0 ds from rfl, g2, show PyData.depth (.list ds) = PyData.depthAll ds + 1 from rfl]
    exact decide_eq_true (show PyData.depthAll ds + 1 ≤ 64 by omega)
  · cases vs with
    | nil =>
      cases ds with
      | nil => rfl
      | cons _ _ => simp at g4
    | cons _ _ =>
      cases ds with
      | nil => simp at g4
      | cons _ _ => rfl
theorem strV_data {K : PySem.W.Frag} {H : Hp} {z : Str} (h : PyData.strOk z = true) : DataV K H (.str z) := ⟨.str z, .str z, h, Nat.zero_le _⟩
/-! ### what the draws promise -/
def spBlend : Sp := fun vs H Q _ => ∃ (d g c : Addr), vs = [.ref d] ∧ DrawAt H d g c ∧ ∀ (n : Int) (H' : Hp), DrawAt H' d g c → SameD d g H H' → Q (.int n) H'
def spTake : Sp := fun vs H Q _ => ∃ (d g c : Addr) (n : Int), vs = [.ref d, .int n] ∧ 0 < n ∧ n < 2 ^ 30 ∧ DrawAt H d g c ∧ ∀ (k : Int) (H' : Hp), 0 ≤ k → k < n → DrawAt H' d g c → Evl.Ex (off d g H) (off d g H') → Q (.int k) H'
/-- one of a list's items -/
def spPickL (K : PySem.W.Frag) : Sp := fun vs H Q _ => ∃ (d g c a : Addr) (xs : List V), vs = [.ref d, .ref a] ∧ DrawAt H d g c ∧ SqL K (off d g H) a xs ∧ 0 < xs.length ∧ xs.length < 2 ^ 30 ∧
  ∀ (i : Nat) (v : V) (H' : Hp), xs[i]? = some v → DrawAt H' d g c → Evl.Ex (off d g H) (off d g H') → Q v H'
/-- one of a text's signs -/
def spPickS : Sp := fun vs H Q _ => ∃ (d g c : Addr) (z : Str), vs = [.ref d, .str z] ∧ DrawAt H d g c ∧ 0 < z.length ∧ z.length ≤ 1000 ∧
  ∀ (i ch : Nat) (H' : Hp), z.cps.toList[i]? = some ch → DrawAt H' d g c → Evl.Ex (off d g H) (off d g H') → Q (.str ⟨#[ch]⟩) H'
/-- a list's or tuple's items in some order, a new list -/
def spMixed (K : PySem.W.Frag) : Sp := fun vs H Q _ => ∃ (d g c a : Addr) (xs : List V), vs = [.ref d, .ref a] ∧ DrawAt H d g c ∧ (SqL K (off d g H) a xs ∨ SqT K (off d g H) a xs) ∧ xs.length ≤ 1000 ∧ (∀ v ∈ xs, DataV K (off d g H) v) ∧
  ∀ (p : Addr) (ys : List V) (H' : Hp), ys.Perm xs → DrawAt H' d g c → Evl.Ex (off d g H) (off d g H') → H p = none → off d g H' p = some (.lst ys) → Q (.ref p) H'
def spBegin (K : PySem.W.Frag) : Sp := fun vs H Q _ => ∃ (a : Addr) (ns : List Int), vs = [.ref a] ∧ SqL K H a (ns.map V.int) ∧ ns.length ≤ 63 ∧
  ∀ (d g c : Addr) (H' : Hp), DrawAt H' d g c → Evl.Ex H (off d g H') → Q (.ref d) H'
end Rw
end T_D0

section T_T0
set_option Elab.async false
set_option linter.all false
set_option maxRecDepth 100000
namespace Rw
open PySem L2 PyProof.Rows
def topS (i : Nat) : Stmt := PySem.Challenge.pw_roundways_k15_known_mixtures.main.body.getD i (.Pass ⟨0, 0, 0, 0⟩)
abbrev p_wall : Stmt := topS 0
abbrev p_copied : Stmt := topS 2
abbrev c_BadNet_init : Stmt := inClass (topS 4) 0
abbrev c_NoGoal_init : Stmt := inClass (topS 5) 0
abbrev c_NoNode_init : Stmt := inClass (topS 6) 0
abbrev c_BadLot_init : Stmt := inClass (topS 7) 0
abbrev c_Net_init : Stmt := inClass (topS 13) 0
abbrev c_Net_eq : Stmt := inClass (topS 13) 1
abbrev c_Net_tables : Stmt := inClass (topS 13) 2
abbrev c_Net_goals : Stmt := inClass (topS 13) 3
abbrev c_Net_nodes : Stmt := inClass (topS 13) 4
abbrev c_Net_sources : Stmt := inClass (topS 13) 5
abbrev c_Net_posts : Stmt := inClass (topS 13) 6
abbrev c_Net_changing : Stmt := inClass (topS 13) 7
abbrev c_Net_way : Stmt := inClass (topS 13) 8
abbrev c_Net_turned : Stmt := inClass (topS 13) 9
abbrev c_Net_with_way : Stmt := inClass (topS 13) 10
abbrev p_depths : Stmt := topS 14
abbrev p_is_sound : Stmt := topS 15
abbrev p_followed : Stmt := topS 16
abbrev p_check_net : Stmt := topS 17
abbrev p_check_goal : Stmt := topS 18
abbrev p_check_node : Stmt := topS 19
abbrev p_is_list : Stmt := topS 20
abbrev p_is_name : Stmt := topS 21
abbrev p_is_place : Stmt := topS 22
abbrev p_are_different : Stmt := topS 23
abbrev p_are_nodes : Stmt := topS 24
abbrev p_are_tables : Stmt := topS 25
abbrev p_is_pair_of_dicts : Stmt := topS 26
abbrev p_is_table : Stmt := topS 27
abbrev p_ways : Stmt := topS 29
abbrev p_ring : Stmt := topS 30
abbrev p_ranks : Stmt := topS 31
abbrev p_led : Stmt := topS 32
abbrev p_is_moving : Stmt := topS 33
abbrev p_is_place_with_moment : Stmt := topS 34
abbrev p_goes_on : Stmt := topS 35
abbrev p_reached : Stmt := topS 36
abbrev p_twice : Stmt := topS 37
abbrev p_with_moments : Stmt := topS 38
abbrev p_ways_at : Stmt := topS 39
abbrev p_nodes_behind : Stmt := topS 40
abbrev p_nodes_reached : Stmt := topS 41
abbrev p_least_ring : Stmt := topS 42
abbrev p_least_ranks : Stmt := topS 43
abbrev p_joined : Stmt := topS 44
abbrev p_check_lot : Stmt := topS 45
abbrev p_check_round : Stmt := topS 46
abbrev p_is_lot_of : Stmt := topS 47
abbrev s_begin : Stmt := topS 49
abbrev s_blend : Stmt := topS 50
abbrev s_pick : Stmt := topS 51
abbrev s_take : Stmt := topS 52
abbrev s_words : Stmt := topS 53
abbrev s_pair_right : Stmt := topS 54
abbrev s_three_right : Stmt := topS 55
abbrev s_goals_right : Stmt := topS 56
abbrev s_law : Stmt := topS 57
end Rw
end T_T0

section T_M0
set_option Elab.async false
set_option linter.all false
set_option maxRecDepth 100000
set_option maxHeartbeats 1000000
namespace Rw
open PySem L2 PyProof.Rows
/-! ### names as lists of code points -/
def Nm (z : Str) : Prop := ∃ l : List Nat, z = SX.S l ∧ 1 ≤ l.length ∧ l.length ≤ 6 ∧ ∀ x ∈ l, 97 ≤ x ∧ x ≤ 122
theorem nm_len {z : Str} (h : Nm z) : z.length ≤ 6 := by
  obtain ⟨l, rfl, _, h2, _⟩ := h
  rw [SX.S_len]
  exact h2
theorem nm_ok {z : Str} (h : Nm z) : PyData.strOk z = true := by
  obtain ⟨l, rfl, _, _, h3⟩ := h
  show (l.toArray.all (· < 0x110000)) = true
  rw [List.all_toArray, List.all_eq_true]
  intro x hx
  have := h3 x hx
  exact decide_eq_true (by omega)
theorem nm_data {K : PySem.W.Frag} {H : Hp} {z : Str} (h : Nm z) : DataV K H (.str z) := strV_data (nm_ok h)
theorem inV_str (z : Str) : ∀ zs : List Str, inV (.str z) (zs.map V.str) = decide (z ∈ zs)
  | [] => rfl
  | y :: r => by
    show ((y == z) || inV (.str z) (r.map V.str)) = decide (z ∈ y :: r)
    rw [inV_str z r]
    by_cases e : y = z
    · subst e
      rw [beq_self_eq_true, decide_eq_true (List.mem_cons_self)]
      rfl
    · have e1 : (y == z) = false := beq_eq_false_iff_ne.mpr e
      rw [e1]
      by_cases m : z ∈ r
      · rw [decide_eq_true m, decide_eq_true (List.mem_cons_of_mem _ m)]
        rfl
      · rw [decide_eq_false m, decide_eq_false (fun h => (List.mem_cons.mp h).elim (fun q => e q.symm) m)]
        rfl
theorem flat_strs : ∀ zs : List Str, (zs.map V.str).all flatV = true
  | [] => rfl
  | _ :: r => by
    show (true && (r.map V.str).all flatV) = true
    rw [flat_strs r]
    rfl
theorem join_signs : ∀ cs : List Nat, Txt.join Str.empty (cs.map fun x => SX.S [x]) = SX.S cs := fun cs => by
  rw [show Txt.join Str.empty (cs.map fun x => SX.S [x]) = Str.join Str.empty (cs.map fun x => SX.S [x]) from StrLaws.glued_eq_join _ _]
  induction cs with
  | nil => rfl
  | cons x r ih =>
    show Str.join ⟨#[]⟩ (SX.S [x] :: r.map fun x => SX.S [x]) = SX.S (x :: r)
    rw [PyProof.Rows.join_nil_cons]
    show SX.S [x] ++ Str.join Str.empty (r.map fun x => SX.S [x]) = SX.S (x :: r)
    rw [ih, SX.S_cat]
    rfl
theorem cut5 (l : List Nat) : cutS (SX.S l) none (some 5) = SX.S (l.take 5) := by
  unfold cutS
  rw [show HT.sIx (SX.S l).length 0 none = 0 from rfl, show HT.sIx (SX.S l).length (SX.S l).length (some 5) = min 5 (SX.S l).length from HT.sIx_nat _ _ 5, SX.S_len]
  show SX.S ((l.drop 0).take (min 5 l.length - 0)) = SX.S (l.take 5)
  rw [List.drop_zero, Nat.sub_zero]
  congr 1
  by_cases h : 5 ≤ l.length
  · rw [Nat.min_eq_left h]
  · rw [Nat.min_eq_right (by omega), List.take_length, List.take_of_length_le (by omega)]
/-- as many different things as ys holds -/
theorem nodup_le {α : Type} [DecidableEq α] : ∀ (xs ys : List α), xs.Nodup → (∀ x ∈ xs, x ∈ ys) → xs.length ≤ ys.length
  | [], _, _, _ => Nat.zero_le _
  | x :: r, ys, h, hs => by
    have h1 : x ∈ ys := hs x List.mem_cons_self
    have h2 := nodup_le r (ys.erase x) (List.nodup_cons.mp h).2 fun y hy => by
      have ne : y ≠ x := fun e => (List.nodup_cons.mp h).1 (e ▸ hy)
      exact (List.mem_erase_of_ne ne).mpr (hs y (List.mem_cons_of_mem _ hy))
    rw [List.length_erase_of_mem h1] at h2
    have h3 : 0 < ys.length := List.length_pos_of_mem h1
    rw [List.length_cons]
    omega
/-- the names near a name: it, and each letter behind its first five -/
def near (l : List Nat) : List Str := SX.S l :: (List.range 26).map fun k => SX.S (l.take 5 ++ [97 + k])
theorem near_nm {l : List Nat} (h1 : 1 ≤ l.length) (h2 : l.length ≤ 6) (h3 : ∀ x ∈ l, 97 ≤ x ∧ x ≤ 122) : ∀ z ∈ near l, Nm z := fun z hz => by
  rcases List.mem_cons.mp hz with rfl | hz
  · exact ⟨l, rfl, h1, h2, h3⟩
  · obtain ⟨k, hk, rfl⟩ := List.mem_map.mp hz
    have hk' := List.mem_range.mp hk
    refine ⟨l.take 5 ++ [97 + k], rfl, by simp, by simp; omega, fun x hx => ?_⟩
    rcases List.mem_append.mp hx with hx | hx
    · exact h3 x (List.mem_of_mem_take hx)
    · rw [List.mem_singleton.mp hx]
      omega
theorem near_nodup (l : List Nat) : ((List.range 26).map fun k => SX.S (l.take 5 ++ [97 + k])).Nodup := by
  refine List.Pairwise.map _ (R := fun a b : Nat => a ≠ b) (fun a b ne e => ?_) List.nodup_range
  have e1 := SX.S_inj e
  have e2 : [97 + a] = [97 + b] := List.append_cancel_left e1
  have e3 : 97 + a = 97 + b := by simpa using e2
  omega
theorem near_some (l : List Nat) (zs : List Str) (h : zs.length < 26) : ∃ z r, (near l).filter (fun z => decide (z ∉ zs)) = z :: r := by
  cases e : (near l).filter (fun z => decide (z ∉ zs)) with
  | cons z r => exact ⟨z, r, rfl⟩
  | nil =>
    exfalso
    have hall : ∀ z ∈ near l, z ∈ zs := fun z hz => by
      by_cases m : z ∈ zs
      · exact m
      · have : z ∈ (near l).filter (fun z => decide (z ∉ zs)) := List.mem_filter.mpr ⟨hz, decide_eq_true m⟩
        rw [e] at this
        cases this
    have h2 := nodup_le _ zs (near_nodup l) fun z hz => hall z (List.mem_cons_of_mem _ hz)
    simp at h2
    omega
theorem nm_by {z : Str} (h : decide (1 ≤ z.cps.toList.length ∧ z.cps.toList.length ≤ 6 ∧ ∀ x ∈ z.cps.toList, 97 ≤ x ∧ x ≤ 122) = true) : Nm z := by
  obtain ⟨h1, h2, h3⟩ := of_decide_eq_true h
  exact ⟨z.cps.toList, (SX.S_tl z).symm, h1, h2, h3⟩
def z26 : Str := "abcdefghijklmnopqrstuvwxyz"
theorem z26_eq : z26.cps.toList = (List.range 26).map fun k => 97 + k := by decide +kernel
def words10 : List Str := ["a", "b", "goal", "home", "lost", "rings", "posts", "done", "way", "zzzzzz"]
theorem words10_nm : ∀ z ∈ words10, Nm z := fun z hz => by
  have h : ∀ z ∈ words10, decide (1 ≤ z.cps.toList.length ∧ z.cps.toList.length ≤ 6 ∧ ∀ x ∈ z.cps.toList, 97 ≤ x ∧ x ≤ 122) = true := by decide +kernel
  exact nm_by (h z hz)
/-- while names are made: those made at f, the ten words at sm -/
structure StW (H H' : Hp) (d g c f sm : Addr) (zs : List Str) : Prop where
  hf : H' f = some (.lst (zs.map V.str))
  hs : off d g H' sm = some (.lst (words10.map V.str))
  dr : DrawAt H' d g c
  ex : Evl.Ex (off d g H) (off d g H')
  n1 : f ≠ d
  n2 : f ≠ g
  n3 : f ≠ sm
theorem StW.call {H H1 H2 : Hp} {d g c f sm : Addr} {zs : List Str} (h : StW H H1 d g c f sm zs) (D : DrawAt H2 d g c) (e : Evl.Ex (off d g H1) (off d g H2)) : StW H H2 d g c f sm zs :=
  ⟨ex_off d g H2 _ _ (e _ _ (off_of h.hf h.n1 h.n2)), e _ _ h.hs, D, h.ex.trans e, h.n1, h.n2, h.n3⟩
theorem StW.new {H H1 : Hp} {d g c f sm p : Addr} {o : HO} {zs : List Str} (h : StW H H1 d g c f sm zs) (hp : H1 p = none) : StW H (upd H1 p o) d g c f sm zs :=
  h.call (h.dr.new hp) (off_ex (Evl.Ex.new hp))
theorem StW.mut {H H1 : Hp} {d g c f sm p : Addr} {o : HO} {zs : List Str} (h : StW H H1 d g c f sm zs) (h0 : H p = none) (nf : p ≠ f) (ns : p ≠ sm) (nd : p ≠ d) (ng : p ≠ g) (nc : p ≠ c) : StW H (upd H1 p o) d g c f sm zs := by
  have hs := off_some h.hs
  exact ⟨by rw [upd_ne nf.symm]; exact h.hf, off_of (by rw [upd_ne ns.symm]; exact hs.2.2) hs.1 hs.2.1, h.dr.mut nd ng nc, off_mut h.ex (off_free h0), h.n1, h.n2, h.n3⟩
theorem StW.free {H H1 : Hp} {d g c f sm p : Addr} {zs : List Str} (h : StW H H1 d g c f sm zs) (hp : H1 p = none) : H p = none ∧ p ≠ f ∧ p ≠ sm ∧ p ≠ d ∧ p ≠ g ∧ p ≠ c := by
  obtain ⟨a1, a2, a3⟩ := h.dr.ned hp
  refine ⟨?_, (ne_of_none h.hf hp).symm, (ne_of_none (off_some h.hs).2.2 hp).symm, a1, a2, a3⟩
  cases e : H p with
  | none => rfl
  | some o =>
    have z := ex_off d g H1 _ _ (h.ex _ _ (off_of e a1 a2))
    rw [hp] at z
    cases z
/-- some names, all different -/
def spWords (K : PySem.W.Frag) : Sp := fun vs H Q _ => ∃ (d g c : Addr) (n : Nat), vs = [.ref d, .int (n : Int)] ∧ DrawAt H d g c ∧ n ≤ 20 ∧
  ∀ (p : Addr) (zs : List Str) (H' : Hp), zs.length = n → zs.Nodup → (∀ z ∈ zs, Nm z) → DrawAt H' d g c → Evl.Ex (off d g H) (off d g H') → H p = none → off d g H' p = some (.lst (zs.map V.str)) → Q (.ref p) H'
end Rw
end T_M0

section T_M1
set_option Elab.async false
set_option linter.all false
set_option maxRecDepth 100000
set_option maxHeartbeats 1000000
namespace Rw
open PySem L2 PyProof.Rows
/-! ### tables: from names to places -/
def tkv (tb : List (Str × V)) : List (Key × V) := tb.map fun q => (Sum.inr q.1, q.2)
/-- a place of z for the goal e -/
def PlaceOk (zs : List Str) (e z : Str) (v : V) : Prop := v = .non ∨ v = .str e ∨ ∃ y ∈ zs, y ≠ z ∧ v = .str y
structure TabOk (zs : List Str) (e : Str) (tb : List (Str × V)) : Prop where
  ks : (tb.map (·.1)).Perm zs
  ps : ∀ q ∈ tb, PlaceOk zs e q.1 q.2
theorem tkv_none {tb : List (Str × V)} {z : Str} (h : z ∉ tb.map (·.1)) : valV (tkv tb) (Sum.inr z) = none := by
  induction tb with
  | nil => rfl
  | cons q r ih =>
    have h1 : q.1 ≠ z := fun e => h (by rw [← e]; exact List.mem_cons_self)
    show valV ((Sum.inr q.1, q.2) :: tkv r) (Sum.inr z) = none
    rw [valV_neg (fun e => h1 (Sum.inr.inj e))]
    exact ih fun hr => h (List.mem_cons_of_mem _ hr)
theorem tkv_some {tb : List (Str × V)} {z : Str} (h : z ∈ tb.map (·.1)) : ∃ v, valV (tkv tb) (Sum.inr z) = some v ∧ (z, v) ∈ tb := by
  induction tb with
  | nil => cases h
  | cons q r ih =>
    by_cases e : q.1 = z
    · refine ⟨q.2, ?_, ?_⟩
      · exact valV_pos (p := (Sum.inr q.1, q.2)) (by rw [e])
      · rw [← e]; exact List.mem_cons_self
    · rcases List.mem_cons.mp h with h | h
      · exact absurd h.symm e
      · obtain ⟨v, h1, h2⟩ := ih h
        refine ⟨v, ?_, List.mem_cons_of_mem _ h2⟩
        show valV ((Sum.inr q.1, q.2) :: tkv r) (Sum.inr z) = some v
        rw [valV_neg (fun x => e (Sum.inr.inj x))]
        exact h1
theorem tkv_new {tb : List (Str × V)} {z : Str} {v : V} (h : z ∉ tb.map (·.1)) : putK (tkv tb) (Sum.inr z) v = tkv (tb ++ [(z, v)]) := by
  rw [putK_new _ (tkv_none h)]
  unfold tkv
  rw [List.map_append]
  rfl
theorem tkv_len (tb : List (Str × V)) : (tkv tb).length = tb.length := by unfold tkv; rw [List.length_map]
theorem str_at {ws : List Str} {i : Nat} {y : V} (h : (ws.map V.str)[i]? = some y) : ∃ z, ws[i]? = some z ∧ y = V.str z := by
  rw [List.getElem?_map] at h
  cases e : ws[i]? with
  | none => rw [e] at h; cases h
  | some z => rw [e] at h; exact ⟨z, rfl, (Option.some.inj h).symm⟩
theorem strs_of : ∀ l : List V, (∀ y ∈ l, ∃ z : Str, y = V.str z) → ∃ ws : List Str, l = ws.map V.str
  | [], _ => ⟨[], rfl⟩
  | y :: r, h => by
    obtain ⟨z, rfl⟩ := h y List.mem_cons_self
    obtain ⟨ws, rfl⟩ := strs_of r fun u hu => h u (List.mem_cons_of_mem _ hu)
    exact ⟨z :: ws, rfl⟩
theorem perm_strs {ys : List V} {zs : List Str} (h : ys.Perm (zs.map V.str)) : ∃ ws : List Str, ys = ws.map V.str ∧ ws.Perm zs := by
  obtain ⟨ws, rfl⟩ := strs_of ys fun y hy => by
    obtain ⟨z, _, e⟩ := List.mem_map.mp (h.subset hy)
    exact ⟨z, e.symm⟩
  refine ⟨ws, rfl, ?_⟩
  have := h.map fun v : V => match v with | .str z => z | _ => Str.empty
  rw [List.map_map, List.map_map] at this
  have i1 : ((fun v : V => match v with | .str z => z | _ => Str.empty) ∘ V.str) = id := rfl
  rw [i1, List.map_id, List.map_id] at this
  exact this
theorem merge_app : ∀ (tb acc : List (Str × V)), ((acc ++ tb).map (·.1)).Nodup → mergeK (tkv acc) (tkv tb) = tkv (acc ++ tb)
  | [], acc, _ => by rw [List.append_nil]; rfl
  | q :: r, acc, h => by
    have h1 : q.1 ∉ acc.map (·.1) := fun hm => by
      rw [List.map_append] at h
      exact (List.nodup_append.mp h).2.2 q.1 hm q.1 List.mem_cons_self rfl
    show mergeK (putK (tkv acc) (Sum.inr q.1) q.2) (tkv r) = tkv (acc ++ q :: r)
    rw [tkv_new h1, merge_app r (acc ++ [(q.1, q.2)]) (by simpa using h)]
    simp
theorem merge_tkv {tb : List (Str × V)} (h : (tb.map (·.1)).Nodup) : mergeK [] (tkv tb) = tkv tb := merge_app tb [] h
theorem cut_last (xs : List V) : cutV xs none (some (-1)) = xs.dropLast := by
  unfold cutV
  rw [show HT.sIx xs.length 0 none = 0 from rfl]
  have e : HT.sIx xs.length xs.length (some (-1)) = xs.length - 1 := by
    unfold HT.sIx
    simp
    omega
  rw [e, List.drop_zero, Nat.sub_zero, List.dropLast_eq_take]
theorem tkv_old {tb : List (Str × V)} {z : Str} {v : V} (h : z ∈ tb.map (·.1)) : putK (tkv tb) (Sum.inr z) v = tkv (tb.map fun q => if q.1 = z then (q.1, v) else q) := by
  unfold putK
  obtain ⟨u, hu, _⟩ := tkv_some h
  rw [valV_any, hu]
  rw [if_pos (show (some u).isSome = true from rfl)]
  unfold tkv
  rw [List.map_map, List.map_map]
  refine List.map_congr_left fun q _ => ?_
  show (if (Sum.inr q.1 : Key) = Sum.inr z then ((Sum.inr q.1 : Key), v) else (Sum.inr q.1, q.2)) = (Sum.inr (if q.1 = z then (q.1, v) else q).1, (if q.1 = z then (q.1, v) else q).2)
  by_cases e : q.1 = z
  · rw [if_pos e, if_pos (congrArg Sum.inr e)]
  · rw [if_neg e, if_neg fun w => e (Sum.inr.inj w)]
theorem TabOk.put {zs : List Str} {e z : Str} {tb : List (Str × V)} {v : V} (h : TabOk zs e tb) (hv : PlaceOk zs e z v) : TabOk zs e (tb.map fun q => if q.1 = z then (q.1, v) else q) := by
  refine ⟨?_, ?_⟩
  · have e1 : (tb.map fun q => if q.1 = z then (q.1, v) else q).map (·.1) = tb.map (·.1) := by
      rw [List.map_map]
      refine List.map_congr_left fun q _ => ?_
      show (if q.1 = z then (q.1, v) else q).1 = q.1
      by_cases e : q.1 = z
      · rw [if_pos e]
      · rw [if_neg e]
    rw [e1]
    exact h.ks
  · intro q hq
    obtain ⟨r, hr, rfl⟩ := List.mem_map.mp hq
    by_cases e : r.1 = z
    · rw [if_pos e]
      show PlaceOk zs _ r.1 v
      rw [e]
      exact hv
    · rw [if_neg e]
      exact h.ps r hr
/-- a row of names, each of which leads to the next one, the last one to e -/
def pathTab (ws : List Str) (e : Str) : List (Str × V) := ws.zip ((ws ++ [e]).tail.map V.str)
theorem pathTab_get {ws : List Str} {e x : Str} {i : Nat} (h : ws[i]? = some x) : ∃ y, (ws ++ [e])[i + 1]? = some y ∧ (pathTab ws e)[i]? = some (x, .str y) := by
  have hi : i < ws.length := (List.getElem?_eq_some_iff.mp h).1
  have h1 : i + 1 < (ws ++ [e]).length := by simp; omega
  refine ⟨(ws ++ [e])[i + 1], List.getElem?_eq_getElem h1, ?_⟩
  unfold pathTab
  rw [List.getElem?_zip_eq_some]
  refine ⟨h, ?_⟩
  rw [List.getElem?_map, List.getElem?_tail, List.getElem?_eq_getElem h1]
  rfl
theorem pathTab_keys (ws : List Str) (e : Str) : (pathTab ws e).map (·.1) = ws := by
  unfold pathTab
  exact List.map_fst_zip (by simp)
theorem pathTab_ok {ws zs : List Str} {e : Str} (hw : ws.Perm zs) (hnd : zs.Nodup) : TabOk zs e (pathTab ws e) := by
  refine ⟨by rw [pathTab_keys]; exact hw, ?_⟩
  rintro ⟨x, v⟩ hq
  obtain ⟨i, hi, hi'⟩ := List.getElem_of_mem hq
  have hx : ws[i]? = some x := by
    have := congrArg (fun l => l[i]?) (pathTab_keys ws e)
    simp only [List.getElem?_map, List.getElem?_eq_getElem hi, hi', Option.map_some] at this
    exact this.symm
  obtain ⟨y, h1, h2⟩ := pathTab_get (e := e) hx
  rw [List.getElem?_eq_getElem hi, hi'] at h2
  have hv : v = .str y := congrArg Prod.snd (Option.some.inj h2)
  show PlaceOk zs e x v
  subst hv
  have wnd : ws.Nodup := hw.nodup_iff.mpr hnd
  by_cases hl : i + 1 < ws.length
  · rw [List.getElem?_append_left hl] at h1
    refine .inr (.inr ⟨y, hw.subset (List.mem_of_getElem? h1), fun q => ?_, rfl⟩)
    subst q
    have := (List.getElem?_inj (i := i + 1) (j := i) hl wnd).mp (h1.trans hx.symm)
    omega
  · have hi2 : i < ws.length := (List.getElem?_eq_some_iff.mp hx).1
    rw [List.getElem?_append_right (by omega), show i + 1 - ws.length = 0 by omega] at h1
    exact .inr (.inl (congrArg V.str (Option.some.inj h1).symm))
/-- a new table of the names at a list, for a goal -/
def spTab (K : PySem.W.Frag) : Sp := fun vs H Q _ => ∃ (d g c a : Addr) (zs : List Str) (e : Str), vs = [.ref d, .ref a, .str e] ∧ DrawAt H d g c ∧ SqL K (off d g H) a (zs.map V.str) ∧ zs.Nodup ∧ (∀ z ∈ zs, Nm z) ∧ Nm e ∧ e ∉ zs ∧ zs.length ≤ 10 ∧
  ∀ (p : Addr) (tb : List (Str × V)) (H' : Hp), TabOk zs e tb → DrawAt H' d g c → Evl.Ex (off d g H) (off d g H') → H p = none → off d g H' p = some (.dK (tkv tb)) → Q (.ref p) H'
/-- a table that is like another one -/
def spNear (K : PySem.W.Frag) : Sp := fun vs H Q _ => ∃ (d g c t : Addr) (zs : List Str) (e : Str) (tb : List (Str × V)), vs = [.ref d, .ref t, .str e] ∧ DrawAt H d g c ∧ off d g H t = some (.dK (tkv tb)) ∧ TabOk zs e tb ∧ zs.Nodup ∧ 0 < zs.length ∧ zs.length ≤ 10 ∧
  ∀ (p : Addr) (tb' : List (Str × V)) (H' : Hp), TabOk zs e tb' → DrawAt H' d g c → Evl.Ex (off d g H) (off d g H') → H p = none → off d g H' p = some (.dK (tkv tb')) → Q (.ref p) H'
end Rw
end T_M1

section T_M2
set_option Elab.async false
set_option linter.all false
set_option maxRecDepth 100000
set_option maxHeartbeats 1000000
namespace Rw
open PySem L2 PyProof.Rows
theorem ex_free {d g p : Addr} {H H' : Hp} (x : Evl.Ex (off d g H) (off d g H')) (h1 : p ≠ d) (h2 : p ≠ g) (h : H' p = none) : H p = none := by
  cases e : H p with
  | none => rfl
  | some o =>
    have z := ex_off d g H' _ _ (x _ _ (off_of e h1 h2))
    rw [h] at z
    cases z
/-- at p a pair of tables for the goal e -/
structure PairAt (H : Hp) (zs : List Str) (e : Str) (p po pn : Addr) (t1 t2 : List (Str × V)) : Prop where
  hp : H p = some (.tup [.ref po, .ref pn])
  ho : H po = some (.dK (tkv t1))
  hn : H pn = some (.dK (tkv t2))
  o1 : TabOk zs e t1
  o2 : TabOk zs e t2
theorem PairAt.ex {H H' : Hp} {zs : List Str} {e : Str} {p po pn : Addr} {t1 t2 : List (Str × V)} (h : PairAt H zs e p po pn t1 t2) (x : Evl.Ex H H') : PairAt H' zs e p po pn t1 t2 := ⟨x _ _ h.hp, x _ _ h.ho, x _ _ h.hn, h.o1, h.o2⟩
def spPair (K : PySem.W.Frag) : Sp := fun vs H Q _ => ∃ (d g c a : Addr) (zs : List Str) (e : Str), vs = [.ref d, .ref a, .str e] ∧ DrawAt H d g c ∧ SqL K (off d g H) a (zs.map V.str) ∧ zs.Nodup ∧ (∀ z ∈ zs, Nm z) ∧ Nm e ∧ e ∉ zs ∧ 0 < zs.length ∧ zs.length ≤ 10 ∧
  ∀ (p po pn : Addr) (t1 t2 : List (Str × V)) (H' : Hp), DrawAt H' d g c → Evl.Ex (off d g H) (off d g H') → PairAt (off d g H') zs e p po pn t1 t2 → H p = none → H po = none → H pn = none → Q (.ref p) H'
/-- the rows of a model: from each goal to a pair of tables -/
def RowsOk (H : Hp) (dots : List Str) (rows : List (Str × V)) : Prop := ∀ q ∈ rows, ∃ (p po pn : Addr) (t1 t2 : List (Str × V)), q.2 = .ref p ∧ PairAt H dots q.1 p po pn t1 t2
theorem RowsOk.ex {H H' : Hp} {dots : List Str} {rows : List (Str × V)} (h : RowsOk H dots rows) (x : Evl.Ex H H') : RowsOk H' dots rows := fun q hq => by
  obtain ⟨p, po, pn, t1, t2, e, z⟩ := h q hq
  exact ⟨p, po, pn, t1, t2, e, z.ex x⟩
theorem TabOk.perm {zs ys : List Str} {e : Str} {tb : List (Str × V)} (h : TabOk zs e tb) (hp : zs.Perm ys) : TabOk ys e tb := by
  refine ⟨h.ks.trans hp, fun q hq => ?_⟩
  rcases h.ps q hq with z | z | ⟨y, hy, hne, z⟩
  · exact .inl z
  · exact .inr (.inl z)
  · exact .inr (.inr ⟨y, hp.subset hy, hne, z⟩)
theorem tkv_inj : ∀ {t1 t2 : List (Str × V)}, tkv t1 = tkv t2 → t1 = t2
  | [], [], _ => rfl
  | [], _ :: _, h => by cases h
  | _ :: _, [], h => by cases h
  | a :: r, b :: q, h => by
    have h1 : ((Sum.inr a.1 : Key), a.2) :: tkv r = (Sum.inr b.1, b.2) :: tkv q := h
    obtain ⟨h2, h3⟩ := List.cons.inj h1
    obtain ⟨e1, e2⟩ := Prod.mk.inj h2
    rw [tkv_inj h3, Prod.ext (Sum.inr.inj e1) e2]
theorem tab_ne {H : Hp} {dots zs : List Str} {e : Str} {rows t1 : List (Str × V)} {t po : Addr} (ht : H t = some (.dK (tkv rows))) (hr : RowsOk H dots rows) (h0 : rows ≠ []) (ho : H po = some (.dK (tkv t1))) (o1 : TabOk zs e t1) : po ≠ t := fun z => by
  subst z
  rw [ht] at ho
  have e1 := tkv_inj (HO.dK.inj (Option.some.inj ho))
  cases rows with
  | nil => exact h0 rfl
  | cons q r =>
    obtain ⟨p, _, _, _, _, e2, _⟩ := hr q List.mem_cons_self
    have h3 := o1.ps q (by rw [← e1]; exact List.mem_cons_self)
    rw [e2] at h3
    rcases h3 with h3 | h3 | ⟨_, _, _, h3⟩ <;> cases h3
theorem tkv_keysV (tb : List (Str × V)) : ((tkv tb).map fun kv => kV kv.1) = (tb.map (·.1)).map V.str := by
  unfold tkv
  rw [List.map_map, List.map_map]
  rfl
/-- what a model is, without the heap -/
structure ModelOk (ends dots ss ps : List Str) : Prop where
  e0 : 0 < ends.length
  e2 : ends.length ≤ 2
  en : ends.Nodup
  es : sortedS ends = true
  em : ∀ z ∈ ends, Nm z
  d0 : 0 < dots.length
  d6 : dots.length ≤ 6
  dn : dots.Nodup
  ds : sortedS dots = true
  dm : ∀ z ∈ dots, Nm z
  ed : ∀ z ∈ ends, z ∉ dots
  sn : ss.Nodup
  sss : sortedS ss = true
  sd : ∀ z ∈ ss, z ∈ dots
  pn : ps.Nodup
  p2 : ps.length ≤ 2
  pd : ∀ z ∈ ps, z ∈ dots
def mkv (tb db sb pb : Addr) : List (Key × V) := [(.inr "tables", .ref tb), (.inr "dots", .ref db), (.inr "sources", .ref sb), (.inr "posts", .ref pb)]
theorem mkv_tables (tb db sb pb : Addr) : valV (mkv tb db sb pb) (.inr "tables") = some (.ref tb) := by kernel_rfl
theorem mkv_dots (tb db sb pb : Addr) : valV (mkv tb db sb pb) (.inr "dots") = some (.ref db) := by kernel_rfl
theorem mkv_sources (tb db sb pb : Addr) : valV (mkv tb db sb pb) (.inr "sources") = some (.ref sb) := by kernel_rfl
theorem mkv_posts (tb db sb pb : Addr) : valV (mkv tb db sb pb) (.inr "posts") = some (.ref pb) := by kernel_rfl
/-- a model stands at m -/
structure ModelAt (H : Hp) (m tb db sb pb : Addr) (ends dots ss ps : List Str) (rows : List (Str × V)) : Prop where
  hm : H m = some (.dK (mkv tb db sb pb))
  ht : H tb = some (.dK (tkv rows))
  hd : H db = some (.lst (dots.map V.str))
  hs : H sb = some (.lst (ss.map V.str))
  hp : H pb = some (.lst (ps.map V.str))
  rk : rows.map (·.1) = ends
  ro : RowsOk H dots rows
  ok : ModelOk ends dots ss ps
theorem ModelAt.ex {H H' : Hp} {m tb db sb pb : Addr} {ends dots ss ps : List Str} {rows : List (Str × V)} (h : ModelAt H m tb db sb pb ends dots ss ps rows) (x : Evl.Ex H H') : ModelAt H' m tb db sb pb ends dots ss ps rows :=
  ⟨x _ _ h.hm, x _ _ h.ht, x _ _ h.hd, x _ _ h.hs, x _ _ h.hp, h.rk, h.ro.ex x, h.ok⟩
/-- a new model -/
def spModel : Sp := fun vs H Q _ => ∃ (d g c : Addr) (e k : Int), vs = [.ref d, .int e, .int k] ∧ DrawAt H d g c ∧ 0 < e ∧ e ≤ 2 ∧ 0 < k ∧ k ≤ 6 ∧
  ∀ (m tb db sb pb : Addr) (ends dots ss ps : List Str) (rows : List (Str × V)) (H' : Hp), DrawAt H' d g c → Evl.Ex (off d g H) (off d g H') → ModelAt (off d g H') m tb db sb pb ends dots ss ps rows → Q (.ref m) H'
end Rw
end T_M2

section T_S0
set_option Elab.async false
set_option linter.all false
set_option maxRecDepth 100000
set_option maxHeartbeats 2000000
namespace Rw
open PySem PySem.Spec L2 PyProof.Rows
/-! ### sets of texts -/
def txt (e : Int × Value) : Str := match e.2 with | .str z _ => z | _ => Str.empty
def GoodT (w : World) (e : Int × Value) : Prop := ∃ z tk, e.2 = Value.str z tk ∧ e.1 = hashStr w z
/-- at a the set of the texts ks -/
def SetX (w : World) (h : Heap) (a : Addr) (ks : List Str) : Prop :=
  ∃ o es ep t, h.get? a = some o ∧ o.ExactSet ∧ o.data = .set es ep t ∧ (∀ e ∈ es.toList, GoodT w e) ∧ (es.toList.map txt).Perm ks ∧ ks.Nodup ∧ es.size < scanBound ∧ t.fits es.size = true ∧
    Ris t.place.toList ∧ (w.params.followText "set-order" = true ∨ t.led = true)
section
variable {P : Program} {w : World} {A : Around} {E : Value → Shared → Prop} {s : Shared} {a : Addr} {ks : List Str}
theorem SetX.keep {h h' : Heap} (R : SetX w h a ks) (k : ∀ o, h.get? a = some o → h'.get? a = some o) : SetX w h' a ks := by
  obtain ⟨o, es, ep, t, ho, rest⟩ := R
  exact ⟨o, es, ep, t, k o ho, rest⟩
theorem SetX.size {h : Heap} (R : SetX w h a ks) : ∃ o es ep t, h.get? a = some o ∧ o.ExactSet ∧ o.data = .set es ep t ∧ t.fits es.size = true ∧ es.size = ks.length := by
  obtain ⟨o, es, ep, t, ho, hex, hd, _, pm, _, _, hf, _⟩ := R
  refine ⟨o, es, ep, t, ho, hex, hd, hf, ?_⟩
  rw [← pm.length_eq, List.length_map, Array.length_toList]
theorem goodT_elems {l : List (Int × Value)} (g : ∀ e ∈ l, GoodT w e) : ElemsOf (PySem.strKind P w) l := fun e he => by
  obtain ⟨z, tk, h1, h2⟩ := g e he
  refine ⟨⟨z, by rw [h1]; exact strKind_is _ _ _ _, h2⟩, ?_⟩
  rw [h1]
  rfl
theorem goodT_is {e : Int × Value} (g : GoodT w e) (z : Str) : (PySem.strKind P w).is z e.2 = true ↔ txt e = z := by
  obtain ⟨y, tk, h1, _⟩ := g
  unfold txt
  rw [h1]
  show ((y == z) = true) ↔ y = z
  exact beq_iff_eq
/-- what a new element leaves -/
theorem setX_tail {g : Bool → Sem Unit} (quiet : ∀ (b : Bool) (s₁ : Shared) (Q' : Unit → Shared → Prop), Q' () s₁ → wpAny (model P w) A (g b) Q' E s₁) {o : Obj} {es : Array (Int × Value)} {ep : Nat} {t : SetTable}
    (ho : s.heap.get? a = some o) (hex : o.ExactSet) (hd : o.data = .set es ep t) {es1 : Array (Int × Value)} {t2 : SetTable} (g1 : ∀ e ∈ es1.toList, GoodT w e) (pm1 : (es1.toList.map txt).Perm ks) (nd1 : ks.Nodup)
    (few : es1.size < scanBound) (fit2 : t2.fits es1.size = true) (rise : Ris t2.place.toList) (order : w.params.followText "set-order" = true ∨ t2.led = true) {wasDummy : Bool} {R : Option Bool → Shared → Prop}
    (hR : ∀ h', Heap.SameBut a s.heap h' → SetX w h' a ks → R (some true) { s with heap := h' }) :
    wpAny (model P w) A (do
        storeSet a es1 t2
        if (!wasDummy && t2.tooFull) = true then do
            g (relayAll t2 es1 (SetTable.grown es1.size)).2.2
            storeSet a (relayAll t2 es1 (SetTable.grown es1.size)).1 (relayAll t2 es1 (SetTable.grown es1.size)).2.1
            pure (some true)
          else pure (some true)) R E s := by
  refine wpAny_bind (wpAny_storeSet_of ho hd ?_ (fits_of_scanBound few))
  have at1 := store_at (es' := es1) (t' := t2) ho hd
  have same1 := Heap.SameBut.update s.heap a (Obj.putSet es1 t2)
  split
  · have perm3 := relayAll_perm t2 es1 (SetTable.grown es1.size)
    have fit3 := relayAll_fits t2 es1 (SetTable.grown es1.size)
    have rise3 := relayAll_ris t2 es1 (SetTable.grown es1.size)
    have led3 := relayAll_led t2 es1 (SetTable.grown es1.size)
    generalize relayAll t2 es1 (SetTable.grown es1.size) = out at perm3 fit3 rise3 led3 ⊢
    obtain ⟨es2, t3, gave⟩ := out
    dsimp only at perm3 fit3 rise3 led3 ⊢
    have same_size : es2.size = es1.size := by rw [← Array.length_toList, perm3.length_eq, Array.length_toList]
    have few2 : es2.size < scanBound := by omega
    refine wpAny_bind (quiet _ _ _ ?_)
    refine wpAny_bind (wpAny_storeSet_of at1 rfl ?_ (fits_of_scanBound few2))
    refine wpAny_pure (hR _ (same1.trans (Heap.SameBut.update _ a _)) ?_)
    exact ⟨_, es2, _, t3, store_at (es' := es2) (t' := t3) at1 rfl, hex, rfl, fun e he => g1 e (perm3.mem_iff.mp he), (perm3.map txt).trans pm1, nd1, few2, fit3, rise3, order.imp id fun z => by rw [led3]; exact z⟩
  · exact wpAny_pure (hR _ same1 ⟨_, es1, _, t2, at1, hex, rfl, g1, pm1, nd1, few, fit2, rise, order⟩)
/-- a text is put in -/
theorem setX_add {z : Str} {tk : Tok} {Q : Bool → Shared → Prop} (R : SetX w s.heap a ks) (room : ks.length + 1 < scanBound)
    (hQ : ∀ h', Heap.SameBut a s.heap h' → SetX w h' a (if z ∈ ks then ks else z :: ks) → ∀ b, Q b { s with heap := h' }) :
    wpAny (model P w) A (setAddHashed a (.str z tk) (hashStr w z)) Q E s := by
  obtain ⟨o, es, ep, t, ho, hex, hd, g, pm, nd, hb, hf, hr, hl⟩ := R
  have is_z : (PySem.strKind P w).is z (.str z tk) = true := strKind_is _ _ _ _
  have scans : (Value.str z tk).scannable = true := rfl
  have elems : ElemsOf (PySem.strKind P w) es.toList := goodT_elems g
  have same_hash : hashStr w z = (PySem.strKind P w).hash z := rfl
  rw [same_hash]
  unfold setAddHashed setAddHashedIn
  refine wpAny_holding (wpAny_bind (wpAny_setState_of ho hd hf ?_))
  dsimp only
  rw [byScan_of scans hb elems]
  simp only [↓reduceIte]
  unfold setAddByScan
  refine wpAny_bind ?_
  refine wpAny_bind (wpAny_rule ?_)
  refine wpAny_bind (wpAny_setScan_of is_z ho hd hf elems ?_)
  cases there : List.findIdx? (fun e => (PySem.strKind P w).is z e.2) es.toList with
  | some j =>
    dsimp only
    obtain ⟨hj, at_j, _⟩ := List.findIdx?_eq_some_iff_getElem.mp there
    have mem : z ∈ ks := pm.mem_iff.mp (List.mem_map.mpr ⟨es.toList[j], List.getElem_mem hj, (goodT_is (P := P) (g _ (List.getElem_mem hj)) z).mp at_j⟩)
    refine wpAny_pure (wpAny_pure ?_)
    have q := hQ s.heap (Heap.SameBut.refl a s.heap)
    rw [if_pos mem] at q
    exact q ⟨o, es, ep, t, ho, hex, hd, g, pm, nd, hb, hf, hr, hl⟩ _
  | none =>
    dsimp only
    have notin : z ∉ ks := fun mem => by
      obtain ⟨e, he, q⟩ := List.mem_map.mp (pm.mem_iff.mpr mem)
      have no := List.findIdx?_eq_none_iff.mp there e he
      rw [(goodT_is (P := P) (g e he) z).mpr q] at no
      cases no
    have quiet : ∀ (b : Bool) {s₁ : Shared} {Q' : Unit → Shared → Prop}, Q' () s₁ → wpAny (model P w) A (match b with | true => rule "set.scan.the-table-gave-way" | false => pure ()) Q' E s₁ :=
      fun b s₁ Q' q => by cases b <;> first | exact wpAny_pure q | exact wpAny_rule q
    have perm1 := layNew_perm t es ((PySem.strKind P w).hash z) (.str z tk)
    have fit1 := layNew_fits t es ((PySem.strKind P w).hash z) (.str z tk)
    have rise1 := layNew_ris t es ((PySem.strKind P w).hash z) (.str z tk) hr
    have led1 := layNew_led t es ((PySem.strKind P w).hash z) (.str z tk)
    generalize layNew t es ((PySem.strKind P w).hash z) (.str z tk) = out at perm1 fit1 rise1 led1 ⊢
    obtain ⟨es1, t1, wasDummy, gave⟩ := out
    dsimp only at perm1 fit1 rise1 led1 ⊢
    rw [Array.toList_push] at perm1
    have permc : es1.toList.Perm (((PySem.strKind P w).hash z, Value.str z tk) :: es.toList) := perm1.trans (List.perm_append_singleton _ _)
    have permk : (es1.toList.map txt).Perm (z :: ks) := (permc.map txt).trans (List.Perm.cons _ pm)
    have good1 : ∀ e ∈ es1.toList, GoodT w e := fun e he => by
      rcases List.mem_cons.mp (permc.mem_iff.mp he) with q | q
      · rw [q]; exact ⟨z, tk, rfl, rfl⟩
      · exact g e q
    have nd1 : (z :: ks).Nodup := List.nodup_cons.mpr ⟨notin, nd⟩
    have size1 : es1.size = ks.length + 1 := by
      have := permk.length_eq
      rw [List.length_map, Array.length_toList] at this
      exact this
    have few1 : es1.size < scanBound := by omega
    have order1 : w.params.followText "set-order" = true ∨ t1.led = true := hl.imp id fun q => by rw [led1]; exact q
    have fin : ∀ h', Heap.SameBut a s.heap h' → SetX w h' a (z :: ks) → Q true { s with heap := h' } := fun h' sb r => by
      have q := hQ h' sb
      rw [if_neg notin] at q
      exact q r _
    refine wpAny_bind (quiet _ ?_)
    split
    · refine wpAny_bind ?_
      rw [hashByValue_scannable 8 scans]
      refine wpAny_pure ?_
      refine setX_tail ?_ ho hex hd good1 permk nd1 few1 ?_ ?_ ?_ ?_
      · intro b s₁ Q' q; cases b <;> first | exact wpAny_pure q | exact wpAny_rule q
      · first | (split <;> first | exact fit1 | exact SetTable.fits_plain_off fit1) | exact fit1
      · first | (split <;> exact rise1) | exact rise1
      · first | (split <;> exact order1) | exact order1
      · intro h' sb r; dsimp only; exact wpAny_pure (fin h' sb r)
    · refine wpAny_bind (wpAny_pure ?_)
      simp only [↓reduceIte]
      refine setX_tail ?_ ho hex hd good1 permk nd1 few1 fit1 rise1 order1 ?_
      · intro b s₁ Q' q; cases b <;> first | exact wpAny_pure q | exact wpAny_rule q
      · intro h' sb r; dsimp only; exact wpAny_pure (fin h' sb r)
end
end Rw
end T_S0

section T_S1
set_option Elab.async false
set_option linter.all false
set_option maxRecDepth 100000
set_option maxHeartbeats 4000000
namespace Rw
open PySem PySem.Spec L2 PyProof.Rows
/-! ### set(texts) -/
def put1 (ks : List Str) (z : Str) : List Str := if z ∈ ks then ks else z :: ks
def seen (l : List Str) : List Str := l.foldl put1 []
theorem seen_snoc (l : List Str) (z : Str) : seen (l ++ [z]) = put1 (seen l) z := by
  unfold seen
  rw [List.foldl_append]
  rfl
theorem seen_rev : ∀ l : List Str, (seen l).Nodup ∧ (∀ z, z ∈ seen l ↔ z ∈ l) ∧ (seen l).length ≤ l.length := by
  have go : ∀ (r : List Str), (seen r.reverse).Nodup ∧ (∀ z, z ∈ seen r.reverse ↔ z ∈ r.reverse) ∧ (seen r.reverse).length ≤ r.reverse.length := fun r => by
    induction r with
    | nil => exact ⟨List.nodup_nil, fun z => Iff.rfl, Nat.le_refl _⟩
    | cons x r ih =>
      obtain ⟨h1, h2, h3⟩ := ih
      rw [List.reverse_cons, seen_snoc]
      unfold put1
      by_cases m : x ∈ seen r.reverse
      · rw [if_pos m]
        refine ⟨h1, fun z => ?_, by simp; rw [List.length_reverse] at h3; omega⟩
        rw [h2, List.mem_append, List.mem_singleton]
        exact ⟨.inl, fun q => q.elim id fun e => by rw [e]; exact (h2 x).mp m⟩
      · rw [if_neg m]
        refine ⟨List.nodup_cons.mpr ⟨m, h1⟩, fun z => ?_, by simp; rw [List.length_reverse] at h3; omega⟩
        rw [List.mem_cons, h2, List.mem_append, List.mem_singleton]
        exact Or.comm
  intro l
  have := go l.reverse
  rw [List.reverse_reverse] at this
  exact this
theorem seen_perm {l : List Str} (h : l.Nodup) : (seen l).Perm l := by
  obtain ⟨h1, h2, _⟩ := seen_rev l
  exact (List.perm_ext_iff_of_nodup h1 h).mpr h2
theorem seen_len {l : List Str} (h : l.Nodup) : (seen l).length = l.length := (seen_perm h).length_eq
section
variable {prog : Program} {w : World} {A : Around} {R : Result → Shared → Prop} {I : Addr} {fp wr : List Addr} {G : Array GenState → Array GenState → Prop} {n : Nat} {P : Nat → Value → Prop} {St : Nat → Shared → Prop}
theorem setX_loop (W : WalksS prog w A.in1 I fp wr G n P St) (S : Addr) (apart : S ∉ fp) (xs : List Str) (many : xs.length = n) (few : n < 1000) (texts : ∀ i v, P i v → ∃ t, v = .str (xs.getD i Str.empty) t) :
    ∀ (left i : Nat) (s : Shared), n - i = left → i ≤ n → St i s → SetX w s.heap S (seen (xs.take i)) → (∀ s', Moved (S :: wr) G s s' → SetX w s'.heap S (seen xs) → R (.ok (.ret .none)) s') →
      codeAny (model prog w) A (.builtin "set.update.loop" ⟨[.ref S, .ref I], []⟩) R s := by
  have apart2 : S ∉ wr := fun h => apart (W.sub _ h)
  have wider : ∀ b ∈ wr, b ∈ S :: wr := fun b hb => List.mem_cons_of_mem _ hb
  intro left
  induction left with
  | zero =>
    intro i s hl hi here set_s go
    have at_end : i = n := by omega
    subst at_end
    refine codeAny_builtin PyProof.Rows.F.entry_set_update_loop ?_
    rw [Around.under_plainId PyProof.Rows.F.plain_set_update_loop _]
    show wpAny _ A.in1 (pyNext (.ref I) >>= _) _ _ s
    refine wpAny_bind (W.done s _ _ here fun s' moved => ?_)
    show wpAny _ A.in1 (ret Value.none) _ _ s'
    refine wpAny_pure (go s' (moved.mono wider) ?_)
    rw [List.take_of_length_le (by omega)] at set_s
    exact set_s.keep fun o e => moved.heap S o apart2 e
  | succ left ih =>
    intro i s hl hi here set_s go
    have more : i < n := by omega
    refine codeAny_builtin PyProof.Rows.F.entry_set_update_loop ?_
    rw [Around.under_plainId PyProof.Rows.F.plain_set_update_loop _]
    show wpAny _ A.in1 (pyNext (.ref I) >>= _) _ _ s
    refine wpAny_bind (W.item i s _ _ more here fun v s' is_v here' moved => ?_)
    obtain ⟨t, rfl⟩ := texts i v is_v
    have set_s' : SetX w s'.heap S (seen (xs.take i)) := set_s.keep fun o e => moved.heap S o apart2 e
    have is_i : xs.getD i Str.empty = xs[i]'(by omega) := by rw [List.getD_eq_getElem?_getD, List.getElem?_eq_getElem (by omega)]; rfl
    show wpAny _ A.in1 (holding [Value.str (xs.getD i Str.empty) t] (setAdd S (.str (xs.getD i Str.empty) t)) >>= _) _ _ s'
    refine wpAny_bind (wpAny_holding ?_)
    unfold setAdd
    refine wpAny_holding ?_
    refine wpAny_bind ((PySem.strKind prog w).pyHash (k := xs.getD i Str.empty) (strKind_is _ _ _ _) ?_)
    refine setX_add (P := prog) (s := { s' with toks := s'.toks + 1 }) set_s' ?_ fun h' same set_h b => ?_
    · have := (seen_rev (xs.take i)).2.2
      rw [List.length_take] at this
      unfold scanBound
      omega
    have set_next : SetX w h' S (seen (xs.take (i + 1))) := by
      have e : xs.take (i + 1) = xs.take i ++ [xs.getD i Str.empty] := by rw [List.take_add_one, List.getElem?_eq_getElem (show i < xs.length by omega), is_i]; rfl
      rw [e, seen_snoc]
      exact set_h
    refine wpAny_pure ⟨plainId_quiet PyProof.Rows.F.plain_set_update_loop _, ih (i + 1) _ (by omega) more (W.frame _ s' _ _ here' (Nat.le_succ _) fun b hb o e => ?_) set_next fun s'' moved2 set_all => ?_⟩
    · rw [same.2 b (fun h : b = S => apart (by rw [← h]; exact hb))]
      exact e
    · refine go s'' (Moved.trans W.gtrans ((moved.mono wider).then_heap (Nat.le_succ _) fun b o hb e => ?_) moved2) set_all
      rw [same.2 b (fun h : b = S => hb (by rw [h]; exact List.mem_cons_self))]
      exact e
end
section
variable {prog : Program} {w : World} {A : Around} {E : Value → Shared → Prop} {s : Shared}
theorem call_setX_list {l : Addr} {items : Array Value} {xs : List Str} {Q : Value → Shared → Prop} (hh : A.handled = none) (hl : s.heap.IsList l items) (hi : PyProof.Rows.StrsAre items.toList xs) (few : xs.length < 1000)
    (h : ∀ (h' : Heap) (tk : Nat), SetX w h' s.heap.objs.size (seen xs) → (∀ b o, s.heap.get? b = some o → h'.get? b = some o) → Q (.ref s.heap.objs.size) { s with heap := h', toks := tk }) :
    wpAny (model prog w) A (call (.type "set") [.ref l]) Q E s := by
  obtain ⟨c, tl, mro⟩ := PySem.F.called_set.mro
  have made := PySem.F.called_set.made
  have subs := PySem.F.called_set.sub
  refine wpAny_call (codeAny_of_tree ?_)
  show wpAny _ _ (callAny (.type "set") _) _ _ _
  refine wpAny_pure ⟨Code.quiet_builtin _ (by decide +kernel), codeAny_builtin PySem.F.entry_type_call ?_⟩
  rw [Around.under_plain (weight_type_call_type "set" [.ref l] []) rfl]
  have not_type := PySem.F.called_set.notType
  have creates := PySem.F.called_set.canCreate
  have one := PySem.F.typeCall_set_1 (.ref l)
  repeat (any_goals (first | assumption | wp_step))
  refine codeAny_mono (code_set_led1 (.ref l) (E := E) (Q₁ := fun obj s₁ => obj = .ref s.heap.objs.size ∧ s₁ = { s with heap := s.heap.push { cls := .type "set", dict := none, data := .set #[] 0 (.fresh 0 0 (!w.params.followText "set-order")) } }) ⟨rfl, rfl⟩) fun r s₁ hr => ?_
  cases r with
  | error e => exact hr
  | ok fl =>
    cases fl with
    | ret obj =>
      obtain ⟨rfl, rfl⟩ := hr
      generalize new_is : ({ cls := .type "set", dict := none, data := .set #[] 0 (.fresh 0 0 (!w.params.followText "set-order")) } : Obj) = new
      have at_new : (s.heap.push new).get? s.heap.objs.size = some new := Heap.get?_push_size _ (by rw [← new_is]; rfl)
      have is_set : Shared.TypeIs { s with heap := s.heap.push new } (.ref s.heap.objs.size) "set" := ⟨_, at_new, by rw [← new_is]⟩
      have look_init := PySem.F.called_set.init.lookup
      have bind_init := PySem.F.called_set.init.bind (.ref s.heap.objs.size)
      repeat (any_goals (first | assumption | wp_step))
      refine codeAny_mono (codeAny_call_builtin (R := wants (fun r s₂ => r = .none ∧ ∃ h' tk, s₂ = { s with heap := h', toks := tk } ∧ SetX w h' s.heap.objs.size (seen xs) ∧ (∀ b o, s.heap.get? b = some o → h'.get? b = some o)) E)
        PySem.F.called_set.init.plain PySem.F.entry_set_init (check_set_init_1 is_set ?_)) fun r₂ s₂ hr₂ => ?_
      · obtain ⟨ol, hol, hcl, nl, hdl⟩ := hl
        obtain ⟨ocls, odict, odata, oslots⟩ := ol
        simp only at hcl hdl
        subst hcl; subst hdl
        have at_l : (s.heap.push new).get? l = some { cls := .type "list", dict := odict, data := .seq items nl, slots := oslots } := Heap.get?_push_of_some _ hol
        have no_sub := PySem.F.sub_list_set
        have no_sub2 := PySem.F.sub_list_frozenset
        have no_dict : (Value.type "list" == Value.type "dict") = false := by decide
        have is_l : (s.heap.push new).IsList l items := ⟨_, at_l, rfl, nl, rfl⟩
        have l_lt : l < s.heap.objs.size := Heap.lt_size hol
        have calm3 : A.in1.in1.in1.handled = none := by simp [hh]
        have ne_it : l ≠ (s.heap.push new).objs.size := by
          rw [Heap.size_push]
          exact Nat.ne_of_lt (Nat.lt_succ_of_lt l_lt)
        have apart : s.heap.objs.size ∉ [(s.heap.push new).objs.size, l] := by
          rw [Heap.size_push]
          intro z
          rcases List.mem_cons.mp z with z | z
          · exact absurd z (Nat.ne_of_lt (Nat.lt_succ_self _))
          · exact absurd (List.mem_singleton.mp z) (Nat.ne_of_gt l_lt)
        subst new_is
        unfold Builtin.«set.__init__» noKeywords Builtin.Frozenset.updateFrom
        generalize iter_is : pyIter = PI
        wp_walk
        subst iter_is
        refine wpAny_pyIter_list is_l ?_
        refine wpAny_bind (wpAny_runValue ?_)
        have many : xs.length = items.size := by rw [← StrsAre.len_eq hi, Array.length_toList]
        have texts : ∀ (i : Nat) (v : Value), items[i]? = some v → ∃ t, v = .str (xs.getD i Str.empty) t := fun i v hv => SS.strs_at hi i v (by rw [Array.getElem?_toList]; exact hv)
        refine setX_loop ((Walks.list calm3 _ l ne_it items).toS) s.heap.objs.size apart xs many (by omega) texts (items.size - 0) 0 _ (by omega) (Nat.zero_le _) ⟨⟨_, Heap.get?_push_size _ rfl, rfl, rfl⟩, (is_l.push _)⟩ ?start ?finish
        case start =>
          refine ⟨_, #[], 0, .fresh 0 0 (!w.params.followText "set-order"), Heap.get?_push_of_some _ at_new, ⟨rfl, rfl, rfl⟩, rfl, (fun e he => by cases he), List.Perm.refl _, List.nodup_nil, by decide, by rfl, List.Pairwise.nil, ?_⟩
          cases q : w.params.followText "set-order"
          · exact .inr rfl
          · exact .inl rfl
        case finish =>
          intro s' moved set_all
          obtain ⟨h', g', d', tk', os'⟩ := s'
          have eg : g' = s.gens := moved.gens
          have ed : d' = s.drawn := moved.drawn
          have eo : os' = s.os := moved.os
          subst eg; subst ed; subst eo
          show wpAny _ _ _ _ _ _
          refine wpAny_pure ?_
          show wpAny _ _ (ret Value.none) _ _ _
          refine wpAny_pure ⟨rfl, h', tk', rfl, set_all, fun b o e => ?_⟩
          have b_lt := Heap.lt_size e
          refine moved.heap b o (fun z => ?_) (Heap.get?_push_of_some _ (Heap.get?_push_of_some _ e))
          rcases List.mem_cons.mp z with z | z
          · exact absurd z (Nat.ne_of_lt b_lt)
          · have z := List.mem_singleton.mp z
            rw [Heap.size_push] at z
            exact absurd z (Nat.ne_of_lt (Nat.lt_succ_of_lt b_lt))
      · cases r₂ with
        | error e => exact hr₂
        | ok fl₂ =>
          cases fl₂ with
          | ret r =>
            obtain ⟨rfl, h', tk, rfl, set_all, kept⟩ := hr₂
            repeat (any_goals (first | assumption | wp_step))
            exact h _ _ set_all kept
          | _ => exact hr₂.elim
    | _ => exact hr.elim
theorem call_setX_tuple {l : Addr} {items : Array Value} {xs : List Str} {Q : Value → Shared → Prop} (hh : A.handled = none) (hl : s.heap.IsTuple l items) (hi : PyProof.Rows.StrsAre items.toList xs) (few : xs.length < 1000)
    (h : ∀ (h' : Heap) (tk : Nat), SetX w h' s.heap.objs.size (seen xs) → (∀ b o, s.heap.get? b = some o → h'.get? b = some o) → Q (.ref s.heap.objs.size) { s with heap := h', toks := tk }) :
    wpAny (model prog w) A (call (.type "set") [.ref l]) Q E s := by
  obtain ⟨c, tl, mro⟩ := PySem.F.called_set.mro
  have made := PySem.F.called_set.made
  have subs := PySem.F.called_set.sub
  refine wpAny_call (codeAny_of_tree ?_)
  show wpAny _ _ (callAny (.type "set") _) _ _ _
  refine wpAny_pure ⟨Code.quiet_builtin _ (by decide +kernel), codeAny_builtin PySem.F.entry_type_call ?_⟩
  rw [Around.under_plain (weight_type_call_type "set" [.ref l] []) rfl]
  have not_type := PySem.F.called_set.notType
  have creates := PySem.F.called_set.canCreate
  have one := PySem.F.typeCall_set_1 (.ref l)
  repeat (any_goals (first | assumption | wp_step))
  refine codeAny_mono (code_set_led1 (.ref l) (E := E) (Q₁ := fun obj s₁ => obj = .ref s.heap.objs.size ∧ s₁ = { s with heap := s.heap.push { cls := .type "set", dict := none, data := .set #[] 0 (.fresh 0 0 (!w.params.followText "set-order")) } }) ⟨rfl, rfl⟩) fun r s₁ hr => ?_
  cases r with
  | error e => exact hr
  | ok fl =>
    cases fl with
    | ret obj =>
      obtain ⟨rfl, rfl⟩ := hr
      generalize new_is : ({ cls := .type "set", dict := none, data := .set #[] 0 (.fresh 0 0 (!w.params.followText "set-order")) } : Obj) = new
      have at_new : (s.heap.push new).get? s.heap.objs.size = some new := Heap.get?_push_size _ (by rw [← new_is]; rfl)
      have is_set : Shared.TypeIs { s with heap := s.heap.push new } (.ref s.heap.objs.size) "set" := ⟨_, at_new, by rw [← new_is]⟩
      have look_init := PySem.F.called_set.init.lookup
      have bind_init := PySem.F.called_set.init.bind (.ref s.heap.objs.size)
      repeat (any_goals (first | assumption | wp_step))
      refine codeAny_mono (codeAny_call_builtin (R := wants (fun r s₂ => r = .none ∧ ∃ h' tk, s₂ = { s with heap := h', toks := tk } ∧ SetX w h' s.heap.objs.size (seen xs) ∧ (∀ b o, s.heap.get? b = some o → h'.get? b = some o)) E)
        PySem.F.called_set.init.plain PySem.F.entry_set_init (check_set_init_1 is_set ?_)) fun r₂ s₂ hr₂ => ?_
      · obtain ⟨ol, hol, hcl, nl, hdl⟩ := hl
        obtain ⟨ocls, odict, odata, oslots⟩ := ol
        simp only at hcl hdl
        subst hcl; subst hdl
        have at_l : (s.heap.push new).get? l = some { cls := .type "tuple", dict := odict, data := .seq items nl, slots := oslots } := Heap.get?_push_of_some _ hol
        have no_sub := PySem.F.sub_tuple_set
        have no_sub2 := PySem.F.sub_tuple_frozenset
        have no_dict : (Value.type "tuple" == Value.type "dict") = false := by decide
        have is_l : (s.heap.push new).IsTuple l items := ⟨_, at_l, rfl, nl, rfl⟩
        have l_lt : l < s.heap.objs.size := Heap.lt_size hol
        have calm3 : A.in1.in1.in1.handled = none := by simp [hh]
        have ne_it : l ≠ (s.heap.push new).objs.size := by
          rw [Heap.size_push]
          exact Nat.ne_of_lt (Nat.lt_succ_of_lt l_lt)
        have apart : s.heap.objs.size ∉ [(s.heap.push new).objs.size, l] := by
          rw [Heap.size_push]
          intro z
          rcases List.mem_cons.mp z with z | z
          · exact absurd z (Nat.ne_of_lt (Nat.lt_succ_self _))
          · exact absurd (List.mem_singleton.mp z) (Nat.ne_of_gt l_lt)
        subst new_is
        unfold Builtin.«set.__init__» noKeywords Builtin.Frozenset.updateFrom
        generalize iter_is : pyIter = PI
        wp_walk
        subst iter_is
        refine wpAny_pyIter_tuple is_l ?_
        refine wpAny_bind (wpAny_runValue ?_)
        have many : xs.length = items.size := by rw [← StrsAre.len_eq hi, Array.length_toList]
        have texts : ∀ (i : Nat) (v : Value), items[i]? = some v → ∃ t, v = .str (xs.getD i Str.empty) t := fun i v hv => SS.strs_at hi i v (by rw [Array.getElem?_toList]; exact hv)
        refine setX_loop ((Walks.tuple calm3 _ l ne_it items).toS) s.heap.objs.size apart xs many (by omega) texts (items.size - 0) 0 _ (by omega) (Nat.zero_le _) ⟨⟨_, Heap.get?_push_size _ rfl, rfl, rfl⟩, (is_l.push _)⟩ ?start ?finish
        case start =>
          refine ⟨_, #[], 0, .fresh 0 0 (!w.params.followText "set-order"), Heap.get?_push_of_some _ at_new, ⟨rfl, rfl, rfl⟩, rfl, (fun e he => by cases he), List.Perm.refl _, List.nodup_nil, by decide, by rfl, List.Pairwise.nil, ?_⟩
          cases q : w.params.followText "set-order"
          · exact .inr rfl
          · exact .inl rfl
        case finish =>
          intro s' moved set_all
          obtain ⟨h', g', d', tk', os'⟩ := s'
          have eg : g' = s.gens := moved.gens
          have ed : d' = s.drawn := moved.drawn
          have eo : os' = s.os := moved.os
          subst eg; subst ed; subst eo
          show wpAny _ _ _ _ _ _
          refine wpAny_pure ?_
          show wpAny _ _ (ret Value.none) _ _ _
          refine wpAny_pure ⟨rfl, h', tk', rfl, set_all, fun b o e => ?_⟩
          have b_lt := Heap.lt_size e
          refine moved.heap b o (fun z => ?_) (Heap.get?_push_of_some _ (Heap.get?_push_of_some _ e))
          rcases List.mem_cons.mp z with z | z
          · exact absurd z (Nat.ne_of_lt b_lt)
          · have z := List.mem_singleton.mp z
            rw [Heap.size_push] at z
            exact absurd z (Nat.ne_of_lt (Nat.lt_succ_of_lt b_lt))
      · cases r₂ with
        | error e => exact hr₂
        | ok fl₂ =>
          cases fl₂ with
          | ret r =>
            obtain ⟨rfl, h', tk, rfl, set_all, kept⟩ := hr₂
            repeat (any_goals (first | assumption | wp_step))
            exact h _ _ set_all kept
          | _ => exact hr₂.elim
    | _ => exact hr.elim
end
end Rw
end T_S1

section T_S2
set_option Elab.async false
set_option linter.all false
set_option maxRecDepth 100000
set_option maxHeartbeats 4000000
namespace Rw
open PySem PySem.Spec L2 PyProof.Rows
/-! ### the rules over the layer: a set of texts is a thing of its own -/
def SetXO (w : World) (a : Addr) (ks : List Str) : HO := .ext fun h => SetX w h a ks
theorem setXO_ok {P : Program} {w : World} {H : Hp} {h : Heap} {a : Addr} {ks : List Str} (R : SetX w h a ks) : ObjOk P w H h a (SetXO w a ks) := by
  obtain ⟨o, es, ep, t, ho, rest⟩ := R
  exact ⟨⟨o, es, ep, t, ho, rest⟩, ⟨o, ho⟩, fun h1 h2 x k => x.keep k⟩
section
variable {X : Cx}
/-- set(xs), xs a list or a tuple of texts -/
def rSetX (K : PySem.W.Frag) (w : World) : List V → Hp → VK → Prop := fun vs H Q => ∃ (a : Addr) (xs : List Str), vs = [.ref a] ∧ (SqL K H a (xs.map V.str) ∨ SqT K H a (xs.map V.str)) ∧ xs.length < 1000 ∧
  ∀ p, H p = none → Q (.ref p) (upd H p (SetXO w p (seen xs)))
theorem cr_setX (calm : X.calm = true) : CallR X (.type "set") (rSetX X.K X.w) := by
  intro pins s σ H vs us Q I r reading
  obtain ⟨a, xs, rfl, hq, few, q⟩ := reading
  rw [Vals.ref1 r]
  have fin : ∀ (h' : Heap) (tk : Nat), SetX X.w h' s.heap.objs.size (seen xs) → (∀ b o, s.heap.get? b = some o → h'.get? b = some o) → EP X pins σ Q (.ref s.heap.objs.size) { s with heap := h', toks := tk } := fun h' tk R keep =>
    ⟨.ref _, _, I.laid (t' := tk) keep (Nat.le_refl _) (setXO_ok R), rfl, q _ (I.hok.fresh (Nat.le_refl _))⟩
  rcases hq with hq | hq
  · obtain ⟨its, rv, pl, _⟩ := I.list hq
    exact call_setX_list (I.ok.hd calm) pl.isList (by simpa using strsAre_of rv) few fin
  · obtain ⟨its, rv, pl, _⟩ := I.tuple hq
    exact call_setX_tuple (I.ok.hd calm) pl (by simpa using strsAre_of rv) few fin
/-- len(a set of texts) -/
def rLenX (w : World) : List V → Hp → VK → Prop := fun vs H Q => ∃ (a : Addr) (ks : List Str), vs = [.ref a] ∧ H a = some (SetXO w a ks) ∧ Q (.int (ks.length : Int)) H
theorem cr_lenX : CallR X (.builtin "len") (rLenX X.w) := by
  intro pins s σ H vs us Q I r reading
  obtain ⟨a, ks, rfl, ha, q⟩ := reading
  rw [Vals.ref1 r]
  have R : SetX X.w s.heap a ks := (I.hok a _ ha).1
  obtain ⟨o, es, ep, t, ho, hex, hd, hf, hn⟩ := R.size
  have few : es.size < scanBound := by
    obtain ⟨o', es', ep', t', ho', _, hd', _, _, _, hb, _⟩ := R
    rw [ho] at ho'
    cases ho'
    rw [hd] at hd'
    cases hd'
    exact hb
  exact call_len_set ho hex hd hf (by unfold scanBound at few; omega) ⟨.int (ks.length : Int), H, I.tok _, ⟨_, by rw [hn]⟩, q⟩
/-- sorted(a set of texts) -/
def rSortedX (w : World) : List V → Hp → VK → Prop := fun vs H Q => ∃ (a : Addr) (ks : List Str), vs = [.ref a] ∧ H a = some (SetXO w a ks) ∧ ks.length < 64 ∧
  ∀ (ys : List Str) (p : Addr), ys.Perm ks → sortedS ys = true → H p = none → Q (.ref p) (upd H p (.lst (ys.map V.str)))
theorem strs_are : ∀ vs : List Value, (∀ v ∈ vs, ∃ z tk, v = Value.str z tk) → StrsAre vs (vs.map fun v => match v with | .str z _ => z | _ => Str.empty)
  | [], _ => .nil
  | v :: r, h => by
    obtain ⟨z, tk, rfl⟩ := h v List.mem_cons_self
    exact .cons z tk (strs_are r fun u hu => h u (List.mem_cons_of_mem _ hu))
theorem cr_sortedX (calm : X.calm = true) : CallR X (.builtin "sorted") (rSortedX X.w) := by
  intro pins s σ H vs us Q I r reading
  obtain ⟨a, ks, rfl, ha, h64, q⟩ := reading
  rw [Vals.ref1 r]
  have R : SetX X.w s.heap a ks := (I.hok a _ ha).1
  obtain ⟨o, es, ep, t, ho, hex, hd, good, perm, nd, few, fit, rise, order⟩ := R
  refine Calls.call_function_entry kind_sorted plain_sorted entry_sorted (args_sorted1 _) ?_
  unfold Builtin.«sorted»
  refine wpAny_bind (m := checkCount "sorted" 1 1 _) (wpAny_pure ?_)
  refine wpAny_bind (collect_set (A := X.A.in1) (I.ok.hd calm) ⟨o, ho, hex.1, hd⟩ fit few rise order fun s1 out keep grow gens os permo => ?_)
  have texts : StrsAre out (out.map fun v => match v with | .str z _ => z | _ => Str.empty) := strs_are out fun v hv => by
    obtain ⟨e, he, q⟩ := List.mem_map.mp (permo.mem_iff.mp hv)
    obtain ⟨z, tk, h1, _⟩ := good e he
    exact ⟨z, tk, q.symm.trans h1⟩
  have permk : (out.map fun v => match v with | .str z _ => z | _ => Str.empty).Perm ks := by
    have z := permo.map fun v : Value => match v with | .str z _ => z | _ => Str.empty
    rw [List.map_map] at z
    exact z.trans perm
  have len : out.length = ks.length := by rw [← permk.length_eq, List.length_map]
  refine wpAny_bind (wpAny_newList ?_ (by rw [len, sizeLine_eq]; omega))
  have at_l : (s1.heap.push (seqObj "list" out.toArray 0)).get? s1.heap.objs.size = some (seqObj "list" out.toArray 0) := Heap.get?_push_size _ rfl
  refine wpAny_bind (wpAny_holding (wpAny_call_entry slot_list_sort ⟨_, at_l, rfl⟩ entry_list_sort
    (list_sort_treeK strKind_oneLt (s := { s1 with heap := s1.heap.push (seqObj "list" out.toArray 0) }) at_l texts.keysOf (fun v₁ v₂ rest e => keyKind_strs (by rw [← e]; exact texts)) (by rw [len]; exact h64) fun st' hp hs => ⟨_, rfl, ?_⟩)
    (args_list_sort _)))
  obtain ⟨ys, g1, g2, g3⟩ := sorted_out_str texts hp hs
  obtain ⟨c, at_out⟩ := sortedHeap_at (vs := out) (out := (arrOf st').map (·.2)) at_l
  have lenys : (ys.map V.str).length ≤ sizeLine := by rw [List.length_map, g2.length_eq, List.length_map, len, sizeLine_eq]; omega
  have keep2 : ∀ b u, s.heap.get? b = some u → (sortedHeap (s1.heap.push (seqObj "list" out.toArray 0)) s1.heap.objs.size out ((arrOf st').map (·.2))).get? b = some u := fun b u e => by
    have e1 := keep b u e
    have lt := Heap.lt_size e1
    rw [sortedHeap_old (Nat.ne_of_lt lt) (by rw [size_push']; exact Nat.lt_succ_of_lt lt)]
    exact Heap.get?_push_of_some _ e1
  have fresh : H s1.heap.objs.size = none := I.hok.fresh grow
  obtain ⟨h1, g', d1, t1, os1⟩ := s1
  have eg : g' = s.gens := gens
  have eo : os1 = s.os := os
  subst eg; subst eo
  have J : Inv X pins σ (upd H h1.objs.size (.lst (ys.map V.str))) { s with heap := sortedHeap (h1.push (seqObj "list" out.toArray 0)) h1.objs.size out ((arrOf st').map (·.2)), gens := s.gens, drawn := d1, toks := t1 } :=
    I.call (ch := []) (Un.laid keep2 grow fresh) (I.hok.laid keep2 grow ⟨lenys, ((arrOf st').map (·.2)).toList, c, vals_of_strs g1, by rw [Array.toArray_toList]; exact at_out⟩) I.bare (fun _ z => nomatch z)
  exact wpAny_pure ⟨_, rfl, .ref _, _, J, rfl, q ys _ (g2.trans permk) g3 fresh⟩
end
end Rw
end T_S2

section T_V0
set_option Elab.async false
set_option linter.all false
set_option maxRecDepth 100000
set_option maxHeartbeats 2000000
namespace Rw
open PySem PySem.Spec L2 PyProof.Rows
/-! ### list(d.values()) -/
def tValsL (te : TE) : TE := fun σ H Q => te σ H fun x H1 => ∃ (d : Addr) (kvs : List (Key × V)), x = .ref d ∧ Rd H1 d (.dK kvs) ∧ ∀ p, H1 p = none → Q (.ref p) (upd H1 p (.lst (kvs.map (·.2))))
theorem pairs_vals {P : Program} {w : World} {es : List DictEntry} {vs : List (Key × Value)} (h : Pairs (mixKind P w) es vs) : es.map (·.val) = vs.map (·.2) := by
  induction h with
  | nil => rfl
  | cons _ h2 _ ih =>
    rw [List.map_cons, List.map_cons, ih, h2]
theorem vals_snd : ∀ {kvs : List (Key × V)} {vs : List (Key × Value)}, KV kvs vs → Vals (kvs.map (·.2)) (vs.map (·.2))
  | _, _, .nil => .nil
  | _, _, .cons r t => .cons r.2 (vals_snd t)
section
variable {X : Cx} {e : Expr} {te : TE} {p apos cpos pos : Pos}
theorem pe_listVals (calm : X.calm = true) (he : PE X e te) (glob : Gl X "list") (free : X.mg "list" = none) (base : attributeBase e "values" X.env (eval e X.env) = eval e X.env := by rfl) (line : (apos.endLine == cpos.line) = true := by rfl)
    (arg : starEach [.Call (.Attribute e "values" apos) [] [] cpos] X.env = (false, eval (.Call (.Attribute e "values" apos) [] [] cpos) X.env) :: starEach [] X.env := by rfl) :
    PE X (.Call (.Name "list" p) [.Call (.Attribute e "values" apos) [] [] cpos] [] pos) (tValsL te) := by
  constructor
  intro pins s σ H Q I reading
  refine wpAny_Call_Name_kw (ld_blt I glob free (show bootBuiltins "list" = some (.type "list") by decide +kernel) ?_)
  refine PyProof.Rows.callWith_type1 ?_ arg rfl
  rw [arg]
  show wpAny _ _ (spliced ((false, eval (.Call (.Attribute e "values" apos) [] [] cpos) X.env) :: backTo pos (starEach [] X.env))) _ _ s
  refine Calls.spliced_cons ?_
  refine wpAny_Call_method (T := "dict") (id := "dict.values") base rfl line F.plainAttrs_dict F.slot_dict_values F.type_dict_values (thn (he.run pins s σ H _ I reading) ?_)
  rintro u s1 ⟨x, H1, I1, rx, d, kvs, rfl, hd, q⟩
  have u_is : u = Value.ref d := rx
  subst u_is
  obtain ⟨few, low, vs, kv, hdo⟩ := hd.ok I1.hok
  have I2 : Inv X pins σ H1 { s1 with heap := s1.heap.push { cls := .type "dict_values", data := .fields #[.ref d] } } := I1.kept (t' := s1.toks) fun b ob z => Heap.get?_push_of_some _ z
  refine ⟨hdo.typeIs, hdo.mapOf.noDict, ?_⟩
  show wpAny _ _ (callWith cpos (.builtin "dict.values") [.ref d] [] []) _ X.xe s1
  refine method_meetsIn F.slot_dict_values F.entry_dict_values rfl (PySem.evalArgs_none ⟨rfl, hdo.typeIs, F.args_dict_values_1 _, _, meets_dict_values (mixKind X.prog X.w) d low, ⟨vs, hdo⟩, ?_⟩)
  refine Calls.spliced_nil ?_
  obtain ⟨o, es, ep, ho, exact_, hdat, keys, prs, nd⟩ := hdo
  have esz : es.size = vs.length := by
    have := prs.length
    simpa using this
  have lk : kvs.length = vs.length := Paired.length kv
  refine PySem.W.kdl_call (KdlSrc.rawValues (es := es) (ep := ep) (d := d)) (I1.ok.hd calm) ⟨⟨_, Heap.get?_push_size _ rfl, rfl, rfl⟩, ⟨o, Heap.get?_push_of_some _ ho, exact_, hdat⟩⟩ (by omega) fun h' tk acc c keep at_p got => ?_
  have fresh : H1 s1.heap.objs.size = none := I1.hok.fresh (Nat.le_refl _)
  have fresh2 : H1 (s1.heap.push { cls := .type "dict_values", data := .fields #[.ref d] }).objs.size = none := I1.hok.fresh (by rw [Heap.size_push]; exact Nat.le_succ _)
  have acc_is : acc.toList = vs.map (·.2) := by
    rw [← pairs_vals prs]
    obtain ⟨g1, g2⟩ := got
    refine List.ext_getElem (by rw [List.length_map, Array.length_toList, Array.length_toList, g1]) fun j h1 h2 => ?_
    have z : acc[j]? = some acc.toList[j] := by rw [← Array.getElem?_toList, List.getElem?_eq_getElem h1]
    obtain ⟨hj, e⟩ := g2 j _ z
    rw [e, List.getElem_map, Array.getElem_toList]
  refine ⟨.ref _, _, I2.laid (t' := tk) keep (Nat.le_refl _) ?_, rfl, q _ fresh2⟩
  exact ⟨by rw [List.length_map]; exact few, acc.toList, c, by rw [acc_is]; exact vals_snd kv, by simpa using at_p⟩
end
end Rw
end T_V0

section T_P0
set_option Elab.async false
set_option linter.all false
set_option maxRecDepth 100000
set_option maxHeartbeats 2000000
namespace Rw
open PySem L2 PyProof.Rows
/-! ### lists of True -/
section
variable {K : PySem.W.Frag} {a D : Addr} {xs : List V} {g : TG} {tt : TT} {te : TE} {vs : List Nat} {σ : L2.St} {H : Hp} {Qd : Hp → Prop}
theorem lc_trues (hx : SqL K H a xs) (hD : H D = none) (hl : xs.length < 1000)
    (turn : ∀ (i : Nat) (x : V) (H1 : Hp) (Q : VK) (R : Hp → Prop), xs[i]? = some x → Evl.Ex H H1 → (∀ H4, Evl.Ex H1 H4 → Q (.bl true) H4) → g x (wipe σ vs) H1 fun σ2 H2 => wipe σ2 vs = wipe σ vs ∧ tt σ2 H2 fun b H3 => if b = true then te σ2 H3 Q else R H3)
    (fin : ∀ H1, Evl.Ex H H1 → H1 D = some (.lst ((List.replicate xs.length true).map V.bl)) → Qd H1) :
    ∃ W : Nat → Nat → Hp → Prop, (∃ m, W 0 m (upd H D (.lst []))) ∧ ∀ i m H1, W i m H1 →
      ((Itl K a).stop i H1 ∧ Qd H1) ∨ ((Itl K a).go i H1 ∧ ∃ Nx : Hp → Prop, (∀ H', Nx H' → ∃ m', m' < m ∧ W (i + 1) m' H') ∧ ∀ x H', (Itl K a).yld i H1 x H' → g x (wipe σ vs) H' fun σ2 H2 => wipe σ2 vs = wipe σ vs ∧ tt σ2 H2 fun b H3 =>
        if b = true then te σ2 H3 fun y H4 => ∃ acc, H4 D = some (.lst acc) ∧ acc.length < sizeLine ∧ Nx (upd H4 D (.lst (acc ++ [y]))) else Nx H3) := by
  refine lc_list (K := K) (a := a) (xs := xs) (fun i H1 => i ≤ xs.length ∧ Evl.Ex H H1 ∧ H1 D = some (.lst ((List.replicate i true).map V.bl))) ⟨Nat.zero_le _, Evl.Ex.new hD, upd_same⟩ (fun i H1 _ h => Evl.ex_l h.2.1 hx) ?_ (fun H1 h => fin H1 h.2.1 h.2.2)
  rintro i x H1 hi ⟨_, e1, d1⟩
  have hil : i < xs.length := (List.getElem?_eq_some_iff.mp hi).1
  refine turn i x H1 _ _ hi e1 fun H4 e4 => ⟨_, e4 _ _ d1, ?_, hil, (e1.trans e4).mut hD, ?_⟩
  · rw [List.length_map, List.length_replicate]
    exact small1000 (by omega)
  · rw [upd_same, List.replicate_succ', List.map_append]
    rfl
theorem lc_truesT (hx : SqT K H a xs) (hD : H D = none) (hl : xs.length < 1000)
    (turn : ∀ (i : Nat) (x : V) (H1 : Hp) (Q : VK) (R : Hp → Prop), xs[i]? = some x → Evl.Ex H H1 → (∀ H4, Evl.Ex H1 H4 → Q (.bl true) H4) → g x (wipe σ vs) H1 fun σ2 H2 => wipe σ2 vs = wipe σ vs ∧ tt σ2 H2 fun b H3 => if b = true then te σ2 H3 Q else R H3)
    (fin : ∀ H1, Evl.Ex H H1 → H1 D = some (.lst ((List.replicate xs.length true).map V.bl)) → Qd H1) :
    ∃ W : Nat → Nat → Hp → Prop, (∃ m, W 0 m (upd H D (.lst []))) ∧ ∀ i m H1, W i m H1 →
      ((Itt K a).stop i H1 ∧ Qd H1) ∨ ((Itt K a).go i H1 ∧ ∃ Nx : Hp → Prop, (∀ H', Nx H' → ∃ m', m' < m ∧ W (i + 1) m' H') ∧ ∀ x H', (Itt K a).yld i H1 x H' → g x (wipe σ vs) H' fun σ2 H2 => wipe σ2 vs = wipe σ vs ∧ tt σ2 H2 fun b H3 =>
        if b = true then te σ2 H3 fun y H4 => ∃ acc, H4 D = some (.lst acc) ∧ acc.length < sizeLine ∧ Nx (upd H4 D (.lst (acc ++ [y]))) else Nx H3) := by
  refine lc_tup (K := K) (a := a) (xs := xs) (fun i H1 => i ≤ xs.length ∧ Evl.Ex H H1 ∧ H1 D = some (.lst ((List.replicate i true).map V.bl))) ⟨Nat.zero_le _, Evl.Ex.new hD, upd_same⟩ (fun i H1 _ h => Evl.ex_t h.2.1 hx) ?_ (fun H1 h => fin H1 h.2.1 h.2.2)
  rintro i x H1 hi ⟨_, e1, d1⟩
  have hil : i < xs.length := (List.getElem?_eq_some_iff.mp hi).1
  refine turn i x H1 _ _ hi e1 fun H4 e4 => ⟨_, e4 _ _ d1, ?_, hil, (e1.trans e4).mut hD, ?_⟩
  · rw [List.length_map, List.length_replicate]
    exact small1000 (by omega)
  · rw [upd_same, List.replicate_succ', List.map_append]
    rfl
end
theorem lc_truesW {J : It} {n : Nat} {G : Hp → Prop} {Yx : Nat → V → Prop} {D : Addr} {g : TG} {tt : TT} {te : TE} {vs : List Nat} {σ : L2.St} {H : Hp} {Qd : Hp → Prop} (wk : Walk J n G (fun i H x H' => H' = H ∧ Yx i x)) (hG : ∀ H1, Evl.Ex H H1 → G H1) (hD : H D = none) (hl : n < 1000)
    (turn : ∀ (i : Nat) (x : V) (H1 : Hp) (Q : VK) (R : Hp → Prop), i < n → Yx i x → Evl.Ex H H1 → (∀ H4, Evl.Ex H1 H4 → Q (.bl true) H4) → g x (wipe σ vs) H1 fun σ2 H2 => wipe σ2 vs = wipe σ vs ∧ tt σ2 H2 fun b H3 => if b = true then te σ2 H3 Q else R H3)
    (fin : ∀ H1, Evl.Ex H H1 → H1 D = some (.lst ((List.replicate n true).map V.bl)) → Qd H1) :
    ∃ W : Nat → Nat → Hp → Prop, (∃ m, W 0 m (upd H D (.lst []))) ∧ ∀ i m H1, W i m H1 →
      (J.stop i H1 ∧ Qd H1) ∨ (J.go i H1 ∧ ∃ Nx : Hp → Prop, (∀ H', Nx H' → ∃ m', m' < m ∧ W (i + 1) m' H') ∧ ∀ x H', J.yld i H1 x H' → g x (wipe σ vs) H' fun σ2 H2 => wipe σ2 vs = wipe σ vs ∧ tt σ2 H2 fun b H3 =>
        if b = true then te σ2 H3 fun y H4 => ∃ acc, H4 D = some (.lst acc) ∧ acc.length < sizeLine ∧ Nx (upd H4 D (.lst (acc ++ [y]))) else Nx H3) := by
  refine lc_it wk (fun i H1 => i ≤ n ∧ Evl.Ex H H1 ∧ H1 D = some (.lst ((List.replicate i true).map V.bl))) ⟨Nat.zero_le _, Evl.Ex.new hD, upd_same⟩ (fun i H1 _ h => hG H1 h.2.1) ?_ (fun H1 h => fin H1 h.2.1 h.2.2)
  rintro i x H1 H1' hi ⟨_, e1, d1⟩ ⟨rfl, hy⟩
  refine turn i x H1' _ _ hi hy e1 fun H4 e4 => ⟨_, e4 _ _ d1, ?_, hi, (e1.trans e4).mut hD, ?_⟩
  · rw [List.length_map, List.length_replicate]
    exact small1000 (by omega)
  · rw [upd_same, List.replicate_succ', List.map_append]
    rfl
theorem all_trues (n : Nat) : (List.replicate n true).all id = true := by
  induction n with
  | zero => rfl
  | succ n ih => rw [List.replicate_succ, List.all_cons, ih]; rfl
theorem sign_le {a b : Nat} (h : a ≤ b) : (!decide (([b] : List Nat) < [a])) = true := by
  have n : ¬ (([b] : List Nat) < [a]) := by
    rw [List.cons_lt_cons_iff]
    rintro (q | ⟨_, q⟩)
    · omega
    · exact absurd q (List.lt_irrefl _)
  rw [decide_eq_false n]
  rfl
/-- a list or a tuple of these texts -/
def SqS (K : PySem.W.Frag) (H : Hp) (a : Addr) (zs : List Str) : Prop := SqL K H a (zs.map V.str) ∨ SqT K H a (zs.map V.str)
theorem SqS.ex {K : PySem.W.Frag} {H H' : Hp} {a : Addr} {zs : List Str} (h : SqS K H a zs) (e : Evl.Ex H H') : SqS K H' a zs := h.imp (Evl.ex_l e) (Evl.ex_t e)
theorem SqS.sq {K : PySem.W.Frag} {H : Hp} {a : Addr} {zs : List Str} (h : SqS K H a zs) : SqL K H a (zs.map V.str) ∨ SqT K H a (zs.map V.str) := h
theorem ty_sl {K : PySem.W.Frag} {H : Hp} {a : Addr} {xs : List V} (h : SqL K H a xs) : TyX K H (.ref a) (.type "list") := by
  rcases h with (q | ⟨o, q⟩) | ⟨o, its, n, e, c, _⟩
  · exact .base (.lst q)
  · exact .base (.frz q)
  · exact .kList e c
theorem ty_st {K : PySem.W.Frag} {H : Hp} {a : Addr} {xs : List V} (h : SqT K H a xs) : TyX K H (.ref a) (.type "tuple") := by
  rcases h with (q | ⟨o, q⟩) | ⟨o, its, n, e, c, _⟩
  · exact .base (.tup q)
  · exact .fTuple q
  · exact .kTuple e c
/-- an answer True, all else as it was -/
def spYes (pre : List V → Hp → Prop) (n : Nat) : Sp := fun vs H Q _ => vs.length = n ∧ pre vs H ∧ ∀ H', Evl.Ex H H' → Q (.bl true) H'
end Rw
end T_P0

section T_N0
set_option Elab.async false
set_option linter.all false
set_option maxRecDepth 100000
set_option maxHeartbeats 1000000
namespace Rw
open PySem PySem.Spec L2 PyProof.Rows
/-! ### one ascending order -/
def TLe (a b : Str) : Prop := a.cps.toList ≤ b.cps.toList
theorem rising_pair : ∀ (r : List Str) (p : Str), risingS p r = true → (p :: r).Pairwise TLe
  | [], p, _ => List.pairwise_singleton _ _
  | x :: r, p, h => by
    have h' : (!ltCps x.cps.toList p.cps.toList && risingS x r) = true := h
    rw [Bool.and_eq_true] at h'
    have ih := rising_pair r x h'.2
    have px : TLe p x := by
      have z := h'.1
      rw [ltCps_eq] at z
      show ¬ (x.cps.toList < p.cps.toList)
      intro q
      rw [decide_eq_true q] at z
      cases z
    refine List.pairwise_cons.mpr ⟨fun y hy => ?_, ih⟩
    rcases List.mem_cons.mp hy with rfl | hy
    · exact px
    · exact List.le_trans px ((List.pairwise_cons.mp ih).1 y hy)
theorem sorted_pair {l : List Str} (h : sortedS l = true) : l.Pairwise TLe := by
  cases l with
  | nil => exact List.Pairwise.nil
  | cons x r => exact rising_pair r x h
theorem sorted_uniq {xs ys : List Str} (hx : sortedS xs = true) (hy : sortedS ys = true) (hp : xs.Perm ys) : xs = ys :=
  List.Perm.eq_of_pairwise (le := TLe) (fun a b _ _ h1 h2 => by
    have e : a.cps.toList = b.cps.toList := List.le_antisymm h1 h2
    rw [← SX.S_tl a, ← SX.S_tl b, e]) (sorted_pair hx) (sorted_pair hy) hp
/-! ### nets -/
/-- a table in the order of these names -/
def canon (dots : List Str) (tb : List (Str × V)) : List (Str × V) := dots.map fun z => (z, (valV (tkv tb) (Sum.inr z)).getD .non)
theorem canon_keys (dots : List Str) (tb : List (Str × V)) : (canon dots tb).map (·.1) = dots := by
  unfold canon
  rw [List.map_map]
  exact List.map_id _
theorem canon_ok {dots : List Str} {e : Str} {tb : List (Str × V)} (h : TabOk dots e tb) : TabOk dots e (canon dots tb) := by
  refine ⟨by rw [canon_keys], fun q hq => ?_⟩
  unfold canon at hq
  obtain ⟨z, hz, rfl⟩ := List.mem_map.mp hq
  obtain ⟨v, hv, hm⟩ := tkv_some (tb := tb) (z := z) (h.ks.mem_iff.mpr hz)
  show PlaceOk dots e z ((valV (tkv tb) (Sum.inr z)).getD .non)
  rw [hv]
  exact h.ps _ hm
theorem canon_get {dots : List Str} {tb : List (Str × V)} {z : Str} (hz : z ∈ dots) : valV (tkv (canon dots tb)) (Sum.inr z) = some ((valV (tkv tb) (Sum.inr z)).getD .non) := by
  induction dots with
  | nil => cases hz
  | cons y r ih =>
    show valV ((Sum.inr y, (valV (tkv tb) (Sum.inr y)).getD .non) :: tkv (canon r tb)) (Sum.inr z) = _
    by_cases e : y = z
    · subst e
      exact valV_pos (p := ((Sum.inr y : Key), (valV (tkv tb) (Sum.inr y)).getD .non)) rfl
    · rw [valV_neg (fun w => e (Sum.inr.inj w))]
      exact ih ((List.mem_cons.mp hz).resolve_left fun w => e w.symm)
/-- the rows of a model, told by functions -/
def RowsAt (H : Hp) (ends dots : List Str) (rows : List (Str × V)) (o n : Str → List (Str × V)) : Prop :=
  ∀ e ∈ ends, ∃ p po pn : Addr, valV (tkv rows) (Sum.inr e) = some (.ref p) ∧ PairAt H dots e p po pn (o e) (n e)
theorem RowsAt.ex {H H' : Hp} {ends dots : List Str} {rows : List (Str × V)} {o n : Str → List (Str × V)} (h : RowsAt H ends dots rows o n) (x : Evl.Ex H H') : RowsAt H' ends dots rows o n := fun e he => by
  obtain ⟨p, po, pn, h1, h2⟩ := h e he
  exact ⟨p, po, pn, h1, h2.ex x⟩
theorem RowsAt.of {H : Hp} {ends dots : List Str} {rows : List (Str × V)} (h : RowsOk H dots rows) (hk : rows.map (·.1) = ends) : ∃ o n : Str → List (Str × V), RowsAt H ends dots rows o n := by
  have all : ∀ e : Str, ∃ t : List (Str × V) × List (Str × V), e ∈ ends → ∃ p po pn : Addr, valV (tkv rows) (Sum.inr e) = some (.ref p) ∧ PairAt H dots e p po pn t.1 t.2 := fun e => by
    by_cases he : e ∈ ends
    · obtain ⟨v, hv1, hv2⟩ := tkv_some (tb := rows) (z := e) (by rw [hk]; exact he)
      obtain ⟨p, po, pn, t1, t2, e1, pa⟩ := h _ hv2
      have e1' : v = .ref p := e1
      subst e1'
      exact ⟨(t1, t2), fun _ => ⟨p, po, pn, hv1, pa⟩⟩
    · exact ⟨([], []), fun q => absurd q he⟩
  refine ⟨fun e => (Classical.choose (all e)).1, fun e => (Classical.choose (all e)).2, fun e he => Classical.choose_spec (all e) he⟩
def nflds (T N S P : Addr) : List (Str × V) := [("_tables", .ref T), ("_nodes", .ref N), ("_sources", .ref S), ("_posts", .ref P)]
theorem nflds_tables (T N S P : Addr) : (nflds T N S P).lookup ("_tables" : Str) = some (.ref T) := by kernel_rfl
theorem nflds_nodes (T N S P : Addr) : (nflds T N S P).lookup ("_nodes" : Str) = some (.ref N) := by kernel_rfl
theorem nflds_sources (T N S P : Addr) : (nflds T N S P).lookup ("_sources" : Str) = some (.ref S) := by kernel_rfl
theorem nflds_posts (T N S P : Addr) : (nflds T N S P).lookup ("_posts" : Str) = some (.ref P) := by kernel_rfl
/-- a net stands at m -/
structure NetAt (C : Addr) (H : Hp) (m : Addr) (ends dots ss ps : List Str) (o n : Str → List (Str × V)) : Prop where
  ex : ∃ (dx T N S P : Addr) (rows : List (Str × V)), H m = some (.ins C dx (nflds T N S P)) ∧ H T = some (.dK (tkv rows)) ∧ H N = some (.tup (dots.map V.str)) ∧ H S = some (.tup (ss.map V.str)) ∧ True ∧
    rows.map (·.1) = ends ∧ RowsAt H ends dots rows (fun e => canon dots (o e)) (fun e => canon dots (n e))
theorem NetAt.to {C : Addr} {H H' : Hp} {m : Addr} {ends dots ss ps : List Str} {o n : Str → List (Str × V)} (h : NetAt C H m ends dots ss ps o n) (x : Evl.Ex H H') : NetAt C H' m ends dots ss ps o n := by
  obtain ⟨dx, T, N, S, P, rows, h1, h2, h3, h4, h5, h6, h7⟩ := h
  exact ⟨dx, T, N, S, P, rows, x _ _ h1, x _ _ h2, x _ _ h3, x _ _ h4, h5, h6, h7.ex x⟩
theorem ex_none {H H' : Hp} {p : Addr} (x : Evl.Ex H H') (h : H' p = none) : H p = none := by
  cases q : H p with
  | none => rfl
  | some u => rw [x _ _ q] at h; cases h
/-- what H' has behind H -/
def rest (H H' : Hp) : Hp := fun a => match H a with | none => H' a | some _ => none
theorem rest_of {H H' : Hp} {a : Addr} {o : HO} (h0 : H a = none) (h : H' a = some o) : rest H H' a = some o := by
  unfold rest
  rw [h0]
  exact h
theorem rest_ex (H H' : Hp) : Evl.Ex (rest H H') H' := fun a o h => by
  unfold rest at h
  cases e : H a with
  | none => rw [e] at h; exact h
  | some _ => rw [e] at h; cases h
theorem rest_off {d g c : Addr} {H H' : Hp} (D : DrawAt H d g c) : Evl.Ex (rest H H') (off d g H') := fun a o h => by
  have h' := rest_ex H H' a o h
  refine off_of h' (fun z => ?_) (fun z => ?_)
  · subst z
    obtain ⟨r, t, hd⟩ := D.ex
    unfold rest at h
    rw [hd] at h
    cases h
  · subst z
    obtain ⟨gs, hg⟩ := D.gl
    unfold rest at h
    rw [hg] at h
    cases h
theorem rest_mono {H H1 H2 : Hp} (e : Evl.Ex H1 H2) : Evl.Ex (rest H H1) (rest H H2) := fun a o h => by
  unfold rest at h ⊢
  cases q : H a with
  | none => rw [q] at h; exact e a o h
  | some _ => rw [q] at h; cases h
theorem nf1 (T : Addr) : putF "_tables" (.ref T) [] = ([("_tables", .ref T)] : List (Str × V)) := rfl
theorem nf2 (T N : Addr) : putF "_nodes" (.ref N) [("_tables", .ref T)] = ([("_tables", .ref T), ("_nodes", .ref N)] : List (Str × V)) := by kernel_rfl
theorem nf3 (T N S : Addr) : putF "_sources" (.ref S) [("_tables", .ref T), ("_nodes", .ref N)] = ([("_tables", .ref T), ("_nodes", .ref N), ("_sources", .ref S)] : List (Str × V)) := by kernel_rfl
theorem nf4 (T N S P : Addr) : putF "_posts" (.ref P) [("_tables", .ref T), ("_nodes", .ref N), ("_sources", .ref S)] = nflds T N S P := by kernel_rfl
theorem nf1_get (T : Addr) : ([("_tables", .ref T)] : List (Str × V)).lookup ("_tables" : Str) = some (.ref T) := by kernel_rfl
theorem canon_snoc (l : List Str) (z : Str) (tb : List (Str × V)) : canon (l ++ [z]) tb = canon l tb ++ [(z, (valV (tkv tb) (Sum.inr z)).getD .non)] := by
  unfold canon
  rw [List.map_append]
  rfl
/-- {node: table[node] for node in nodes}, the table in slot i -/
theorem dc_canon {K : PySem.W.Frag} {N po D : Addr} {dots : List Str} {e : Str} {tb : List (Str × V)} {σ : L2.St} {i j : Nat} {H : Hp} {Qd : Hp → Prop} (hN : H N = some (.tup (dots.map V.str))) (hpo : H po = some (.dK (tkv tb))) (ok : TabOk dots e tb) (nd : dots.Nodup) (few : dots.length ≤ 100) (hD : H D = none)
    (slot : ∀ x : V, ((wipe σ [j]).set j (some x))[i]? = some (some (.ref po))) (own : ∀ x : V, ((wipe σ [j]).set j (some x))[j]? = some (some x)) (wiped : ∀ x : V, wipe ((wipe σ [j]).set j (some x)) [j] = wipe σ [j]) (fin : Qd (upd H D (.dK (tkv (canon dots tb))))) :
    ∃ W : Nat → Nat → Hp → Prop, (∃ m, W 0 m (upd H D (.dK []))) ∧ ∀ k m H1, W k m H1 →
      ((Itt K N).stop k H1 ∧ Qd H1) ∨ ((Itt K N).go k H1 ∧ ∃ Nx : Hp → Prop, (∀ H', Nx H' → ∃ m', m' < m ∧ W (k + 1) m' H') ∧ ∀ x H', (Itt K N).yld k H1 x H' → gName j x (wipe σ [j]) H' fun σ2 H2 => wipe σ2 [j] = wipe σ [j] ∧ tYes σ2 H2 fun b H3 =>
        if b = true then tVar j σ2 H3 fun y H4 => tDGet (tVar i) (tVar j) σ2 H4 fun z H5 => ∃ kvs k, y = kV k ∧ H5 D = some (.dK kvs) ∧ kvs.length < sizeLine ∧ Nx (upd H5 D (.dK (putK kvs k z))) else Nx H3) := by
  refine dc_tup (K := K) (a := N) (xs := dots.map V.str) (fun k H' => H' = upd H D (.dK (tkv (canon (dots.take k) tb)))) rfl (fun k H' _ h => by rw [h]; exact Evl.st_of (Evl.Ex.new hD _ _ hN)) ?_ ?_
  · rintro k x H1 hk rfl
    obtain ⟨z, hz, rfl⟩ := str_at hk
    have hkl : k < dots.length := (List.getElem?_eq_some_iff.mp hz).1
    have et : dots.take (k + 1) = dots.take k ++ [z] := by rw [List.take_add_one, hz]; rfl
    have zn : z ∉ dots.take k := fun hm => by
      have h1 : (dots.take (k + 1)).Nodup := nd.sublist (List.take_sublist _ _)
      rw [et] at h1
      exact (List.nodup_append.mp h1).2.2 z hm z (List.mem_singleton.mpr rfl) rfl
    obtain ⟨v, hv, _⟩ := tkv_some (tb := tb) (z := z) (ok.ks.mem_iff.mpr (List.mem_of_getElem? hz))
    refine ⟨wiped _, ?_⟩
    refine yes_if ?_
    have gt : DGet (upd H D (.dK (tkv (canon (dots.take k) tb)))) po (.str z) (some v) := by
      have q := DGet.k (k := Sum.inr z) (Evl.Ex.new (o := .dK (tkv (canon (dots.take k) tb))) hD _ _ hpo)
      rw [hv] at q
      exact q
    refine ⟨.str z, own _, .ref po, slot _, .str z, own _, po, v, rfl, gt, tkv (canon (dots.take k) tb), Sum.inr z, rfl, upd_same, ?_, ?_⟩
    · rw [tkv_len]
      unfold canon
      rw [List.length_map, List.length_take]
      exact small1000 (by omega)
    · rw [upd_upd, tkv_new (by rw [canon_keys]; exact zn), et, canon_snoc, hv]
      rfl
  · rintro H1 rfl
    rw [List.length_map, List.take_length]
    exact fin
/-- Net.__init__ of a model's parts -/
def spInit (K : PySem.W.Frag) (C : Addr) : Sp := fun vs H Q _ => ∃ (Hb : Hp) (m dx t s p : Addr) (ends dots ss ps : List Str) (rows : List (Str × V)) (o n : Str → List (Str × V)), vs = [.ref m, .ref t, .ref s, .ref p] ∧ Hb m = none ∧ Evl.Ex Hb H ∧ H m = some (.ins C dx []) ∧
  Hb t = some (.dK (tkv rows)) ∧ (rows.map (·.1)).Perm ends ∧ RowsOk Hb dots rows ∧ RowsAt Hb ends dots rows o n ∧ SqS K Hb s ss ∧ SqS K Hb p ps ∧ ModelOk ends dots ss ps ∧
  ∀ H', Evl.Ex Hb H' → (∀ Hz, Evl.Ex (rest Hb H') Hz → (Hb p = some (.tup (ps.map V.str)) → Hz p = some (.tup (ps.map V.str))) → NetAt C Hz m ends dots ss ps o n) → Q .non H'
end Rw
end T_N0

section T_V1
set_option Elab.async false
set_option linter.all false
set_option maxRecDepth 100000
set_option maxHeartbeats 2000000
namespace Rw
open PySem PySem.Spec PySem.W L2 PyProof.Rows
/-! ### tuple(d) of a dict: its keys -/
section
variable {prog : Program} {w : World} {A : Around} {EX : Value → Shared → Prop} {s : Shared} {r d : Addr} {T : String} {n : Nat} {Pk : Nat → Value → Prop} {Fine : Heap → Prop}
theorem collect_src {Q : List Value → Shared → Prop} (src : KdlSrc prog w T r d n Pk Fine) (calm : A.handled = none) (fine : Fine s.heap) (few : n ≤ sizeLine)
    (wish : ∀ (h' : Heap) (tk : Nat) (acc : Array Value), (∀ b o, s.heap.get? b = some o → h'.get? b = some o) → ItemsOf Pk acc n → Q acc.toList { s with heap := h', toks := tk }) :
    wpAny (model prog w) A (collect (.ref r)) Q EX s := by
  unfold collect
  refine wpAny_bind (wpAny_runValue (codeAny_builtin PySem.F.entry_proto_collect ?_))
  rw [Around.under_plainId PySem.F.plain_proto_collect _]
  show wpAny _ A.in1 (newList [] >>= fun l => again (.builtin "list.__iadd__" ⟨[l, .ref r], []⟩)) _ _ s
  refine wpAny_bind (wpAny_newObj_type ?_)
  refine wpAny_pure ⟨plainId_quiet PySem.F.plain_list_iadd _, codeAny_builtin PySem.F.entry_list_iadd ?_⟩
  rw [Around.under_plainId PySem.F.plain_list_iadd _]
  show wpAny _ A.in1 (Builtin.List.listExtendWith (.ref s.heap.objs.size) (.ref r) (.ref s.heap.objs.size)) _ _ _
  have made : (s.heap.push { cls := .type "list", data := .seq ([] : List Value).toArray }).get? s.heap.objs.size = some { cls := .type "list", data := .seq #[] 0 } := Heap.get?_push_size _ rfl
  have below := src.there _ fine
  refine wpAny_mono (kdl_extend (A := A) (R := fun rr s' => rr = .ok (.ret (.ref s.heap.objs.size)) ∧ ∃ (h' : Heap) (tk : Nat) (acc : Array Value) (c' : Nat), s' = { s with heap := h', toks := tk } ∧
      (∀ b o, s.heap.get? b = some o → h'.get? b = some o) ∧ h'.get? s.heap.objs.size = some { cls := .type "list", dict := none, data := .seq acc c', slots := #[] } ∧ ItemsOf Pk acc n)
    (s := { s with heap := s.heap.push { cls := .type "list", data := .seq ([] : List Value).toArray } }) src calm (src.keep _ _ fine fun b _ o e => Heap.get?_push_of_some _ e) s.heap.objs.size (Nat.ne_of_gt below.1) (Nat.ne_of_gt below.2) _ 0 made
    (fun h' tk acc c' keep at_l got => ⟨rfl, h', tk, acc, c', rfl, fun b o q => keep b o (Nat.ne_of_lt (Heap.lt_size q)) (Heap.get?_push_of_some _ q), at_l, got⟩) few) (fun fin s' got => ?_) (fun e s' got => ?_)
  · cases fin with
    | done f =>
      obtain ⟨e, h', tk, acc, c', rfl, keep, at_l, items⟩ := got
      cases e
      show wpAny _ A (load s.heap.objs.size >>= _) _ _ _
      exact wpAny_bind (wpAny_load at_l (wpAny_pure (wish h' tk acc keep items)))
    | again c' =>
      refine ⟨got.1, codeAny_mono got.2 fun rr s'' res => ?_⟩
      obtain ⟨rfl, h', tk, acc, c', rfl, keep, at_l, items⟩ := res
      show wpAny _ A (load s.heap.objs.size >>= _) _ _ _
      exact wpAny_bind (wpAny_load at_l (wpAny_pure (wish h' tk acc keep items)))
  · exact absurd got.1 (by simp)
theorem tuple_new_src {Q₁ : Value → Shared → Prop} (src : KdlSrc prog w T r d n Pk Fine) (calm : A.handled = none) (fine : Fine s.heap) (few : n ≤ sizeLine)
    (wish : ∀ (h' : Heap) (tk : Nat) (acc : Array Value), (∀ b o, s.heap.get? b = some o → h'.get? b = some o) → ItemsOf Pk acc n →
      Q₁ (.ref h'.objs.size) { s with heap := h'.push { cls := .type "tuple", data := .seq acc }, toks := tk }) :
    codeAny (model prog w) A (.call (.builtin "tuple.__new__") ⟨[.type "tuple", .ref r], []⟩) (wants Q₁ EX) s := by
  refine codeAny_of_tree ?_
  show wpAny _ A.in1 (do checkBuiltinCall "tuple.__new__" ⟨[.type "tuple", .ref r], []⟩; again (.builtin "tuple.__new__" ⟨[.type "tuple", .ref r], []⟩)) _ _ s
  refine wpAny_bind (wpAny_of_eq (PySem.F.newCall_tuple_1 _) (wpAny_pure ⟨plainId_quiet PySem.F.plain_tuple_new _, codeAny_builtin PySem.F.entry_tuple_new ?_⟩))
  rw [Around.under_plainId PySem.F.plain_tuple_new _]
  have self_sub := sub_tuple_self
  have no_init := init_tuple_lookup
  have here := madeHere_tuple
  have ty_is := src.type s fine
  have no_tup := src.notTuple
  have calm1 : A.in1.handled = none := calm
  wp_walk using wpAny_typeOf ty_is, collect_src (A := A.in1) src calm1 fine few
  intro h' tk acc keep items
  show wpAny _ _ (Builtin.Tuple.tupleExact acc.toList.toArray >>= fun v => ret v) _ _ _
  have back : acc.toList.toArray = acc := by simp
  rw [back]
  unfold Builtin.Tuple.tupleExact
  refine wpAny_bind (wpAny_newObj_type ?_ (by show acc.size ≤ sizeLine; rw [items.1]; exact few))
  exact wpAny_pure (wish h' tk acc keep items)
theorem tuple_src {Q : Value → Shared → Prop} (src : KdlSrc prog w T r d n Pk Fine) (calm : A.handled = none) (fine : Fine s.heap) (few : n ≤ sizeLine)
    (wish : ∀ (h' : Heap) (tk : Nat) (acc : Array Value), (∀ b o, s.heap.get? b = some o → h'.get? b = some o) → ItemsOf Pk acc n →
      Q (.ref h'.objs.size) { s with heap := h'.push { cls := .type "tuple", data := .seq acc }, toks := tk }) :
    wpAny (model prog w) A (call (.type "tuple") [.ref r]) Q EX s := by
  refine callType_codes (Q₁ := fun obj s₁ => s₁.TypeIs obj "tuple" ∧ Q obj s₁) PySem.F.called_tuple (PySem.F.typeCall_tuple_1 _) PySem.F.entry_object_init
    (tuple_new_src (A := A.in1) src calm fine few fun h' tk acc keep items => ⟨⟨_, Heap.get?_push_size _ rfl, rfl⟩, wish h' tk acc keep items⟩) fun obj s₁ got => ?_
  exact ⟨got.1, PySem.F.args_object_init_2 obj _, object_init_meets PySem.F.called_tuple.init.lookup PySem.F.called_tuple.made (by decide) prog w A.in1 _ s₁ ⟨got.1, rfl, got.2⟩⟩
end
/-- tuple(d) -/
theorem call_tupleD {X : Cx} (calm : X.calm = true) : CallR X (.type "tuple") (fun xs H Q => ∃ (a : Addr) (kvs : List (Key × V)), xs = [.ref a] ∧ Rd H a (.dK kvs) ∧ ∀ p, H p = none → Q (.ref p) (upd H p (.tup (kvs.map fun kv => kV kv.1)))) := by
  intro pins s σ H xs us Q I rel h
  obtain ⟨a, kvs, rfl, hd, q⟩ := h
  obtain ⟨u, rfl, ru⟩ := vals1 rel
  cases ru
  obtain ⟨few, low, vs, pairs, dd⟩ := dk_rd I.hok hd
  obtain ⟨ep, at_d⟩ := dd.dictAt
  have same : (kvs.map fun kv => kV kv.1) = vs.map fun p => kV p.1 := by
    have e := congrArg (List.map kV) pairs.keys
    rw [List.map_map, List.map_map] at e
    exact e
  have few' : vs.length ≤ sizeLine := by rw [← pairs.length]; exact few
  refine tuple_src (kdl_dict (knd := mixKind X.prog X.w) (kvs := vs) (ep := ep) low) (I.ok.hd calm) at_d few' fun h' tk acc keep items => ?_
  have got : Vals (vs.map fun p => kV p.1) acc.toList := keys_at (by rw [Array.length_toList]; exact items.1) fun j v e => items.2 j v (by rw [← Array.getElem?_toList]; exact e)
  have I1 : Inv X pins σ H { s with heap := h', toks := s.toks } := I.kept (t' := s.toks) keep
  have fresh : H h'.objs.size = none := I1.hok.fresh (Nat.le_refl _)
  refine ⟨.ref h'.objs.size, upd H h'.objs.size (.tup (kvs.map fun kv => kV kv.1)), I1.laid (t' := tk) (fun b o e => Heap.get?_push_of_some _ e) (Nat.le_refl _) ?_, rfl, q _ fresh⟩
  exact ⟨by rw [List.length_map]; exact few, acc.toList, by rw [same]; exact got, by simpa using IsTup.new _ _⟩
end Rw
end T_V1

section T_N2
set_option Elab.async false
set_option linter.all false
set_option maxRecDepth 100000
set_option maxHeartbeats 4000000
namespace Rw
open PySem L2 PyProof.Rows
/-- what the class Net is, whole -/
structure NetTxt (K : PySem.W.Frag) (C : Addr) : Prop where
  cl : Cls K C
  nT : NoAttr K C "_tables"
  nN : NoAttr K C "_nodes"
  nS : NoAttr K C "_sources"
  nP : NoAttr K C "_posts"
/-- a def by its name -/
structure Cal (P : Program) (w : World) (K : PySem.W.Frag) (mg : Str → Option Value) (base : Heap) (k : Nat) (x : Str) (ps : List Str) (sp : Sp) : Prop where
  ex : ∃ f fd, FnOk P w K mg base CX0 k f fd ps sp ∧ PySem.W.keepIn K (.ref f) = true ∧ Binds K fd ps [] ∧ mg x = some (.ref f)
/-- a property of the class -/
structure Prp (P : Program) (w : World) (K : PySem.W.Frag) (mg : Str → Option Value) (base : Heap) (C : Addr) (k : Nat) (x : Str) (sp : Sp) : Prop where
  ex : ∃ p g fd, PropOf K C x p g ∧ FnOk P w K mg base CX0 k g fd ["self"] sp ∧ Binds K fd ["self"] []
section
variable {P : Program} {w : World} {K : PySem.W.Frag} {mg : Str → Option Value} {base : Heap}
def spGoals (C : Addr) : Sp := fun vs H Q _ => ∃ (m : Addr) (ends dots ss ps : List Str) (o n : Str → List (Str × V)), vs = [.ref m] ∧ NetAt C H m ends dots ss ps o n ∧ ends.length ≤ 100 ∧ ∀ p, H p = none → Q (.ref p) (upd H p (.tup (ends.map V.str)))
def spDots (C : Addr) : Sp := fun vs H Q _ => ∃ (m : Addr) (ends dots ss ps : List Str) (o n : Str → List (Str × V)), vs = [.ref m] ∧ NetAt C H m ends dots ss ps o n ∧ ∀ p, H p = some (.tup (dots.map V.str)) → Q (.ref p) H
theorem sc_goals : FnScope ["self"] ["self"] (defScope c_Net_goals) := ⟨rfl, rfl, rfl, by decide +kernel, rfl, by decide +kernel, by decide +kernel⟩
theorem sc_dots : FnScope ["self"] ["self"] (defScope c_Net_nodes) := ⟨rfl, rfl, rfl, by decide +kernel, rfl, by decide +kernel, by decide +kernel⟩
theorem ok_goals {f C : Addr} {fd : FuncData} (F : Fun K "goals" "Net.goals" c_Net_goals f fd) (T : NetTxt K C) (mTup : mg "tuple" = none) : FnOk P w K mg base CX0 1 f fd ["self"] (spGoals C) := by
  refine F.ok sc_goals (fun vs H Q E h => ?_) (fun cdv A outer s H vs Q E hr h => ?_)
  · obtain ⟨m, ends, dots, ss, ps, o, n, rfl, _⟩ := h
    rfl
  · obtain ⟨m, ends, dots, ss, ps, o, n, rfl, N, few, k⟩ := h
    refine ⟨_, pss_one (ps_ret (pe_callTy (call_tupleD rfl) (by rfl) mTup (by decide +kernel) (pa_cons (pe_fld (pv 0) rfl) pa_nil))), ?_⟩
    obtain ⟨dx, T', N', S, Po, rows, h1, h2, h3, h4, h5, h6, h7⟩ := N.ex
    refine ⟨.ref m, rfl, m, C, dx, _, .ref T', rfl, h1, T.cl, T.nT, nflds_tables _ _ _ _, T', _, rfl, .inl h2, fun p hp => ?_⟩
    rw [tkv_keysV, h6]
    exact k p hp
theorem ok_dots {f C : Addr} {fd : FuncData} (F : Fun K "nodes" "Net.nodes" c_Net_nodes f fd) (T : NetTxt K C) : FnOk P w K mg base CX0 1 f fd ["self"] (spDots C) := by
  refine F.ok sc_dots (fun vs H Q E h => ?_) (fun cdv A outer s H vs Q E hr h => ?_)
  · obtain ⟨m, ends, dots, ss, ps, o, n, rfl, _⟩ := h
    rfl
  · obtain ⟨m, ends, dots, ss, ps, o, n, rfl, N, k⟩ := h
    refine ⟨_, pss_one (ps_ret (pe_fld (pv 0) rfl)), ?_⟩
    obtain ⟨dx, T', N', S, Po, rows, h1, h2, h3, h4, h5, h6, h7⟩ := N.ex
    exact ⟨.ref m, rfl, m, C, dx, _, .ref N', rfl, h1, T.cl, T.nN, nflds_nodes _ _ _ _, k N' h3⟩
/-! ### the checks -/
def spCheckGoal (C : Addr) : Sp := fun vs H Q _ => ∃ (m : Addr) (e : Str) (ends dots ss ps : List Str) (o n : Str → List (Str × V)), vs = [.ref m, .str e] ∧ NetAt C H m ends dots ss ps o n ∧ ends.length ≤ 100 ∧ e ∈ ends ∧ ∀ H', Evl.Ex H H' → Q .non H'
def spCheckDot (C : Addr) : Sp := fun vs H Q _ => ∃ (m : Addr) (z : Str) (ends dots ss ps : List Str) (o n : Str → List (Str × V)), vs = [.ref m, .str z] ∧ NetAt C H m ends dots ss ps o n ∧ z ∈ dots ∧ Q .non H
theorem sc_check_goal : FnScope ["net", "goal"] ["net", "goal"] (defScope p_check_goal) := ⟨rfl, rfl, rfl, by decide +kernel, rfl, by decide +kernel, by decide +kernel⟩
theorem sc_check_node : FnScope ["net", "node"] ["net", "node"] (defScope p_check_node) := ⟨rfl, rfl, rfl, by decide +kernel, rfl, by decide +kernel, by decide +kernel⟩
theorem ok_check_goal {f C : Addr} {fd : FuncData} (F : Fun K "check_goal" "check_goal" p_check_goal f fd) (T : NetTxt K C) (Pg : Prp P w K mg base C 1 "goals" (spGoals C)) : FnOk P w K mg base CX0 3 f fd ["net", "goal"] (spCheckGoal C) := by
  obtain ⟨p1, g1, fd1, at1, F1, b1⟩ := Pg.ex
  refine F.ok sc_check_goal (fun vs H Q E h => ?_) (fun cdv A outer s H vs Q E hr h => ?_)
  · obtain ⟨m, e, ends, dots, ss, ps, o, n, rfl, _⟩ := h
    rfl
  · obtain ⟨m, e, ends, dots, ss, ps, o, n, rfl, N, few, he, k⟩ := h
    refine ⟨_, pss_one (ps_if (pt_cmpR op_notIn_seq (pv 1) (pe_prop (pv 0) T.cl at1 F1 hr b1 .nil pass0 rfl) rfl) (pss_one ps_never) pss_nil), ?_⟩
    have N2 := N
    obtain ⟨dx, T', N', S, Po, rows, h1, h2, h3, h4, h5, h6, h7⟩ := N.ex
    refine ⟨.str e, rfl, .ref m, rfl, m, dx, _, rfl, h1, m, ends, dots, ss, ps, o, n, rfl, N2, few, fun p hp => ⟨p, ends.map V.str, rfl, .inr (Evl.st_of upd_same), rfl, flat_strs ends, ?_⟩⟩
    rw [inV_str, decide_eq_true he]
    exact ⟨false, rfl, k _ (Evl.Ex.new hp)⟩
theorem ok_check_node {f C : Addr} {fd : FuncData} (F : Fun K "check_node" "check_node" p_check_node f fd) (T : NetTxt K C) (Pg : Prp P w K mg base C 1 "nodes" (spDots C)) : FnOk P w K mg base CX0 3 f fd ["net", "node"] (spCheckDot C) := by
  obtain ⟨p1, g1, fd1, at1, F1, b1⟩ := Pg.ex
  refine F.ok sc_check_node (fun vs H Q E h => ?_) (fun cdv A outer s H vs Q E hr h => ?_)
  · obtain ⟨m, z, ends, dots, ss, ps, o, n, rfl, _⟩ := h
    rfl
  · obtain ⟨m, z, ends, dots, ss, ps, o, n, rfl, N, hz, k⟩ := h
    refine ⟨_, pss_one (ps_if (pt_cmpR op_notIn_seq (pv 1) (pe_prop (pv 0) T.cl at1 F1 hr b1 .nil pass0 rfl) rfl) (pss_one ps_never) pss_nil), ?_⟩
    have N2 := N
    obtain ⟨dx, T', N', S, Po, rows, h1, h2, h3, h4, h5, h6, h7⟩ := N.ex
    refine ⟨.str z, rfl, .ref m, rfl, m, dx, _, rfl, h1, m, ends, dots, ss, ps, o, n, rfl, N2, fun p hp => ⟨p, dots.map V.str, rfl, .inr (Evl.st_of hp), rfl, flat_strs dots, ?_⟩⟩
    rw [inV_str, decide_eq_true hz]
    exact ⟨false, rfl, k⟩
/-- what isinstance asks of the class -/
structure NetIsi (K : PySem.W.Frag) (C : Addr) : Prop where
  ha : PySem.W.findIn K (.ref C) "__class__" = some (some (.builtin "object.__class__"))
  hn : PySem.W.specialIn K (.builtin "object.__class__") "__get__" = some (some (.builtin "getset_descriptor.__get__"))
  hk : PySem.W.takesIn K (.builtin "object.__class__") = some true
  hm : PySem.W.mroIn K C (.type "object") = some true
  me : PySem.W.kitOne K (.ref C) (.ref C) = some true
def spCheckNet (C : Addr) : Sp := fun vs H Q _ => ∃ (m : Addr) (ends dots ss ps : List Str) (o n : Str → List (Str × V)), vs = [.ref m] ∧ NetAt C H m ends dots ss ps o n ∧ Q .non H
theorem sc_check_net : FnScope ["net"] ["net"] (defScope p_check_net) := ⟨rfl, rfl, rfl, by decide +kernel, rfl, by decide +kernel, by decide +kernel⟩
theorem ok_check_net {f C : Addr} {fd : FuncData} (F : Fun K "check_net" "check_net" p_check_net f fd) (T : NetTxt K C) (Is : NetIsi K C) (mIsi : mg "isinstance" = none) (mNet : mg "Net" = some (.ref C)) : FnOk P w K mg base CX0 1 f fd ["net"] (spCheckNet C) := by
  refine F.ok sc_check_net (fun vs H Q E h => ?_) (fun cdv A outer s H vs Q E hr h => ?_)
  · obtain ⟨m, ends, dots, ss, ps, o, n, rfl, _⟩ := h
    rfl
  · obtain ⟨m, ends, dots, ss, ps, o, n, rfl, N, k⟩ := h
    refine ⟨_, pss_one (ps_if (pt_not (pt_val (pe_callB call_isi (by rfl) mIsi (by decide +kernel) (pa_cons (pv 0) (pa_cons (pe_glob (v := .ref C) (by rfl) mNet rfl) pa_nil))))) (pss_one ps_never) pss_nil), ?_⟩
    obtain ⟨dx, T', N', S, Po, rows, h1, h2, h3, h4, h5, h6, h7⟩ := N.ex
    exact ⟨.ref m, rfl, .ref m, .ref C, _, _, true, rfl, .own C, .base (.ins h1 T.cl Is.ha Is.hn Is.hk Is.hm), Is.me, true, rfl, k⟩
end
end Rw
end T_N2

section T_N3
set_option Elab.async false
set_option linter.all false
set_option maxRecDepth 100000
set_option maxHeartbeats 4000000
namespace Rw
open PySem L2 PyProof.Rows
/-- the way of z by a table -/
def look (tb : List (Str × V)) (z : Str) : V := (valV (tkv tb) (Sum.inr z)).getD .non
/-- where old and new ways of z differ -/
def diffB (ends : List Str) (o n : Str → List (Str × V)) (z : Str) : List Bool := ends.map fun e => !decide (look (o e) z = look (n e) z)
/-- the nodes that change -/
def moving (ends dots : List Str) (o n : Str → List (Str × V)) : List Str := dots.filter fun z => (diffB ends o n z).any id
theorem look_ok {zs : List Str} {e z : Str} {tb : List (Str × V)} (h : TabOk zs e tb) (hz : z ∈ zs) : PlaceOk zs e z (look tb z) ∧ valV (tkv tb) (Sum.inr z) = some (look tb z) := by
  obtain ⟨v, h1, h2⟩ := tkv_some (tb := tb) (z := z) (h.ks.mem_iff.mpr hz)
  unfold look
  rw [h1]
  exact ⟨h.ps _ h2, rfl⟩
theorem look_canon {dots : List Str} {tb : List (Str × V)} {z : Str} (hz : z ∈ dots) : look (canon dots tb) z = look tb z := by
  unfold look
  rw [canon_get hz]
  rfl
theorem scal_place {zs ys : List Str} {e f z y : Str} {u v : V} (h1 : PlaceOk zs e z u) (h2 : PlaceOk ys f y v) : scal u v = true := by
  rcases h1 with rfl | rfl | ⟨_, _, _, rfl⟩ <;> rcases h2 with rfl | rfl | ⟨_, _, _, rfl⟩ <;> rfl
abbrev scOuter : Scope := { kind := .function, names := [(".0", .local), ("node", .cell), ("any", .globalImplicit), ("pairs", .cell)], isGenerator := false, isCoroutine := false }
theorem tkv_at : ∀ {rows : List (Str × V)} {ends : List Str} {i : Nat} {e : Str} {v : V}, rows.map (·.1) = ends → ends.Nodup → ends[i]? = some e → valV (tkv rows) (Sum.inr e) = some v → ((tkv rows).map (·.2))[i]? = some v := by
  intro rows ends i e v hk nd he hv
  have hi : i < rows.length := by
    have := (List.getElem?_eq_some_iff.mp he).1
    rw [← hk, List.length_map] at this
    exact this
  obtain ⟨u, hu, hm⟩ := tkv_some (tb := rows) (z := e) (by rw [hk]; exact List.mem_of_getElem? he)
  rw [hv] at hu
  obtain ⟨j, hj, hj'⟩ := List.getElem_of_mem hm
  have ej : ends[j]? = some e := by rw [← hk, List.getElem?_map, List.getElem?_eq_getElem hj, hj']; rfl
  have hie : i < ends.length := (List.getElem?_eq_some_iff.mp he).1
  have ij : i = j := (List.getElem?_inj hie nd).mp (he.trans ej.symm)
  subst ij
  unfold tkv
  rw [List.map_map, List.getElem?_map, List.getElem?_eq_getElem hj, hj', Option.some.inj hu]
  rfl
theorem diffB_snoc (l : List Str) (e : Str) (o n : Str → List (Str × V)) (z : Str) : diffB (l ++ [e]) o n z = diffB l o n z ++ [!decide (look (o e) z = look (n e) z)] := by
  unfold diffB
  rw [List.map_append]
  rfl
section
variable {P : Program} {w : World} {K : PySem.W.Frag} {mg : Str → Option Value} {base : Heap}
def spChanging (C : Addr) : Sp := fun vs H Q _ => ∃ (m : Addr) (ends dots ss ps : List Str) (o n : Str → List (Str × V)), vs = [.ref m] ∧ NetAt C H m ends dots ss ps o n ∧ ends.length ≤ 100 ∧ dots.length ≤ 100 ∧ ends.Nodup ∧
  ∀ p H', Evl.Ex H H' → H p = none → H' p = some (.tup ((moving ends dots o n).map V.str)) → Q (.ref p) H'
abbrev nChanging : List Str := ["self", "pairs", "node", "old", "new"]
theorem sc_changing : FnScope nChanging ["self"] (defScope c_Net_changing) := ⟨rfl, rfl, rfl, by decide +kernel, rfl, by decide +kernel, by decide +kernel⟩
theorem ok_changing {f C : Addr} {fd : FuncData} (F : Fun K "changing" "Net.changing" c_Net_changing f fd) (T : NetTxt K C) (mTup : mg "tuple" = none) (mList : mg "list" = none) (mAny : mg "any" = none) : FnOk P w K mg base CX0 2 f fd ["self"] (spChanging C) := by
  refine F.ok sc_changing (fun vs H Q E h => ?_) (fun cdv A outer s H vs Q E hr h => ?_)
  · obtain ⟨m, ends, dots, ss, ps, o, n, rfl, _⟩ := h
    rfl
  · obtain ⟨m, ends, dots, ss, ps, o, n, rfl, N, few, few2, en, k⟩ := h
    have nd := sc_changing.nd
    have hu := hu_of hr
    refine ⟨_, pss_cons (ps_set (i := 1) nd rfl (.inr rfl) (pe_listVals rfl (pe_fld (pv 0) rfl) (by rfl) mList))
      (pss_one (ps_ret (pe_callTy call_tuple_of (by rfl) mTup (by decide +kernel) (pa_cons
        (pe_lc (own := [("node", 2)]) (g := gName 2) (tt := tB (tCB (rAny K) (tCons (tLc (iList K (tVar 1)) (gTup K 2 (gCons (gName 3) (gCons (gName 4) gNil))) tYes (tOp rNe (tDGet (tVar 3) (tVar 2)) (tDGet (tVar 4) (tVar 2))) [3, 4]) tNil))) rfl nd (pi_tup (pe_fld (pv 0) rfl)) (blkOk_by (own := [("node", 2)]) (N := nChanging) (sc := defScope c_Net_changing) (by decide +kernel))
          (fun _ _ _ _ _ => pg_name (i := 2) nd rfl (Or.inr rfl))
          (fun _ _ _ _ _ => pts_one (pt_val (pe_callB (cr_any rfl) (by rfl) mAny (by decide +kernel) (pa_cons
            (pe_lc (own := [("old", 3), ("new", 4)]) (g := gTup K 2 (gCons (gName 3) (gCons (gName 4) gNil))) (tt := tYes) (te := tOp rNe (tDGet (tVar 3) (tVar 2)) (tDGet (tVar 4) (tVar 2))) rfl nd (pi_list (pv 1)) (by
              have q : ∀ {sc : Scope}, blkC nChanging scOuter sc [("old", 3), ("new", 4)] = true → BlkOk nChanging scOuter sc [("old", 3), ("new", 4)] := fun h => blkOk_by h
              refine q ?_
              decide +kernel)
              (fun _ _ _ _ _ => pg_tup rfl (pgs_cons (pg_name (i := 3) nd rfl (Or.inl rfl)) (pgs_cons (pg_name (i := 4) nd rfl (Or.inl rfl)) pgs_nil))) (fun _ _ _ _ _ => pts_nil) (fun _ _ _ _ _ => pe_cmpR op_ne (pe_dget hu (pv 3) (pv 2) (fun _ _ => rfl)) (pe_dget hu (pv 4) (pv 2) (fun _ _ => rfl)) (nomark _))) pa_nil))))
          (fun _ _ _ _ _ => pv 2)) pa_nil)))), ?_⟩
    obtain ⟨dx, T', N', S, Po, rows, h1, h2, h3, h4, h5, h6, h7⟩ := N.ex
    have rl : rows.length = ends.length := by rw [← h6, List.length_map]
    refine ⟨.ref m, rfl, m, C, dx, _, .ref T', rfl, h1, T.cl, T.nT, nflds_tables _ _ _ _, T', _, rfl, .inl h2, fun l hl => ?_⟩
    have x1 : Evl.Ex H (upd H l (.lst ((tkv rows).map (·.2)))) := Evl.Ex.new hl
    have el : (upd H l (.lst ((tkv rows).map (·.2)))) l = some (.lst ((tkv rows).map (·.2))) := upd_same
    generalize upd H l (.lst ((tkv rows).map (·.2))) = H1 at x1 el
    refine ⟨.ref m, rfl, m, C, dx, _, .ref N', rfl, x1 _ _ h1, T.cl, T.nN, nflds_nodes _ _ _ _, N', rfl, ⟨_, Evl.st_of (x1 _ _ h3)⟩, fun D hD => lc_tup (K := K) (a := N') (xs := dots.map V.str)
      (fun i H' => i ≤ dots.length ∧ Evl.Ex H1 H' ∧ H' D = some (.lst ((moving ends (dots.take i) o n).map V.str))) ⟨Nat.zero_le _, Evl.Ex.new hD, upd_same⟩ (fun i H' _ h => Evl.st_of (h.2.1 _ _ (x1 _ _ h3))) ?_ ?_⟩
    · rintro j x H3 hj ⟨_, x3, d3⟩
      obtain ⟨z, hz, rfl⟩ := str_at hj
      have hjl : j < dots.length := (List.getElem?_eq_some_iff.mp hz).1
      have zd := List.mem_of_getElem? hz
      have et : moving ends (dots.take (j + 1)) o n = moving ends (dots.take j) o n ++ if (diffB ends o n z).any id then [z] else [] := by
        unfold moving
        rw [List.take_add_one, hz, List.filter_append]
        show _ ++ List.filter _ [z] = _
        rw [List.filter_cons]
        rfl
      have dl : (moving ends (dots.take j) o n).length ≤ 100 := Nat.le_trans (List.length_filter_le _ _) (by rw [List.length_take]; omega)
      refine ⟨rfl, ?_⟩
      refine ⟨.ref l, rfl, l, rfl, ⟨_, Evl.sq_of (x3 _ _ el)⟩, fun D2 hD2 => lc_list (K := K) (a := l) (xs := (tkv rows).map (·.2))
        (fun i H' => i ≤ ends.length ∧ Evl.Ex H3 H' ∧ H' D2 = some (.lst ((diffB (ends.take i) o n z).map V.bl))) ⟨Nat.zero_le _, Evl.Ex.new hD2, upd_same⟩ (fun i H' _ h => Evl.sq_of (h.2.1 _ _ (x3 _ _ el))) ?_ ?_⟩
      · rintro i y H4 hi ⟨_, x4, d4⟩
        have hil : i < ends.length := by
          have := (List.getElem?_eq_some_iff.mp hi).1
          rw [List.length_map, tkv_len] at this
          omega
        have gi : ends[i]? = some ends[i] := List.getElem?_eq_getElem hil
        obtain ⟨p, po, pn, hv, pa⟩ := h7 ends[i] (List.getElem_mem hil)
        have ey : y = .ref p := Option.some.inj (hi.symm.trans (tkv_at h6 en gi hv))
        subst ey
        have pa4 := pa.ex (x1.trans (x3.trans x4))
        have c1 := (look_ok pa.o1 zd)
        have c2 := (look_ok pa.o2 zd)
        have g1 : DGet H4 po (.str z) (some (look (o ends[i]) z)) := by
          have q := DGet.k (k := Sum.inr z) pa4.ho
          rw [c1.2, look_canon zd] at q
          exact q
        have g2 : DGet H4 pn (.str z) (some (look (n ends[i]) z)) := by
          have q := DGet.k (k := Sum.inr z) pa4.hn
          rw [c2.2, look_canon zd] at q
          exact q
        have sc := scal_place c1.1 c2.1
        rw [look_canon zd, look_canon zd] at sc
        refine ⟨p, _, rfl, Evl.st_of pa4.hp, rfl, _, _, rfl, _, [], rfl, rfl, rfl, ?_⟩
        refine yes_if ?_
        refine ⟨.ref po, rfl, .str z, rfl, po, _, rfl, g1, .ref pn, rfl, .str z, rfl, pn, _, rfl, g2, sc, _, d4, ?_, hil, x4.mut hD2, ?_⟩
        · rw [List.length_map]
          unfold diffB
          rw [List.length_map, List.length_take]
          exact small1000 (by omega)
        · rw [upd_same, List.take_add_one, gi]
          show some (HO.lst _) = some (HO.lst (List.map V.bl (diffB (_ ++ [_]) o n z)))
          rw [diffB_snoc, List.map_append]
          rfl
      · rintro H4 ⟨_, x4, d4⟩
        rw [List.length_map, tkv_len, rl, List.take_length] at d4
        refine ⟨D2, _, rfl, Evl.sq_of d4, _, rfl, ?_⟩
        by_cases q : (diffB ends o n z).any id = true
        · rw [if_pos q] at et ⊢
          refine ⟨.str z, rfl, _, x4 _ _ d3, by rw [List.length_map]; exact small1000 (by omega), hjl, (x3.trans x4).mut hD, ?_⟩
          rw [upd_same, et, List.map_append]
          rfl
        · rw [if_neg q] at et ⊢
          refine ⟨hjl, x3.trans x4, ?_⟩
          rw [et, List.append_nil]
          exact x4 _ _ d3
    · rintro H3 ⟨_, x3, d3⟩
      rw [List.length_map, List.take_length] at d3
      refine ⟨D, _, rfl, .inl ⟨Evl.sq_of d3, fun p hp => k p _ ((x1.trans x3).trans (Evl.Ex.new hp)) ?_ upd_same⟩⟩
      cases q : H p with
      | none => rfl
      | some u => rw [(x1.trans x3) _ _ q] at hp; cases hp
end
end Rw
end T_N3

section T_Y0
set_option Elab.async false
set_option linter.all false
set_option maxRecDepth 100000
set_option maxHeartbeats 4000000
namespace Rw
open PySem L2 PyProof.Rows
/-- a dict comprehension over any walk -/
theorem dc_it {J : It} {n : Nat} {G : Hp → Prop} {Y : Nat → Hp → V → Hp → Prop} (wk : Walk J n G Y) {g : TG} {tt : TT} {tk tv : TE} {vs : List Nat} {σ : L2.St} {H1 : Hp} {D : Addr} {Qd : Hp → Prop} (Pv : Nat → Hp → Prop) (start : Pv 0 (upd H1 D (.dK []))) (hG : ∀ i H, i ≤ n → Pv i H → G H)
    (turn : ∀ i x H H', i < n → Pv i H → Y i H x H' → g x (wipe σ vs) H' fun σ2 H2 => wipe σ2 vs = wipe σ vs ∧ tt σ2 H2 fun b H3 =>
      if b = true then tk σ2 H3 fun y H4 => tv σ2 H4 fun z H5 => ∃ kvs k, y = kV k ∧ H5 D = some (.dK kvs) ∧ kvs.length < sizeLine ∧ Pv (i + 1) (upd H5 D (.dK (putK kvs k z))) else Pv (i + 1) H3) (fin : ∀ H, Pv n H → Qd H) :
    ∃ W : Nat → Nat → Hp → Prop, (∃ m, W 0 m (upd H1 D (.dK []))) ∧ ∀ i m H, W i m H →
      (J.stop i H ∧ Qd H) ∨ (J.go i H ∧ ∃ Nx : Hp → Prop, (∀ H', Nx H' → ∃ m', m' < m ∧ W (i + 1) m' H') ∧ ∀ x H', J.yld i H x H' → g x (wipe σ vs) H' fun σ2 H2 => wipe σ2 vs = wipe σ vs ∧ tt σ2 H2 fun b H3 =>
        if b = true then tk σ2 H3 fun y H4 => tv σ2 H4 fun z H5 => ∃ kvs k, y = kV k ∧ H5 D = some (.dK kvs) ∧ kvs.length < sizeLine ∧ Nx (upd H5 D (.dK (putK kvs k z))) else Nx H3) := by
  refine ⟨fun i m H => m = n - i ∧ i ≤ n ∧ Pv i H, ⟨n, by simp, Nat.zero_le _, start⟩, ?_⟩
  rintro i m H ⟨rfl, hi, p⟩
  by_cases lt : i < n
  · exact .inr ⟨wk.goes i H lt (hG i H hi p), Pv (i + 1), fun H' p' => ⟨n - (i + 1), by omega, rfl, lt, p'⟩, fun x H' y => turn i x H H' lt p (wk.yields i H x H' lt (hG i H hi p) y)⟩
  · have e : i = n := by omega
    subst e
    exact .inl ⟨wk.stops H (hG _ H hi p), fin H p⟩
theorem RowsAt.ok {H : Hp} {ends dots : List Str} {rows : List (Str × V)} {o n : Str → List (Str × V)} (h : RowsAt H ends dots rows o n) (hk : rows.map (·.1) = ends) (nd : ends.Nodup) : RowsOk H dots rows := fun q hq => by
  obtain ⟨i, hi, rfl⟩ := List.getElem_of_mem hq
  have ge : ends[i]? = some rows[i].1 := by rw [← hk, List.getElem?_map, List.getElem?_eq_getElem hi]; rfl
  obtain ⟨p, po, pn, hv, pa⟩ := h rows[i].1 (List.mem_of_getElem? ge)
  have h1 := tkv_at hk nd ge hv
  unfold tkv at h1
  rw [List.map_map, List.getElem?_map, List.getElem?_eq_getElem hi] at h1
  exact ⟨p, po, pn, _, _, Option.some.inj h1, pa⟩
/-- new tables, told by their addresses: goal, pair, old, new -/
def tabRs (T : List (Str × Addr × Addr × Addr)) : List (Str × V) := T.map fun t => (t.1, V.ref t.2.1)
theorem tabRs_keys (T : List (Str × Addr × Addr × Addr)) : (tabRs T).map (·.1) = T.map (·.1) := by
  unfold tabRs
  rw [List.map_map]
  rfl
structure TabsAt (H0 H : Hp) (D : Addr) (T : List (Str × Addr × Addr × Addr)) (ends dots : List Str) (o n : Str → List (Str × V)) : Prop where
  hd : H D = some (.dK (tkv (tabRs T)))
  ks : T.map (·.1) = ends
  pa : ∀ t ∈ T, PairAt H dots t.1 t.2.1 t.2.2.1 t.2.2.2 (o t.1) (n t.1) ∧ H0 t.2.1 = none ∧ H0 t.2.2.1 = none ∧ H0 t.2.2.2 = none
  nd : (D :: T.flatMap fun t => [t.2.2.1, t.2.2.2]).Nodup
theorem TabsAt.get {H0 H : Hp} {D : Addr} {T : List (Str × Addr × Addr × Addr)} {ends dots : List Str} {o n : Str → List (Str × V)} (h : TabsAt H0 H D T ends dots o n) (en : ends.Nodup) {t : Str × Addr × Addr × Addr} (ht : t ∈ T) : valV (tkv (tabRs T)) (Sum.inr t.1) = some (.ref t.2.1) := by
  have ks := h.ks
  clear h
  induction T generalizing ends with
  | nil => cases ht
  | cons u T ih =>
    subst ks
    obtain ⟨h1, h2⟩ := List.nodup_cons.mp en
    show valV ((Sum.inr u.1, V.ref u.2.1) :: tkv (tabRs T)) (Sum.inr t.1) = _
    rcases List.mem_cons.mp ht with rfl | ht
    · exact valV_pos (p := ((Sum.inr t.1 : Key), V.ref t.2.1)) rfl
    · rw [valV_neg (fun e => h1 (by have e' : u.1 = t.1 := Sum.inr.inj e; show u.1 ∈ T.map (·.1); rw [e']; exact List.mem_map_of_mem ht))]
      exact ih h2 ht rfl
theorem TabsAt.rows {H0 H : Hp} {D : Addr} {T : List (Str × Addr × Addr × Addr)} {ends dots : List Str} {o n : Str → List (Str × V)} (h : TabsAt H0 H D T ends dots o n) (en : ends.Nodup) : RowsAt H ends dots (tabRs T) o n := fun e he => by
  rw [← h.ks] at he
  obtain ⟨t, ht, rfl⟩ := List.mem_map.mp he
  exact ⟨_, _, _, h.get en ht, (h.pa t ht).1⟩
section
variable {P : Program} {w : World} {K : PySem.W.Frag} {mg : Str → Option Value} {base : Heap}
def spTabs (C : Addr) : Sp := fun vs H Q _ => ∃ (m : Addr) (ends dots ss ps : List Str) (o n : Str → List (Str × V)), vs = [.ref m] ∧ NetAt C H m ends dots ss ps o n ∧ 0 < ends.length ∧ ends.length ≤ 100 ∧ ends.Nodup ∧
  ∀ D T H', Evl.Ex H H' → H D = none → TabsAt H H' D T ends dots (fun e => canon dots (o e)) (fun e => canon dots (n e)) → Q (.ref D) H'
abbrev nTabs : List Str := ["self", "goal", "old", "new"]
theorem sc_tabs : FnScope nTabs ["self"] (defScope c_Net_tables) := ⟨rfl, rfl, rfl, by decide +kernel, rfl, by decide +kernel, by decide +kernel⟩
theorem ok_tabs {f C : Addr} {fd : FuncData} (F : Fun K "tables" "Net.tables" c_Net_tables f fd) (T : NetTxt K C) (mDict : mg "dict" = none) : FnOk P w K mg base CX0 1 f fd ["self"] (spTabs C) := by
  refine F.ok sc_tabs (fun vs H Q E h => ?_) (fun cdv A outer s H vs Q E hr h => ?_)
  · obtain ⟨m, ends, dots, ss, ps, o, n, rfl, _⟩ := h
    rfl
  · obtain ⟨m, ends, dots, ss, ps, o, n, rfl, N, e0, few, en, k⟩ := h
    have nd := sc_tabs.nd
    refine ⟨_, pss_one (ps_ret (pe_lock (pe_dc (own := [("goal", 1), ("old", 2), ("new", 3)]) (g := gTup K 2 (gCons (gName 1) (gCons (gTup K 2 (gCons (gName 2) (gCons (gName 3) gNil))) gNil))) (tt := tYes) (tk := tVar 1) rfl nd (pi_items (pe_fld (pv 0) rfl))
      (blkOk_by (own := [("goal", 1), ("old", 2), ("new", 3)]) (N := nTabs) (sc := defScope c_Net_tables) (by decide +kernel))
      (fun _ _ _ _ _ => pg_tup rfl (pgs_cons (pg_name (i := 1) nd rfl (Or.inl rfl)) (pgs_cons (pg_tup rfl (pgs_cons (pg_name (i := 2) nd rfl (Or.inl rfl)) (pgs_cons (pg_name (i := 3) nd rfl (Or.inl rfl)) pgs_nil))) pgs_nil)))
      (fun _ _ _ _ _ => pts_nil) (fun _ _ _ _ _ => pv 1)
      (fun _ _ _ _ _ => pe_tup (pa_cons (pe_callTy call_dictD (by rfl) mDict (by decide +kernel) (pa_cons (pv 2) pa_nil)) (pa_cons (pe_callTy call_dictD (by rfl) mDict (by decide +kernel) (pa_cons (pv 3) pa_nil)) pa_nil)))))), ?_⟩
    obtain ⟨dx, T', N', S, Po, rows, h1, h2, h3, h4, h5, h6, h7⟩ := N.ex
    have rl : rows.length = ends.length := by rw [← h6, List.length_map]
    have rne : rows ≠ [] := fun z => by rw [z] at rl; simp at rl; omega
    have ro := h7.ok h6 en
    refine ⟨T', .dK (tkv rows), h2, trivial, fun od => ?_⟩
    have locked : (upd H T' (.frz od (.dK (tkv rows)))) T' = some (.frz od (.dK (tkv rows))) := upd_same
    have up : ∀ {a : Addr} {u : HO}, H a = some u → a ≠ T' → (upd H T' (.frz od (.dK (tkv rows)))) a = some u := fun {a u} h ne => by rw [upd_ne ne]; exact h
    have back : ∀ {H4 : Hp}, Evl.Ex (upd H T' (.frz od (.dK (tkv rows)))) H4 → Evl.Ex H (upd H4 T' (.dK (tkv rows))) := fun {H4} e a u h => by
      by_cases q : a = T'
      · subst q
        rw [upd_same, ← h2, h]
      · rw [upd_ne q]
        exact e _ _ (by rw [upd_ne q]; exact h)
    generalize upd H T' (.frz od (.dK (tkv rows))) = HL at locked up back
    refine ⟨.ref m, rfl, m, C, dx, _, .ref T', rfl, up h1 (ne_of h1 h2 (by intro z; cases z)), T.cl, T.nT, nflds_tables _ _ _ _, T', od, _, rfl, locked, fun D hD => dc_it walk_items
      (fun i H' => i ≤ ends.length ∧ Evl.Ex HL H' ∧ ∃ rs : List (Str × Addr × Addr × Addr), H' D = some (.dK (tkv (tabRs rs))) ∧ rs.map (·.1) = ends.take i ∧
        (∀ q ∈ rs, PairAt H' dots q.1 q.2.1 q.2.2.1 q.2.2.2 (canon dots (o q.1)) (canon dots (n q.1)) ∧ HL q.2.1 = none ∧ HL q.2.2.1 = none ∧ HL q.2.2.2 = none) ∧ (D :: rs.flatMap fun t => [t.2.2.1, t.2.2.2]).Nodup)
      ⟨Nat.zero_le _, Evl.Ex.new hD, [], upd_same, rfl, (fun q hq => by cases hq), List.nodup_cons.mpr ⟨by simp, List.nodup_nil⟩⟩ (fun i H' _ h => h.2.1 _ _ locked) ?_ ?_⟩
    · rintro i x H4 H4' hi ⟨_, x4, rs, d4, hk, hpr, hnd⟩ ⟨Tt, xk, xv, rfl, hTt, rfl, hxk, hxv⟩
      rw [tkv_len, rl] at hi
      have gi : ends[i]? = some ends[i] := List.getElem?_eq_getElem hi
      obtain ⟨p, po, pn, hv, pa⟩ := h7 ends[i] (List.getElem_mem hi)
      have ev : xv = .ref p := by
        have z := tkv_at h6 en gi hv
        rw [List.getElem?_map] at z
        exact Option.some.inj (hxv.symm.trans z)
      have ek : xk = .str ends[i] := by
        have z : ((tkv rows).map fun kv => kV kv.1)[i]? = some (.str ends[i]) := by rw [tkv_keysV, h6, List.getElem?_map, gi]; rfl
        rw [List.getElem?_map] at z
        exact Option.some.inj (hxk.symm.trans z)
      subst ev ek
      have n1 : p ≠ T' := ne_of pa.hp h2 (by intro z; cases z)
      have n2 : po ≠ T' := tab_ne h2 ro rne pa.ho pa.o1
      have n3 : pn ≠ T' := tab_ne h2 ro rne pa.hn pa.o2
      have y1 : Evl.Ex H4 (upd H4 Tt (.tup [.str ends[i], .ref p])) := Evl.Ex.new hTt
      have t1 : (upd H4 Tt (.tup [.str ends[i], .ref p])) Tt = some (.tup [.str ends[i], .ref p]) := upd_same
      generalize upd H4 Tt (.tup [.str ends[i], .ref p]) = H5 at y1 t1
      have x5 := x4.trans y1
      have zn : ends[i] ∉ ends.take i := fun hm => by
        have q1 : (ends.take (i + 1)).Nodup := en.sublist (List.take_sublist _ _)
        rw [List.take_add_one, gi] at q1
        exact (List.nodup_append.mp q1).2.2 _ hm _ (List.mem_singleton.mpr rfl) rfl
      refine ⟨Tt, _, rfl, Evl.st_of t1, rfl, _, _, rfl, _, [], rfl, p, _, rfl, Evl.st_of (x5 _ _ (up pa.hp n1)), rfl, _, _, rfl, _, [], rfl, rfl, rfl, rfl, ?_⟩
      refine yes_if ?_
      refine ⟨.str ends[i], rfl, .ref po, rfl, po, _, rfl, .inl (x5 _ _ (up pa.ho n2)), fun po' hpo' => ?_⟩
      have y2 : Evl.Ex H5 (upd H5 po' (.dK (tkv (canon dots (o ends[i]))))) := Evl.Ex.new hpo'
      have q2 : (upd H5 po' (.dK (tkv (canon dots (o ends[i]))))) po' = some (.dK (tkv (canon dots (o ends[i])))) := upd_same
      have f2 : H4 po' = none := by
        cases z : H4 po' with
        | none => rfl
        | some u => rw [y1 _ _ z] at hpo'; cases hpo'
      generalize upd H5 po' (.dK (tkv (canon dots (o ends[i])))) = H6 at y2 q2
      refine ⟨.ref pn, rfl, pn, _, rfl, .inl ((x5.trans y2) _ _ (up pa.hn n3)), fun pn' hpn' => ⟨by show 2 ≤ sizeLine; decide, fun p' hp' => ?_⟩⟩
      have y3 : Evl.Ex H6 (upd (upd H6 pn' (.dK (tkv (canon dots (n ends[i]))))) p' (.tup [.ref po', .ref pn'])) := (Evl.Ex.new hpn').trans (Evl.Ex.new hp')
      have q3 : (upd (upd H6 pn' (.dK (tkv (canon dots (n ends[i]))))) p' (.tup [.ref po', .ref pn'])) pn' = some (.dK (tkv (canon dots (n ends[i])))) := Evl.Ex.new hp' _ _ upd_same
      have q1 : (upd (upd H6 pn' (.dK (tkv (canon dots (n ends[i]))))) p' (.tup [.ref po', .ref pn'])) p' = some (.tup [.ref po', .ref pn']) := upd_same
      have f3 : H4 pn' = none := by
        cases z : H4 pn' with
        | none => rfl
        | some u => rw [(y1.trans y2) _ _ z] at hpn'; cases hpn'
      generalize upd (upd H6 pn' (.dK (tkv (canon dots (n ends[i]))))) p' (.tup [.ref po', .ref pn']) = H7 at y3 q3 q1
      have x7 := x5.trans (y2.trans y3)
      have d7 := (y1.trans (y2.trans y3)) _ _ d4
      have q2' := y3 _ _ q2
      have l4 := x4 _ _ locked
      have back4 : ∀ {a : Addr}, H4 a = none → HL a = none := fun {a} h => by
        cases z : HL a with
        | none => rfl
        | some u => rw [x4 _ _ z] at h; cases h
      have f1 : H4 p' = none := by
        cases z : H4 p' with
        | none => rfl
        | some u =>
          have w6 : Evl.Ex H4 (upd H6 pn' (.dK (tkv (canon dots (n ends[i]))))) := (y1.trans y2).trans (Evl.Ex.new hpn')
          rw [w6 _ _ z] at hp'
          cases hp'
      have rsl : rs.length ≤ 100 := by
        have := congrArg List.length hk
        rw [List.length_map, List.length_take] at this
        omega
      -- what was made stands apart
      have apart : ∀ a ∈ D :: rs.flatMap (fun t => [t.2.2.1, t.2.2.2]), (H4 a).isSome = true := fun a ha => by
        rcases List.mem_cons.mp ha with rfl | ha
        · rw [d4]; rfl
        · obtain ⟨t, ht, ha⟩ := List.mem_flatMap.mp ha
          have pt := (hpr t ht).1
          rcases List.mem_cons.mp ha with rfl | ha
          · rw [pt.ho]; rfl
          · rw [List.mem_singleton.mp ha, pt.hn]; rfl
      have no_po : po' ∉ D :: rs.flatMap fun t => [t.2.2.1, t.2.2.2] := fun m => by
        have := apart _ m
        rw [f2] at this
        cases this
      have no_pn : pn' ∉ D :: rs.flatMap fun t => [t.2.2.1, t.2.2.2] := fun m => by
        have := apart _ m
        rw [f3] at this
        cases this
      have n_on : po' ≠ pn' := ne_of_none q2 hpn'
      have m1 : p' ≠ D := ne_of q1 d7 (by intro z; cases z)
      have m2 : po' ≠ D := (ne_of_none d4 f2).symm
      have m3 : pn' ≠ D := (ne_of_none d4 f3).symm
      have et : tabRs (rs ++ [(ends[i], p', po', pn')]) = tabRs rs ++ [(ends[i], V.ref p')] := by unfold tabRs; rw [List.map_append]; rfl
      have lenR : (tkv (tabRs rs)).length ≤ 100 := by rw [tkv_len]; unfold tabRs; rw [List.length_map]; exact rsl
      refine ⟨_, Sum.inr ends[i], rfl, d7, small1000 (by omega), hi, x7.mut hD, rs ++ [(ends[i], p', po', pn')], ?_, ?_, ?_, ?_⟩
      · rw [upd_same, tkv_new (by rw [tabRs_keys, hk]; exact zn), et]
      · rw [List.map_append, hk, List.take_add_one, gi]
        rfl
      · have keep : ∀ {a : Addr} {u : HO}, H7 a = some u → a ≠ D → (upd H7 D (.dK (putK (tkv (tabRs rs)) (Sum.inr ends[i]) (V.ref p')))) a = some u := fun {a u} h ne => by rw [upd_ne ne]; exact h
        intro q hq
        rcases List.mem_append.mp hq with hq | hq
        · obtain ⟨pa1, z1, z2, z3⟩ := hpr q hq
          have pw := pa1.ex (y1.trans (y2.trans y3))
          have ne2 : q.2.2.1 ≠ D := fun e => (List.nodup_cons.mp hnd).1 (e ▸ List.mem_flatMap.mpr ⟨q, hq, List.mem_cons_self⟩)
          have ne3 : q.2.2.2 ≠ D := fun e => (List.nodup_cons.mp hnd).1 (e ▸ List.mem_flatMap.mpr ⟨q, hq, List.mem_cons_of_mem _ List.mem_cons_self⟩)
          exact ⟨⟨keep pw.hp (ne_of pw.hp d7 (by intro z; cases z)), keep pw.ho ne2, keep pw.hn ne3, pw.o1, pw.o2⟩, z1, z2, z3⟩
        · rw [List.mem_singleton.mp hq]
          exact ⟨⟨keep q1 m1, keep q2' m2, keep q3 m3, pa.o1, pa.o2⟩, back4 f1, back4 f2, back4 f3⟩
      · rw [List.flatMap_append]
        show ((D :: rs.flatMap _) ++ [po', pn']).Nodup
        refine List.nodup_append.mpr ⟨hnd, List.nodup_cons.mpr ⟨by simpa using n_on, List.nodup_cons.mpr ⟨by simp, List.nodup_nil⟩⟩, fun a ha b hb e => ?_⟩
        subst e
        rcases List.mem_cons.mp hb with rfl | hb
        · exact no_po ha
        · rw [List.mem_singleton.mp hb] at ha
          exact no_pn ha
    · rintro H4 ⟨_, x4, rs, d4, hk, hpr, hnd⟩
      rw [tkv_len, rl, List.take_length] at hk
      refine ⟨x4 _ _ locked, ?_⟩
      have nDT : D ≠ T' := (ne_of_none locked hD).symm
      have old : ∀ {a : Addr}, HL a = none → H a = none := fun {a} h => by
        by_cases e : a = T'
        · rw [e, locked] at h; cases h
        · cases z : H a with
          | none => rfl
          | some u => rw [up z e] at h; cases h
      have offT : ∀ {a : Addr}, HL a = none → a ≠ T' := fun {a} h e => by rw [e, locked] at h; cases h
      refine k D rs _ (back x4) (old hD) ⟨by rw [upd_ne nDT]; exact d4, hk, fun t ht => ?_, hnd⟩
      obtain ⟨pa1, z1, z2, z3⟩ := hpr t ht
      exact ⟨⟨by rw [upd_ne (offT z1)]; exact pa1.hp, by rw [upd_ne (offT z2)]; exact pa1.ho, by rw [upd_ne (offT z3)]; exact pa1.hn, pa1.o1, pa1.o2⟩, old z1, old z2, old z3⟩
end
end Rw
end T_Y0

section T_N4
set_option Elab.async false
set_option linter.all false
set_option maxRecDepth 100000
set_option maxHeartbeats 4000000
namespace Rw
open PySem L2 PyProof.Rows
/-- a lot of these names stands at a -/
structure LotAt (H : Hp) (a : Addr) (zs ys : List Str) : Prop where
  ha : H a = some (.tup (zs.map V.str))
  sub : ∀ z ∈ zs, z ∈ ys
  nd : zs.Nodup
  so : sortedS zs = true
  nm : ∀ z ∈ zs, Nm z
  few : zs.length ≤ 60
theorem LotAt.ex {H H' : Hp} {a : Addr} {zs ys : List Str} (h : LotAt H a zs ys) (e : Evl.Ex H H') : LotAt H' a zs ys := ⟨e _ _ h.ha, h.sub, h.nd, h.so, h.nm, h.few⟩
theorem shaped_tup {ds : List PyData} (h1 : PyData.canLayAll0 ds = true) (h2 : PyData.depthAll ds ≤ 60) : SeqAt.shaped (.tuple ds) = true := by
  unfold SeqAt.shaped
  rw [show PyData.canLay0 (.tuple ds) = PyData.canLayAll0 ds from rfl, h1, show PyData.depth (.tuple ds) = PyData.depthAll ds + 1 from rfl]
  exact decide_eq_true (show PyData.depthAll ds + 1 ≤ 64 by omega)
theorem any_falses (n : Nat) : (List.replicate n false).any id = false := by
  induction n with
  | zero => rfl
  | succ n ih => rw [List.replicate_succ, List.any_cons, ih]; rfl
section
variable {P : Program} {w : World} {K : PySem.W.Frag} {mg : Str → Option Value} {base : Heap}
def spLotOf : Sp := fun vs H Q _ => ∃ (a b : Addr) (zs ys : List Str), vs = [.ref a, .ref b] ∧ LotAt H a zs ys ∧ H b = some (.tup (ys.map V.str)) ∧ ∀ H', Evl.Ex H H' → Q (.bl true) H'
abbrev nLotOf : List Str := ["value", "nodes", "node"]
theorem sc_lot_of : FnScope nLotOf ["value", "nodes"] (defScope p_is_lot_of) := ⟨rfl, rfl, rfl, by decide +kernel, rfl, by decide +kernel, by decide +kernel⟩
theorem ok_lot_of {f : Addr} {fd : FuncData} (F : Fun K "is_lot_of" "is_lot_of" p_is_lot_of f fd) (mIsi : mg "isinstance" = none) (mTup : mg "tuple" = none) (mAll : mg "all" = none) (mSorted : mg "sorted" = none) (mSet : mg "set" = none) : FnOk P w K mg base CX0 1 f fd ["value", "nodes"] spLotOf := by
  refine F.ok sc_lot_of (fun vs H Q E h => ?_) (fun cdv A outer s H vs Q E hr h => ?_)
  · obtain ⟨a, b, zs, ys, rfl, _⟩ := h
    rfl
  · obtain ⟨a, b, zs, ys, rfl, L, hb, k⟩ := h
    have nd := sc_lot_of.nd
    refine ⟨_, pss_cons (ps_if (PW.pt (pw_or (pt_not (pt_val (pe_callB call_isi (by rfl) mIsi (by decide +kernel) (pa_cons (pv 0) (pa_cons (pe_bltn (v := .ty "tuple") (by rfl) mTup (by decide +kernel) rfl) pa_nil)))))
          (pw_or1 (pt_not (pt_val (pe_callB (cr_all rfl) (by rfl) mAll (by decide +kernel) (pa_cons (pe_lc (own := [("node", 2)]) (g := gName 2) (tt := tYes) (te := tOp (rIn K false) (tVar 2) (tVar 1)) rfl nd (pi_tup (pv 0)) (blkOk_by (own := [("node", 2)]) (N := nLotOf) (sc := defScope p_is_lot_of) (by decide +kernel))
            (fun _ _ _ _ _ => pg_name (i := 2) nd rfl (Or.inl rfl)) (fun _ _ _ _ _ => pts_nil) (fun _ _ _ _ _ => pe_cmpR op_in_seq (pv 2) (pv 1) rfl)) pa_nil))))))) (pss_one (ps_ret pe_bl)) pss_nil)
      (pss_one (ps_ret (pe_cmpR (op_eqD hr.units) (pv 0) (pe_callTy call_tuple_of (by rfl) mTup (by decide +kernel) (pa_cons (pe_callB (cr_sortedX rfl) (by rfl) mSorted (by decide +kernel) (pa_cons (pe_callTy (cr_setX rfl) (by rfl) mSet (by decide +kernel) (pa_cons (pv 0) pa_nil)) pa_nil)) pa_nil)) (nomark _)))), ?_⟩
    have few := L.few
    refine ⟨.ref a, rfl, .ref a, .ty "tuple", _, _, true, rfl, .ty _, .base (.tup L.ha), kit_ty (by decide +kernel), true, rfl, ?_⟩
    refine ⟨.ref a, rfl, a, rfl, ⟨_, Evl.st_of L.ha⟩, fun D hD => lc_truesT (Evl.st_of L.ha) hD (by rw [List.length_map]; omega) (fun i x H1 Q1 R hi e1 go => ?_) (fun H1 e1 d1 => ?_)⟩
    · obtain ⟨z, hz, rfl⟩ := str_at hi
      refine ⟨rfl, ?_⟩
      refine yes_if ?_
      refine ⟨.str z, rfl, .ref b, rfl, b, ys.map V.str, rfl, .inr (Evl.st_of (e1 _ _ hb)), rfl, flat_strs ys, ?_⟩
      rw [inV_str, decide_eq_true (L.sub z (List.mem_of_getElem? hz))]
      exact go _ (Evl.Ex.refl _)
    · refine ⟨D, _, rfl, Evl.sq_of d1, ?_⟩
      rw [all_trues]
      refine ⟨true, rfl, ?_⟩
      -- value == tuple(sorted(set(value)))
      refine ⟨.ref a, rfl, .ref a, rfl, a, zs, rfl, .inr (Evl.st_of (e1 _ _ L.ha)), by omega, fun p hp => ?_⟩
      have e3 := Evl.Ex.new (o := SetXO w p (seen zs)) hp
      refine ⟨p, seen zs, rfl, upd_same, by rw [seen_len L.nd]; omega, fun ws l hws hso hl => ?_⟩
      have ew : ws = zs := sorted_uniq hso L.so (hws.trans (seen_perm L.nd))
      subst ew
      have e4 := Evl.Ex.new (o := HO.lst (ws.map V.str)) hl
      refine ⟨l, _, rfl, .inl ⟨Evl.sq_of upd_same, fun t ht => ?_⟩⟩
      have e5 := Evl.Ex.new (o := HO.tup (ws.map V.str)) ht
      have x := e1.trans (e3.trans (e4.trans e5))
      obtain ⟨ds, g1, g2, g3, _⟩ := data_all (K := K) (H := H) (ws.map V.str) fun v hv => by
        obtain ⟨z, hz, rfl⟩ := List.mem_map.mp hv
        exact strV_data (nm_ok (L.nm z hz))
      refine ⟨.tuple ds, .tuple ds, .tup (Evl.st_of (x _ _ L.ha)) (dpa_ex x ds _ g1), .tup (Evl.st_of upd_same) (dpa_ex x ds _ g1), shaped_tup g2 g3, shaped_tup g2 g3, ?_⟩
      rw [show PyData.eqv (.tuple ds) (.tuple ds) = true from PySem.SeqAt.eqv_refl _ g2]
      exact k _ x
/-! ### check_lot, check_round -/
def spCheckLot (C : Addr) : Sp := fun vs H Q _ => ∃ (m a : Addr) (t : V) (zs ends dots ss ps : List Str) (o n : Str → List (Str × V)), vs = [.ref m, .ref a, t] ∧ NetAt C H m ends dots ss ps o n ∧ ends.length ≤ 100 ∧ dots.length ≤ 100 ∧ ends.Nodup ∧ LotAt H a zs (moving ends dots o n) ∧ ∀ H', Evl.Ex H H' → Q .non H'
theorem sc_check_lot : FnScope ["net", "lot", "part"] ["net", "lot", "part"] (defScope p_check_lot) := ⟨rfl, rfl, rfl, by decide +kernel, rfl, by decide +kernel, by decide +kernel⟩
theorem ok_check_lot {f C : Addr} {fd : FuncData} (F : Fun K "check_lot" "check_lot" p_check_lot f fd) (T : NetTxt K C) (Pg : Prp P w K mg base C 2 "changing" (spChanging C)) (Cl : Cal P w K mg base 1 "is_lot_of" ["value", "nodes"] spLotOf) : FnOk P w K mg base CX0 4 f fd ["net", "lot", "part"] (spCheckLot C) := by
  obtain ⟨p1, g1, fd1, at1, F1, b1⟩ := Pg.ex
  obtain ⟨f2, fd2, F2, k2, b2, g2⟩ := Cl.ex
  refine F.ok sc_check_lot (fun vs H Q E h => ?_) (fun cdv A outer s H vs Q E hr h => ?_)
  · obtain ⟨m, a, t, zs, ends, dots, ss, ps, o, n, rfl, _⟩ := h
    rfl
  · obtain ⟨m, a, t, zs, ends, dots, ss, ps, o, n, rfl, N, l1, l2, en, L, k⟩ := h
    have hr1 : Room 1 _ := hr.mono (by decide)
    refine ⟨_, pss_one (ps_if (pt_not (pt_val (pe_call F2 hr1 rfl g2 k2 b2 .nil pass0 (pa_cons (pv 1) (pa_cons (pe_prop (pv 0) T.cl at1 F1 hr b1 .nil pass0 rfl) pa_nil))))) (pss_one ps_never) pss_nil), ?_⟩
    have N2 := N
    obtain ⟨dx, T', N', S, Po, rows, h1, h2, h3, h4, h5, h6, h7⟩ := N.ex
    refine ⟨.ref a, rfl, .ref m, rfl, m, dx, _, rfl, h1, m, ends, dots, ss, ps, o, n, rfl, N2, l1, l2, en, fun p H1 x1 hp hp1 => ?_⟩
    exact ⟨a, p, zs, _, rfl, L.ex x1, hp1, fun H2 x2 => ⟨true, rfl, k _ (x1.trans x2)⟩⟩
def spRound (C : Addr) : Sp := fun vs H Q _ => ∃ (m a b : Addr) (t : Str) (zs ys ends dots ss ps : List Str) (o n : Str → List (Str × V)), vs = [.ref m, .ref a, .ref b, .str t] ∧ NetAt C H m ends dots ss ps o n ∧ ends.length ≤ 100 ∧ dots.length ≤ 100 ∧ ends.Nodup ∧
  LotAt H a zs (moving ends dots o n) ∧ LotAt H b ys (moving ends dots o n) ∧ (∀ y ∈ ys, y ∉ zs) ∧ ∀ H', Evl.Ex H H' → Q .non H'
abbrev nRound : List Str := ["net", "done", "lot", "part", "node"]
theorem sc_round : FnScope nRound ["net", "done", "lot", "part"] (defScope p_check_round) := ⟨rfl, rfl, rfl, by decide +kernel, rfl, by decide +kernel, by decide +kernel⟩
theorem ok_check_round {f C : Addr} {fd : FuncData} (F : Fun K "check_round" "check_round" p_check_round f fd) (C1 : Cal P w K mg base 1 "check_net" ["net"] (spCheckNet C)) (C2 : Cal P w K mg base 4 "check_lot" ["net", "lot", "part"] (spCheckLot C)) (mAny : mg "any" = none) : FnOk P w K mg base CX0 5 f fd ["net", "done", "lot", "part"] (spRound C) := by
  obtain ⟨f1, fd1, F1, k1, b1, g1⟩ := C1.ex
  obtain ⟨f2, fd2, F2, k2, b2, g2⟩ := C2.ex
  refine F.ok sc_round (fun vs H Q E h => ?_) (fun cdv A outer s H vs Q E hr h => ?_)
  · obtain ⟨m, a, b, t, zs, ys, ends, dots, ss, ps, o, n, rfl, _⟩ := h
    rfl
  · obtain ⟨m, a, b, t, zs, ys, ends, dots, ss, ps, o, n, rfl, N, l1, l2, en, La, Lb, dis, k⟩ := h
    have nd := sc_round.nd
    have hr1 : Room 1 _ := hr.mono (by decide)
    refine ⟨_, pss_cons (ps_expr (pe_call F1 hr1 rfl g1 k1 b1 .nil pass0 (pa_cons (pv 0) pa_nil)))
      (pss_cons (ps_expr (pe_call F2 hr rfl g2 k2 b2 .nil pass0 (pa_cons (pv 0) (pa_cons (pv 1) (pa_cons pe_str pa_nil)))))
      (pss_cons (ps_expr (pe_call F2 hr rfl g2 k2 b2 .nil pass0 (pa_cons (pv 0) (pa_cons (pv 2) (pa_cons (pv 3) pa_nil)))))
      (pss_one (ps_if (pt_val (pe_callB (cr_any rfl) (by rfl) mAny (by decide +kernel) (pa_cons (pe_lc (own := [("node", 4)]) (g := gName 4) (tt := tYes) (te := tOp (rIn K false) (tVar 4) (tVar 1)) rfl nd (pi_tup (pv 2)) (blkOk_by (own := [("node", 4)]) (N := nRound) (sc := defScope p_check_round) (by decide +kernel))
            (fun _ _ _ _ _ => pg_name (i := 4) nd rfl (Or.inl rfl)) (fun _ _ _ _ _ => pts_nil) (fun _ _ _ _ _ => pe_cmpR op_in_seq (pv 4) (pv 1) rfl)) pa_nil))) (pss_one ps_never) pss_nil)))), ?_⟩
    have few := Lb.few
    refine ⟨.ref m, rfl, m, ends, dots, ss, ps, o, n, rfl, N, ?_⟩
    refine ⟨.ref m, rfl, .ref a, rfl, m, a, _, zs, ends, dots, ss, ps, o, n, rfl, N, l1, l2, en, La, fun H1 x1 => ?_⟩
    refine ⟨.ref m, rfl, .ref b, rfl, .str t, rfl, m, b, _, ys, ends, dots, ss, ps, o, n, rfl, N.to x1, l1, l2, en, Lb.ex x1, fun H2 x2 => ?_⟩
    have x12 := x1.trans x2
    refine ⟨.ref b, rfl, b, rfl, ⟨_, Evl.st_of (x12 _ _ Lb.ha)⟩, fun D hD => lc_tup (K := K) (a := b) (xs := ys.map V.str) (fun i H' => i ≤ ys.length ∧ Evl.Ex H2 H' ∧ H' D = some (.lst ((List.replicate i false).map V.bl)))
      ⟨Nat.zero_le _, Evl.Ex.new hD, upd_same⟩ (fun i H' _ h => Evl.st_of (h.2.1 _ _ (x12 _ _ Lb.ha))) ?_ ?_⟩
    · rintro i x H3 hi ⟨_, x3, d3⟩
      obtain ⟨y, hy, rfl⟩ := str_at hi
      have hil : i < ys.length := (List.getElem?_eq_some_iff.mp hy).1
      refine ⟨rfl, ?_⟩
      refine yes_if ?_
      refine ⟨.str y, rfl, .ref a, rfl, a, zs.map V.str, rfl, .inr (Evl.st_of ((x12.trans x3) _ _ La.ha)), rfl, flat_strs zs, _, d3, by rw [List.length_map, List.length_replicate]; exact small1000 (by omega), hil, x3.mut hD, ?_⟩
      rw [inV_str, decide_eq_false (dis y (List.mem_of_getElem? hy)), upd_same, List.replicate_succ', List.map_append]
      rfl
    · rintro H3 ⟨_, x3, d3⟩
      refine ⟨D, _, rfl, Evl.sq_of d3, ?_⟩
      rw [any_falses]
      exact ⟨false, rfl, k _ (x12.trans x3)⟩
end
end Rw
end T_N4

section T_W0
set_option Elab.async false
set_option linter.all false
set_option maxRecDepth 100000
set_option maxHeartbeats 4000000
namespace Rw
open PySem L2 PyProof.Rows
/-! ### the places that a table leads to -/
/-- zs behind, v the place: on, up to one that is no key or came before -/
def track (tb : List (Str × V)) : Nat → List Str → V → List V
  | 0, zs, v => zs.map V.str ++ [v]
  | k + 1, zs, v => match v with
    | .str z => match valV (tkv tb) (Sum.inr z) with
      | some u => if z ∈ zs then zs.map V.str ++ [v] else track tb k (zs ++ [z]) u
      | none => zs.map V.str ++ [v]
    | _ => zs.map V.str ++ [v]
def walkOf (tb : List (Str × V)) (n : Nat) (z : Str) : List V := track tb n [] (.str z)
theorem track_non {tb : List (Str × V)} {k : Nat} {zs : List Str} : track tb k zs .non = zs.map V.str ++ [.non] := by cases k <;> rfl
theorem track_out {tb : List (Str × V)} {k : Nat} {zs : List Str} {z : Str} (h : valV (tkv tb) (Sum.inr z) = none) : track tb k zs (.str z) = zs.map V.str ++ [.str z] := by
  cases k with
  | zero => rfl
  | succ k => show (match valV (tkv tb) (Sum.inr z) with | some u => _ | none => _) = _; rw [h]
theorem track_ring {tb : List (Str × V)} {k : Nat} {zs : List Str} {z : Str} (h : z ∈ zs) : track tb k zs (.str z) = zs.map V.str ++ [.str z] := by
  cases k with
  | zero => rfl
  | succ k =>
    show (match valV (tkv tb) (Sum.inr z) with | some u => if z ∈ zs then zs.map V.str ++ [V.str z] else track tb k (zs ++ [z]) u | none => zs.map V.str ++ [V.str z]) = _
    cases valV (tkv tb) (Sum.inr z) with
    | none => rfl
    | some u => show (if z ∈ zs then _ else _) = _; rw [if_pos h]
theorem track_on {tb : List (Str × V)} {k : Nat} {zs : List Str} {z : Str} {u : V} (h : valV (tkv tb) (Sum.inr z) = some u) (hz : z ∉ zs) : track tb (k + 1) zs (.str z) = track tb k (zs ++ [z]) u := by
  show (match valV (tkv tb) (Sum.inr z) with | some u => if z ∈ zs then zs.map V.str ++ [V.str z] else track tb k (zs ++ [z]) u | none => zs.map V.str ++ [V.str z]) = _
  rw [h]
  show (if z ∈ zs then _ else _) = _
  rw [if_neg hz]
theorem iteF {A B : Prop} (h : B) : if false = true then A else B := by
  rw [if_neg (by decide)]
  exact h
/-- a place that can stand in a walk -/
def Spot (v : V) : Prop := v = .non ∨ ∃ y : Str, v = .str y ∧ Nm y
theorem place_spot {zs : List Str} {e z : Str} {v : V} (h : PlaceOk zs e z v) (hz : ∀ y ∈ zs, Nm y) (he : Nm e) : Spot v := by
  rcases h with rfl | rfl | ⟨y, hy, _, rfl⟩
  · exact .inl rfl
  · exact .inr ⟨e, rfl, he⟩
  · exact .inr ⟨y, rfl, hz y hy⟩
theorem track_spots {tb : List (Str × V)} (h : ∀ q ∈ tb, Spot q.2) : ∀ (k : Nat) (zs : List Str) (v : V), (∀ z ∈ zs, Nm z) → Spot v → ∀ u ∈ track tb k zs v, Spot u := by
  intro k
  have base : ∀ (zs : List Str) (v : V), (∀ z ∈ zs, Nm z) → Spot v → ∀ u ∈ zs.map V.str ++ [v], Spot u := fun zs v hz hv u hu => by
    rcases List.mem_append.mp hu with hu | hu
    · obtain ⟨z, hz', rfl⟩ := List.mem_map.mp hu
      exact .inr ⟨z, rfl, hz z hz'⟩
    · rw [List.mem_singleton.mp hu]
      exact hv
  induction k with
  | zero => exact base
  | succ k ih =>
    intro zs v hz hv u hu
    rcases hv with rfl | ⟨y, rfl, hy⟩
    · rw [track_non] at hu
      exact base zs .non hz (.inl rfl) u hu
    · cases q : valV (tkv tb) (Sum.inr y) with
      | none =>
        rw [track_out q] at hu
        exact base zs _ hz (.inr ⟨y, rfl, hy⟩) u hu
      | some w =>
        by_cases m : y ∈ zs
        · rw [track_ring m] at hu
          exact base zs _ hz (.inr ⟨y, rfl, hy⟩) u hu
        · rw [track_on q m] at hu
          refine ih (zs ++ [y]) w (fun z hz' => ?_) ?_ u hu
          · rcases List.mem_append.mp hz' with hz' | hz'
            · exact hz z hz'
            · rw [List.mem_singleton.mp hz']; exact hy
          · have hk : y ∈ tb.map (·.1) := by
              by_cases hm : y ∈ tb.map (·.1)
              · exact hm
              · rw [tkv_none hm] at q; cases q
            obtain ⟨w', h1, h2⟩ := tkv_some hk
            rw [q] at h1
            rw [Option.some.inj h1]
            exact h _ h2
theorem track_len {tb : List (Str × V)} : ∀ (k : Nat) (zs : List Str) (v : V), (track tb k zs v).length ≤ zs.length + k + 1 := by
  intro k
  induction k with
  | zero => intro zs v; show (zs.map V.str ++ [v]).length ≤ _; simp
  | succ k ih =>
    intro zs v
    have b : ∀ v : V, (zs.map V.str ++ [v]).length ≤ zs.length + (k + 1) + 1 := fun v => by simp
    cases v with
    | str y =>
      cases q : valV (tkv tb) (Sum.inr y) with
      | none => rw [track_out q]; exact b _
      | some w =>
        by_cases m : y ∈ zs
        · rw [track_ring m]; exact b _
        · rw [track_on q m]
          have := ih (zs ++ [y]) w
          rw [List.length_append, List.length_singleton] at this
          omega
    | _ => exact b _
/-- a table that leads from these names to places -/
structure LeadOk (dots : List Str) (tb : List (Str × V)) : Prop where
  ks : tb.map (·.1) = dots
  sp : ∀ q ∈ tb, Spot q.2
  nm : ∀ z ∈ dots, Nm z
theorem LeadOk.get {dots : List Str} {tb : List (Str × V)} {z : Str} (h : LeadOk dots tb) (hz : z ∈ dots) : ∃ v, valV (tkv tb) (Sum.inr z) = some v ∧ Spot v := by
  obtain ⟨v, h1, h2⟩ := tkv_some (tb := tb) (z := z) (by rw [h.ks]; exact hz)
  exact ⟨v, h1, h.sp _ h2⟩
section
variable {P : Program} {w : World} {K : PySem.W.Frag} {mg : Str → Option Value} {base : Heap}
def spFollowed : Sp := fun vs H Q _ => ∃ (t : Addr) (z : Str) (dots : List Str) (tb : List (Str × V)), vs = [.ref t, .str z] ∧ H t = some (.dK (tkv tb)) ∧ LeadOk dots tb ∧ dots.length ≤ 100 ∧ Nm z ∧
  ∀ p H', Evl.Ex H H' → H p = none → H' p = some (.lst (walkOf tb (dots.length + 1) z)) → Q (.ref p) H'
abbrev nFollowed : List Str := ["table", "node", "places"]
theorem sc_followed : FnScope nFollowed ["table", "node"] (defScope p_followed) := ⟨rfl, rfl, rfl, by decide +kernel, rfl, by decide +kernel, by decide +kernel⟩
theorem ok_followed {f : Addr} {fd : FuncData} (F : Fun K "followed" "followed" p_followed f fd) : FnOk P w K mg base CX0 1 f fd ["table", "node"] spFollowed := by
  refine F.ok sc_followed (fun vs H Q E h => ?_) (fun cdv A outer s H vs Q E hr h => ?_)
  · obtain ⟨t, z, dots, tb, rfl, _⟩ := h
    rfl
  · obtain ⟨t, z, dots, tb, rfl, ht, L, few, hz, k⟩ := h
    have nd := sc_followed.nd
    have hu := hu_of hr
    refine ⟨_, pss_cons (ps_set (i := 2) nd rfl (.inl rfl) (pe_lst (pa_cons (pv 1) pa_nil)))
      (pss_cons (ps_while PassesOwn.never (PW.pt (pw_and (pt_cmp (pc_dinN hu (pe_ix ix_list (pv 2) (pe_un un_neg pe_int) (fun _ _ => rfl)) (pv 0)) rfl)
          (pw_and1 (pt_cmpR op_notIn_seq (pe_ix ix_list (pv 2) (pe_un un_neg pe_int) (fun _ _ => rfl)) (pe_slice sl_list (pv 2) po_none (po_some (pe_un un_neg pe_int))) rfl))))
        (pss_one (ps_expr (pe_bm PySem.F.plainAttrs_list PySem.F.slot_list_append PySem.F.type_list_append mt_append (pv 2)
          (pa_cons (pe_dget hu (pv 0) (pe_ix ix_list (pv 2) (pe_un un_neg pe_int) (fun _ _ => rfl)) (fun _ _ => rfl)) pa_nil)))))
      (pss_one (ps_ret (pv 2)))), ?_⟩
    refine ⟨.str z, rfl, by show 1 ≤ sizeLine; decide, fun p hp => ?_⟩
    refine ⟨fun m σ H' => ∃ (zs : List Str) (v : V), σ = [some (.ref t), some (.str z), some (.ref p)] ∧ H' p = some (.lst (zs.map V.str ++ [v])) ∧ Evl.Ex H H' ∧ zs.Nodup ∧ (∀ y ∈ zs, y ∈ dots) ∧ Spot v ∧
      track tb m zs v = walkOf tb (dots.length + 1) z ∧ m + zs.length = dots.length + 1, ⟨dots.length + 1, [], .str z, rfl, upd_same, Evl.Ex.new hp, List.nodup_nil, (fun y hy => by cases hy), .inr ⟨z, rfl, hz⟩, rfl, rfl⟩, ?_⟩
    rintro m σ H1 ⟨zs, v, rfl, p1, x1, znd, zd, hv, tr, hm⟩
    have zl := nodup_le zs dots znd zd
    have t1 := x1 _ _ ht
    refine ⟨.ref p, rfl, 1, rfl, p, _, -1, v, rfl, rfl, Evl.sq_of p1, atI_last _ _, .ref t, rfl, ?_⟩
    rcases hv with rfl | ⟨y, rfl, hy⟩
    · refine .inr ⟨t, _, rfl, rfl, .inl t1, false, rfl, ?_⟩
      rw [track_non] at tr
      refine iteF ?_
      refine iteF ?_
      exact ⟨.ref p, rfl, k p _ x1 hp (by rw [p1, tr])⟩
    · cases q : valV (tkv tb) (Sum.inr y) with
      | none =>
        have gt : DGet H1 t (.str y) none := by
          have z := DGet.k (k := Sum.inr y) t1
          rw [q] at z
          exact z
        refine .inl ⟨t, none, rfl, gt, false, rfl, ?_⟩
        rw [track_out q] at tr
        refine iteF ?_
        refine iteF ?_
        exact ⟨.ref p, rfl, k p _ x1 hp (by rw [p1, tr])⟩
      | some u =>
        have gt : ∀ {Hx : Hp}, Hx t = some (.dK (tkv tb)) → DGet Hx t (.str y) (some u) := fun {Hx} tx => by
          have z := DGet.k (k := Sum.inr y) tx
          rw [q] at z
          exact z
        have yd : y ∈ dots := by
          by_cases hm : y ∈ tb.map (·.1)
          · rw [← L.ks]; exact hm
          · rw [tkv_none hm] at q; cases q
        have su : Spot u := by
          obtain ⟨w', h1, h2⟩ := L.get yd
          rw [q] at h1
          rw [Option.some.inj h1]
          exact h2
        refine .inl ⟨t, some u, rfl, gt t1, true, rfl, ?_⟩
        refine iteT ?_
        refine ⟨.ref p, rfl, 1, rfl, p, _, -1, _, rfl, rfl, Evl.sq_of p1, atI_last _ _, .ref p, rfl, 1, rfl, _, rfl, p, _, rfl, Evl.sq_of p1, fun c hc => ?_⟩
        have ecut : cutV (zs.map V.str ++ [V.str y]) none (some (-1)) = zs.map V.str := by
          rw [cut_last]
          exact List.dropLast_concat
        rw [ecut]
        have x2 : Evl.Ex H1 (upd H1 c (.lst (zs.map V.str))) := Evl.Ex.new hc
        have nc : p ≠ c := ne_of_none p1 hc
        refine ⟨c, zs.map V.str, rfl, .inl (Evl.sq_of upd_same), rfl, flat_strs zs, ?_⟩
        generalize upd H1 c (.lst (zs.map V.str)) = H2 at x2
        have p2 := x2 _ _ p1
        have t2 := x2 _ _ t1
        rw [inV_str]
        by_cases mem : y ∈ zs
        · rw [decide_eq_true mem]
          rw [track_ring mem] at tr
          refine ⟨false, rfl, ?_⟩
          refine iteF ?_
          exact ⟨.ref p, rfl, k p _ (x1.trans x2) hp (by rw [p2, tr])⟩
        · rw [decide_eq_false mem]
          obtain ⟨m0, rfl⟩ : ∃ m0, m = m0 + 1 := ⟨m - 1, by omega⟩
          rw [track_on q mem] at tr
          refine ⟨true, rfl, ?_⟩
          refine iteT ?_
          refine ⟨_, fun _ _ h => h, ?_⟩
          refine ⟨.ref p, rfl, .inl ⟨rfl, _, Evl.sq_of p2⟩, .ref t, rfl, .ref p, rfl, 1, rfl, p, _, -1, _, rfl, rfl, Evl.sq_of p2, atI_last _ _, t, u, rfl, gt t2, p, _, u, rfl, rfl, p2, ?_, ?_⟩
          · rw [List.length_append, List.length_map, List.length_singleton]
            exact small1000 (by omega)
          · refine ⟨m0, Nat.lt_succ_self _, zs ++ [y], u, rfl, ?_, (x1.trans x2).mut hp, ?_, ?_, su, tr, ?_⟩
            · rw [upd_same, List.map_append]
              rfl
            · rw [List.nodup_append]
              exact ⟨znd, by simp, fun a ha b hb e => mem (by rw [List.mem_singleton.mp hb] at e; exact e ▸ ha)⟩
            · intro a ha
              rcases List.mem_append.mp ha with ha | ha
              · exact zd a ha
              · rw [List.mem_singleton.mp ha]; exact yd
            · rw [List.length_append, List.length_singleton]
              omega
end
end Rw
end T_W0

section T_W1
set_option Elab.async false
set_option linter.all false
set_option maxRecDepth 100000
set_option maxHeartbeats 4000000
namespace Rw
open PySem L2 PyProof.Rows
/-- the ways at a moment at which just the nodes of on have their new ones -/
def nowTab (dots : List Str) (o n : List (Str × V)) (on : List Str) : List (Str × V) := dots.map fun z => (z, look (if z ∈ on then n else o) z)
theorem nowTab_keys (dots : List Str) (o n : List (Str × V)) (on : List Str) : (nowTab dots o n on).map (·.1) = dots := by
  unfold nowTab
  rw [List.map_map]
  exact List.map_id _
theorem nowTab_snoc (l : List Str) (z : Str) (o n : List (Str × V)) (on : List Str) : nowTab (l ++ [z]) o n on = nowTab l o n on ++ [(z, look (if z ∈ on then n else o) z)] := by
  unfold nowTab
  rw [List.map_append]
  rfl
theorem nowTab_lead {dots : List Str} {e : Str} {o n : List (Str × V)} {on : List Str} (h1 : TabOk dots e o) (h2 : TabOk dots e n) (hz : ∀ y ∈ dots, Nm y) (he : Nm e) : LeadOk dots (nowTab dots o n on) := by
  refine ⟨nowTab_keys _ _ _ _, fun q hq => ?_, hz⟩
  obtain ⟨z, hzd, rfl⟩ := List.mem_map.mp hq
  show Spot (look (if z ∈ on then n else o) z)
  by_cases m : z ∈ on
  · rw [if_pos m]; exact place_spot (look_ok h2 hzd).1 hz he
  · rw [if_neg m]; exact place_spot (look_ok h1 hzd).1 hz he
section
variable {P : Program} {w : World} {K : PySem.W.Frag} {mg : Str → Option Value} {base : Heap}
def spWay (C : Addr) : Sp := fun vs H Q _ => ∃ (m : Addr) (e z : Str) (b : Bool) (ends dots ss ps : List Str) (o n : Str → List (Str × V)), vs = [.ref m, .str e, .str z, .bl b] ∧ NetAt C H m ends dots ss ps o n ∧ ends.length ≤ 100 ∧ e ∈ ends ∧ z ∈ dots ∧
  ∀ H', Evl.Ex H H' → Q (look (if b = true then n e else o e) z) H'
abbrev nWay : List Str := ["self", "goal", "node", "is_new", "old", "new"]
theorem sc_way : FnScope nWay ["self", "goal", "node", "is_new"] (defScope c_Net_way) := ⟨rfl, rfl, rfl, by decide +kernel, rfl, by decide +kernel, by decide +kernel⟩
theorem ok_way {f C : Addr} {fd : FuncData} (F : Fun K "way" "Net.way" c_Net_way f fd) (T : NetTxt K C) (C1 : Cal P w K mg base 3 "check_goal" ["net", "goal"] (spCheckGoal C)) (C2 : Cal P w K mg base 3 "check_node" ["net", "node"] (spCheckDot C)) : FnOk P w K mg base CX0 4 f fd ["self", "goal", "node", "is_new"] (spWay C) := by
  obtain ⟨f1, fd1, F1, k1, b1, g1⟩ := C1.ex
  obtain ⟨f2, fd2, F2, k2, b2, g2⟩ := C2.ex
  refine F.ok sc_way (fun vs H Q E h => ?_) (fun cdv A outer s H vs Q E hr h => ?_)
  · obtain ⟨m, e, z, b, ends, dots, ss, ps, o, n, rfl, _⟩ := h
    rfl
  · obtain ⟨m, e, z, b, ends, dots, ss, ps, o, n, rfl, N, few, he, hz, k⟩ := h
    have nd := sc_way.nd
    have hu := hu_of hr
    refine ⟨_, pss_cons (ps_expr (pe_call F1 hr rfl g1 k1 b1 .nil pass0 (pa_cons (pv 0) (pa_cons (pv 1) pa_nil))))
      (pss_cons (ps_expr (pe_call F2 hr rfl g2 k2 b2 .nil pass0 (pa_cons (pv 0) (pa_cons (pv 2) pa_nil))))
      (pss_cons (ps_asg (pe_dget hu (pe_fld (pv 0) rfl) (pv 1) (fun _ _ => rfl)) (pg_tup rfl (pgs_cons (pg_name (i := 4) nd rfl (.inl rfl)) (pgs_cons (pg_name (i := 5) nd rfl (.inl rfl)) pgs_nil))))
      (pss_one (ps_ret (pe_ifExp (pt_val (pv 3)) (pe_dget hu (pv 5) (pv 2) (fun _ _ => rfl)) (pe_dget hu (pv 4) (pv 2) (fun _ _ => rfl))))))), ?_⟩
    refine ⟨.ref m, rfl, .str e, rfl, m, e, ends, dots, ss, ps, o, n, rfl, N, few, he, fun H1 x1 => ?_⟩
    have N1 := N.to x1
    refine ⟨.ref m, rfl, .str z, rfl, m, z, ends, dots, ss, ps, o, n, rfl, N1, hz, ?_⟩
    obtain ⟨dx, T', N', S, Po, rows, h1, h2, h3, h4, h5, h6, h7⟩ := N1.ex
    obtain ⟨p, po, pn, hv, pa⟩ := h7 e he
    have ge : DGet H1 T' (.str e) (some (.ref p)) := by
      have q := DGet.k (k := Sum.inr e) h2
      rw [hv] at q
      exact q
    have c1 := (look_ok pa.o1 hz)
    have c2 := (look_ok pa.o2 hz)
    have go : DGet H1 po (.str z) (some (look (o e) z)) := by
      have q := DGet.k (k := Sum.inr z) pa.ho
      rw [c1.2, look_canon hz] at q
      exact q
    have gn : DGet H1 pn (.str z) (some (look (n e) z)) := by
      have q := DGet.k (k := Sum.inr z) pa.hn
      rw [c2.2, look_canon hz] at q
      exact q
    have kk := k H1 x1
    refine ⟨.ref m, rfl, m, C, dx, _, .ref T', rfl, h1, T.cl, T.nT, nflds_tables _ _ _ _, .str e, rfl, T', _, rfl, ge, p, _, rfl, Evl.st_of pa.hp, rfl, _, _, rfl, _, [], rfl, rfl, ?_⟩
    cases b with
    | true => exact ⟨.bl true, rfl, true, rfl, iteT ⟨.ref pn, rfl, .str z, rfl, pn, _, rfl, gn, kk⟩⟩
    | false => exact ⟨.bl false, rfl, false, rfl, iteF ⟨.ref po, rfl, .str z, rfl, po, _, rfl, go, kk⟩⟩
end
end Rw
end T_W1

section T_W3
set_option Elab.async false
set_option linter.all false
set_option maxRecDepth 100000
set_option maxHeartbeats 4000000
/-! ways_at as it stands from 57648cc on: by the tables themselves -/
namespace Rw
open PySem L2 PyProof.Rows
section
variable {P : Program} {w : World} {K : PySem.W.Frag} {mg : Str → Option Value} {base : Heap}
theorem dgK {H : Hp} {a : Addr} {kvs : List (Key × V)} {k : Key} {v : V} (h : H a = some (.dK kvs)) (hv : valV kvs k = some v) : DGet H a (kV k) (some v) := by
  have := DGet.k (k := k) h
  rw [hv] at this
  exact this
def spWaysAt (C : Addr) : Sp := fun vs H Q _ => ∃ (m a b : Addr) (e : Str) (zs ys ends dots ss ps : List Str) (o n : Str → List (Str × V)), vs = [.ref m, .ref a, .ref b, .str e] ∧ NetAt C H m ends dots ss ps o n ∧ ends.length ≤ 100 ∧ ends.Nodup ∧ dots.length ≤ 100 ∧ dots.Nodup ∧ e ∈ ends ∧
  SqT K H a (zs.map V.str) ∧ SqT K H b (ys.map V.str) ∧ ∀ D H', Evl.Ex H H' → H D = none → H' D = some (.dK (tkv (nowTab dots (o e) (n e) (zs ++ ys)))) → Q (.ref D) H'
abbrev nWaysAt : List Str := ["net", "done", "changed", "goal", "old", "new", "node"]
theorem sc_ways_at : FnScope nWaysAt ["net", "done", "changed", "goal"] (defScope p_ways_at) := ⟨rfl, rfl, rfl, by decide +kernel, rfl, by decide +kernel, by decide +kernel⟩
theorem ok_ways_at {f C : Addr} {fd : FuncData} (F : Fun K "ways_at" "ways_at" p_ways_at f fd) (T : NetTxt K C) (P1 : Prp P w K mg base C 1 "tables" (spTabs C)) (Pg : Prp P w K mg base C 1 "nodes" (spDots C)) :
    FnOk P w K mg base CX0 3 f fd ["net", "done", "changed", "goal"] (spWaysAt (K := K) C) := by
  obtain ⟨p1, g1, fd1, at1, F1, b1⟩ := P1.ex
  obtain ⟨p2, g2, fd2, at2, F2, b2⟩ := Pg.ex
  refine F.ok sc_ways_at (fun vs H Q E h => ?_) (fun cdv A outer s H vs Q E hr h => ?_)
  · obtain ⟨m, a, b, e, zs, ys, ends, dots, ss, ps, o, n, rfl, _⟩ := h
    rfl
  · obtain ⟨m, a, b, e, zs, ys, ends, dots, ss, ps, o, n, rfl, N, few, en, few2, dn, he, ha, hb, k⟩ := h
    have nd := sc_ways_at.nd
    have hu := hu_of hr
    refine ⟨_, pss_cons (ps_asg (pe_dget hu (pe_prop (pv 0) T.cl at1 F1 hr b1 .nil pass0 rfl) (pv 3) (fun _ _ => rfl)) (pg_tup rfl (pgs_cons (pg_name (i := 4) nd rfl (.inr rfl)) (pgs_cons (pg_name (i := 5) nd rfl (.inr rfl)) pgs_nil))))
      (pss_one (ps_ret (pe_dc (own := [("node", 6)]) (g := gName 6) (tt := tYes) (tk := tVar 6)
          (tv := tIf (tOr (tTest (tOp (rIn K false) (tVar 6) (tVar 1))) (tTest (tOp (rIn K false) (tVar 6) (tVar 2)))) (tDGet (tVar 5) (tVar 6)) (tDGet (tVar 4) (tVar 6))) rfl nd (pi_tup (pe_prop (pv 0) T.cl at2 F2 hr b2 .nil pass0 rfl)) (blkOk_by (own := [("node", 6)]) (N := nWaysAt) (sc := defScope p_ways_at) (by decide +kernel))
        (fun _ _ _ _ _ => pg_name (i := 6) nd rfl (Or.inl rfl)) (fun _ _ _ _ _ => pts_nil) (fun _ _ _ _ _ => pv 6)
        (fun _ _ _ _ _ => pe_ifExp (PW.pt (pw_or (pt_cmpR op_in_seq (pv 6) (pv 1) rfl) (pw_or1 (pt_cmpR op_in_seq (pv 6) (pv 2) rfl)))) (pe_dget hu (pv 5) (pv 6) (fun _ _ => rfl)) (pe_dget hu (pv 4) (pv 6) (fun _ _ => rfl)))))), ?_⟩
    have N2 := N
    obtain ⟨dx, T', N', S, Po, rows, h1, h2, h3, h4, h5, h6, h7⟩ := N.ex
    have e0 : 0 < ends.length := List.length_pos_of_mem he
    refine ⟨.ref m, rfl, m, dx, _, rfl, h1, m, ends, dots, ss, ps, o, n, rfl, N2, e0, few, en, fun D0 Tb H0 x0 hD0 TA => ?_⟩
    obtain ⟨t, ht, et⟩ : ∃ t ∈ Tb, t.1 = e := by
      rw [← TA.ks] at he
      obtain ⟨t, ht, e2⟩ := List.mem_map.mp he
      exact ⟨t, ht, e2⟩
    obtain ⟨pa, _⟩ := TA.pa t ht
    have hv := TA.get en ht
    rw [et] at pa hv
    refine ⟨.str e, rfl, D0, _, rfl, dgK (k := Sum.inr e) TA.hd hv, t.2.1, _, rfl, Evl.st_of pa.hp, rfl, _, _, rfl, _, [], rfl, rfl, ?_⟩
    refine ⟨.ref m, rfl, m, dx, _, rfl, x0 _ _ h1, m, ends, dots, ss, ps, o, n, rfl, N2.to x0, fun q hq => ⟨q, rfl, ⟨_, Evl.st_of hq⟩, fun D hD => dc_tup (K := K) (a := q) (xs := dots.map V.str)
      (fun i H' => i ≤ dots.length ∧ Evl.Ex H0 H' ∧ H' D = some (.dK (tkv (nowTab (dots.take i) (o e) (n e) (zs ++ ys))))) ⟨Nat.zero_le _, Evl.Ex.new hD, upd_same⟩ (fun i H' _ h => Evl.st_of (h.2.1 _ _ hq)) ?_ ?_⟩⟩
    · rintro i x H1 hi ⟨_, x1, d1⟩
      obtain ⟨z, hz, rfl⟩ := str_at hi
      have hil : i < dots.length := (List.getElem?_eq_some_iff.mp hz).1
      have zd := List.mem_of_getElem? hz
      have et : dots.take (i + 1) = dots.take i ++ [z] := by rw [List.take_add_one, hz]; rfl
      have zn : z ∉ dots.take i := fun hm => by
        have h1 : (dots.take (i + 1)).Nodup := dn.sublist (List.take_sublist _ _)
        rw [et] at h1
        exact (List.nodup_append.mp h1).2.2 z hm z (List.mem_singleton.mpr rfl) rfl
      have c1 := look_ok pa.o1 zd
      have c2 := look_ok pa.o2 zd
      have go : DGet H1 t.2.2.1 (.str z) (some (look (o e) z)) := by
        have := dgK (k := Sum.inr z) (x1 _ _ pa.ho) c1.2
        rw [look_canon zd] at this
        exact this
      have gn : DGet H1 t.2.2.2 (.str z) (some (look (n e) z)) := by
        have := dgK (k := Sum.inr z) (x1 _ _ pa.hn) c2.2
        rw [look_canon zd] at this
        exact this
      refine ⟨rfl, ?_⟩
      refine yes_if ?_
      refine ⟨.str z, rfl, ?_⟩
      have fin : ∀ v : V, v = look (if z ∈ zs ++ ys then n e else o e) z → ∃ kvs k, V.str z = kV k ∧ H1 D = some (.dK kvs) ∧ kvs.length < sizeLine ∧
          (i + 1 ≤ dots.length ∧ Evl.Ex H0 (upd H1 D (.dK (putK kvs k v))) ∧ (upd H1 D (.dK (putK kvs k v))) D = some (.dK (tkv (nowTab (dots.take (i + 1)) (o e) (n e) (zs ++ ys))))) := by
        rintro v rfl
        refine ⟨_, Sum.inr z, rfl, d1, ?_, hil, x1.mut hD, ?_⟩
        · rw [tkv_len]
          unfold nowTab
          rw [List.length_map, List.length_take]
          exact small1000 (by omega)
        · rw [upd_same, tkv_new (by rw [nowTab_keys]; exact zn), et, nowTab_snoc]
      refine ⟨.str z, rfl, .ref a, rfl, a, zs.map V.str, rfl, .inr (Evl.ex_t (x0.trans x1) ha), rfl, flat_strs zs, ?_⟩
      rw [inV_str]
      by_cases m1 : z ∈ zs
      · rw [decide_eq_true m1]
        refine ⟨true, rfl, iteT (iteT ?_)⟩
        exact ⟨.ref t.2.2.2, rfl, .str z, rfl, t.2.2.2, _, rfl, gn, fin _ (by rw [if_pos (List.mem_append_left _ m1)])⟩
      · rw [decide_eq_false m1]
        refine ⟨false, rfl, iteF ?_⟩
        refine ⟨.str z, rfl, .ref b, rfl, b, ys.map V.str, rfl, .inr (Evl.ex_t (x0.trans x1) hb), rfl, flat_strs ys, ?_⟩
        rw [inV_str]
        by_cases m2 : z ∈ ys
        · rw [decide_eq_true m2]
          refine ⟨true, rfl, iteT ?_⟩
          exact ⟨.ref t.2.2.2, rfl, .str z, rfl, t.2.2.2, _, rfl, gn, fin _ (by rw [if_pos (List.mem_append_right _ m2)])⟩
        · rw [decide_eq_false m2]
          refine ⟨false, rfl, iteF ?_⟩
          exact ⟨.ref t.2.2.1, rfl, .str z, rfl, t.2.2.1, _, rfl, go, fin _ (by rw [if_neg (fun h => (List.mem_append.mp h).elim m1 m2)])⟩
    · rintro H1 ⟨_, x1, d1⟩
      rw [List.length_map, List.take_length] at d1
      exact k D _ (x0.trans x1) (ex_none x0 hD) d1
end
end Rw
end T_W3

section T_W2
set_option Elab.async false
set_option linter.all false
set_option maxRecDepth 100000
set_option maxHeartbeats 4000000
namespace Rw
open PySem L2 PyProof.Rows
theorem nowTab_leadC {dots : List Str} {e : Str} {o n : List (Str × V)} {on : List Str} (h1 : TabOk dots e (canon dots o)) (h2 : TabOk dots e (canon dots n)) (hz : ∀ y ∈ dots, Nm y) (he : Nm e) : LeadOk dots (nowTab dots o n on) := by
  refine ⟨nowTab_keys _ _ _ _, fun q hq => ?_, hz⟩
  obtain ⟨z, hzd, rfl⟩ := List.mem_map.mp hq
  show Spot (look (if z ∈ on then n else o) z)
  by_cases m : z ∈ on
  · rw [if_pos m, ← look_canon hzd]; exact place_spot (look_ok h2 hzd).1 hz he
  · rw [if_neg m, ← look_canon hzd]; exact place_spot (look_ok h1 hzd).1 hz he
section
variable {P : Program} {w : World} {K : PySem.W.Frag} {mg : Str → Option Value} {base : Heap}
def spLed (C : Addr) : Sp := fun vs H Q _ => ∃ (m a b : Addr) (e z : Str) (zs ys ends dots ss ps : List Str) (o n : Str → List (Str × V)), vs = [.ref m, .ref a, .ref b, .str e, .str z] ∧ NetAt C H m ends dots ss ps o n ∧ ModelOk ends dots ss ps ∧ e ∈ ends ∧ z ∈ dots ∧
  LotAt H a zs (moving ends dots o n) ∧ LotAt H b ys (moving ends dots o n) ∧ (∀ y ∈ ys, y ∉ zs) ∧ ∀ p H', Evl.Ex H H' → H p = none → H' p = some (.lst (walkOf (nowTab dots (o e) (n e) (zs ++ ys)) (dots.length + 1) z)) → Q (.ref p) H'
abbrev nLed : List Str := ["net", "done", "changed", "goal", "node"]
theorem sc_led : FnScope nLed ["net", "done", "changed", "goal", "node"] (defScope p_led) := ⟨rfl, rfl, rfl, by decide +kernel, rfl, by decide +kernel, by decide +kernel⟩
theorem ok_led {f C : Addr} {fd : FuncData} (F : Fun K "led" "led" p_led f fd) (C1 : Cal P w K mg base 5 "check_round" ["net", "done", "lot", "part"] (spRound C)) (C2 : Cal P w K mg base 3 "check_goal" ["net", "goal"] (spCheckGoal C)) (C3 : Cal P w K mg base 3 "check_node" ["net", "node"] (spCheckDot C))
    (C4 : Cal P w K mg base 3 "ways_at" ["net", "done", "changed", "goal"] (spWaysAt (K := K) C)) (C5 : Cal P w K mg base 1 "followed" ["table", "node"] spFollowed) : FnOk P w K mg base CX0 6 f fd ["net", "done", "changed", "goal", "node"] (spLed C) := by
  obtain ⟨f1, fd1, F1, k1, b1, g1⟩ := C1.ex
  obtain ⟨f2, fd2, F2, k2, b2, g2⟩ := C2.ex
  obtain ⟨f3, fd3, F3, k3, b3, g3⟩ := C3.ex
  obtain ⟨f4, fd4, F4, k4, b4, g4⟩ := C4.ex
  obtain ⟨f5, fd5, F5, k5, b5, g5⟩ := C5.ex
  refine F.ok sc_led (fun vs H Q E h => ?_) (fun cdv A outer s H vs Q E hr h => ?_)
  · obtain ⟨m, a, b, e, z, zs, ys, ends, dots, ss, ps, o, n, rfl, _⟩ := h
    rfl
  · obtain ⟨m, a, b, e, z, zs, ys, ends, dots, ss, ps, o, n, rfl, N, ok, he, hz, La, Lb, dis, k⟩ := h
    have hr3 : Room 3 _ := hr.mono (by decide)
    have hr1 : Room 1 _ := hr.mono (by decide)
    have e2 := ok.e2
    have d6 := ok.d6
    refine ⟨_, pss_cons (ps_expr (pe_call F1 hr rfl g1 k1 b1 .nil pass0 (pa_cons (pv 0) (pa_cons (pv 1) (pa_cons (pv 2) (pa_cons pe_str pa_nil))))))
      (pss_cons (ps_expr (pe_call F2 hr3 rfl g2 k2 b2 .nil pass0 (pa_cons (pv 0) (pa_cons (pv 3) pa_nil))))
      (pss_cons (ps_expr (pe_call F3 hr3 rfl g3 k3 b3 .nil pass0 (pa_cons (pv 0) (pa_cons (pv 4) pa_nil))))
      (pss_one (ps_ret (pe_call F5 hr1 rfl g5 k5 b5 .nil pass0 (pa_cons (pe_call F4 hr3 rfl g4 k4 b4 .nil pass0 (pa_cons (pv 0) (pa_cons (pv 1) (pa_cons (pv 2) (pa_cons (pv 3) pa_nil))))) (pa_cons (pv 4) pa_nil))))))), ?_⟩
    refine ⟨.ref m, rfl, .ref a, rfl, .ref b, rfl, m, a, b, _, zs, ys, ends, dots, ss, ps, o, n, rfl, N, by omega, by omega, ok.en, La, Lb, dis, fun H1 x1 => ?_⟩
    have N1 := N.to x1
    refine ⟨.ref m, rfl, .str e, rfl, m, e, ends, dots, ss, ps, o, n, rfl, N1, by omega, he, fun H2 x2 => ?_⟩
    have N2 := N1.to x2
    have x12 := x1.trans x2
    refine ⟨.ref m, rfl, .str z, rfl, m, z, ends, dots, ss, ps, o, n, rfl, N2, hz, ?_⟩
    refine ⟨.ref m, rfl, .ref a, rfl, .ref b, rfl, .str e, rfl, m, a, b, e, zs, ys, ends, dots, ss, ps, o, n, rfl, N2, by omega, ok.en, by omega, ok.dn, he, Evl.st_of (x12 _ _ La.ha), Evl.st_of (x12 _ _ Lb.ha), fun D H3 x3 hD hD3 => ?_⟩
    obtain ⟨dx, T', N', S, Po, rows, h1, h2, h3, h4, h5, h6, h7⟩ := N.ex
    obtain ⟨q, po, pn, hv, pa⟩ := h7 e he
    exact ⟨.str z, rfl, D, z, dots, _, rfl, hD3, nowTab_leadC pa.o1 pa.o2 ok.dm (ok.em e he), by omega, ok.dm z hz, fun p H4 x4 hp hp4 => k p H4 (x12.trans (x3.trans x4)) (ex_none (x12.trans x3) hp) hp4⟩
end
end Rw
end T_W2

section T_P1
set_option Elab.async false
set_option linter.all false
set_option maxRecDepth 100000
set_option maxHeartbeats 4000000
namespace Rw
open PySem L2 PyProof.Rows
section
variable {P : Program} {w : World} {K : PySem.W.Frag} {mg : Str → Option Value} {base : Heap}
/-! ### is_list -/
def spIsList (K : PySem.W.Frag) : Sp := fun vs H Q _ => ∃ (a : Addr) (xs : List V), vs = [.ref a] ∧ (SqL K H a xs ∨ SqT K H a xs) ∧ ∀ H', Evl.Ex H H' → Q (.bl true) H'
theorem sc_is_list : FnScope ["value"] ["value"] (defScope p_is_list) := ⟨rfl, rfl, rfl, by decide +kernel, rfl, by decide +kernel, by decide +kernel⟩
theorem ok_is_list {f : Addr} {fd : FuncData} (F : Fun K "is_list" "is_list" p_is_list f fd) (mIsi : mg "isinstance" = none) (mList : mg "list" = none) (mTup : mg "tuple" = none) : FnOk P w K mg base CX0 1 f fd ["value"] (spIsList K) := by
  refine F.ok sc_is_list (fun vs H Q E h => ?_) (fun cdv A outer s H vs Q E hr h => ?_)
  · obtain ⟨a, zs, rfl, _⟩ := h
    rfl
  · obtain ⟨a, zs, rfl, hS, k⟩ := h
    refine ⟨_, pss_one (ps_ret (pe_callB call_isiT (by rfl) mIsi (by decide +kernel) (pa_cons (pv 0) (pa_cons (pe_tup (pa_cons (pe_bltn (v := .ty "list") (by rfl) mList (by decide +kernel) rfl) (pa_cons (pe_bltn (v := .ty "tuple") (by rfl) mTup (by decide +kernel) rfl) pa_nil))) pa_nil)))), ?_⟩
    refine ⟨.ref a, rfl, by show 2 ≤ sizeLine; decide, fun t ht => ?_⟩
    have e := Evl.Ex.new (o := .tup [.ty "list", .ty "tuple"]) ht
    rcases hS with hS | hS
    · exact ⟨.ref a, t, _, .type "list", _, true, rfl, upd_same, .cons (.ty _) (.cons (.ty _) .nil), ty_sl (Evl.ex_l e hS), kitAny_cons (b := true) (kit_ty (by decide +kernel)) (fun z => by cases z) (fun _ => rfl), k _ e⟩
    · exact ⟨.ref a, t, _, .type "tuple", _, true, rfl, upd_same, .cons (.ty _) (.cons (.ty _) .nil), ty_st (Evl.ex_t e hS), kitAny_cons (b := false) (kit_ty (by decide +kernel)) (fun _ => kitAny_cons (b := true) (kit_ty (by decide +kernel)) (fun z => by cases z) (fun _ => rfl)) (fun z => by cases z), k _ e⟩
/-! ### is_name -/
def spIsName : Sp := fun vs H Q _ => ∃ z : Str, vs = [.str z] ∧ Nm z ∧ ∀ H', Evl.Ex H H' → Q (.bl true) H'
abbrev nIsName : List Str := ["value", "sign"]
theorem sc_is_name : FnScope nIsName ["value"] (defScope p_is_name) := ⟨rfl, rfl, rfl, by decide +kernel, rfl, by decide +kernel, by decide +kernel⟩
theorem ok_is_name {f : Addr} {fd : FuncData} {tk : Tok} (F : Fun K "is_name" "is_name" p_is_name f fd) (mIsi : mg "isinstance" = none) (mStr : mg "str" = none) (mLen : mg "len" = none) (mAll : mg "all" = none) (mMost : mg "MOST_LETTERS" = some (.int 6 tk)) :
    FnOk P w K mg base CX0 1 f fd ["value"] spIsName := by
  refine F.ok sc_is_name (fun vs H Q E h => ?_) (fun cdv A outer s H vs Q E hr h => ?_)
  · obtain ⟨z, rfl, _⟩ := h
    rfl
  · obtain ⟨z, rfl, hz, k⟩ := h
    have nd := sc_is_name.nd
    refine ⟨_, pss_cons (ps_if (PW.pt (pw_or (pt_not (pt_val (pe_callB call_isi (by rfl) mIsi (by decide +kernel) (pa_cons (pv 0) (pa_cons (pe_bltn (v := .ty "str") (by rfl) mStr (by decide +kernel) rfl) pa_nil)))))
          (pw_or1 (pt_not (pt_chain op_le op_le pe_int (pe_callB call_len (by rfl) mLen PySem.boot_len (pa_cons (pv 0) pa_nil)) (pe_glob (v := .int 6) (by rfl) mMost ⟨_, rfl⟩))))))
        (pss_one (ps_ret pe_bl)) pss_nil)
      (pss_one (ps_ret (pe_callB (cr_all rfl) (by rfl) mAll (by decide +kernel) (pa_cons (pe_lc (own := [("sign", 1)]) (g := gName 1) (tt := tYes) rfl nd (pi_str (pv 0)) (blkOk_by (own := [("sign", 1)]) (N := nIsName) (sc := defScope p_is_name) (by decide +kernel))
        (fun _ _ _ _ _ => pg_name (i := 1) nd rfl (Or.inl rfl)) (fun _ _ _ _ _ => pts_nil) (fun _ _ _ _ _ => pe_chain op_le_str op_le_str pe_str (pv 1) pe_str)) pa_nil)))), ?_⟩
    obtain ⟨l, rfl, h1, h2, h3⟩ := hz
    have hl : (SX.S l).length = l.length := SX.S_len l
    refine ⟨.str (SX.S l), rfl, .str (SX.S l), .ty "str", _, _, true, rfl, .ty _, .base (.str _), kit_ty (by decide +kernel), true, rfl, ?_⟩
    refine ⟨.str (SX.S l), rfl, .str (SX.S l), l.length, rfl, ⟨Nat.le_of_lt (small1000 (by omega)), hl.symm⟩, 1, (l.length : Int), rfl, rfl, true, ?_, ?_⟩
    · exact congrArg V.bl (decide_eq_true (show (1 : Int) ≤ (l.length : Int) by omega))
    · refine ⟨_, 6, rfl, rfl, true, ?_, ?_⟩
      · exact congrArg V.bl (decide_eq_true (show (l.length : Int) ≤ 6 by omega))
      · refine ⟨.str (SX.S l), rfl, _, rfl, fun D hD => lc_it walk_str (fun i H' => i ≤ l.length ∧ H' = upd H D (.lst ((List.replicate i true).map V.bl))) ⟨Nat.zero_le _, rfl⟩ (fun _ _ _ _ => trivial) ?_ ?_⟩
        · rintro i x H1 H1' hi ⟨_, rfl⟩ ⟨rfl, ch, hch, rfl⟩
          have hil : i < l.length := by simpa using hi
          have hm : ch ∈ l := by
            have z : l[i]? = some ch := by simpa using hch
            exact List.mem_of_getElem? z
          refine ⟨rfl, ?_⟩
          refine yes_if ?_
          have hb := h3 ch hm
          refine ⟨_, rfl, _, _, rfl, rfl, true, congrArg V.bl (sign_le hb.1), ?_⟩
          refine ⟨_, _, rfl, rfl, ?_⟩
          have e2 : (V.bl (!decide (([122] : List Nat) < [ch]))) = .bl true := congrArg V.bl (sign_le hb.2)
          refine ⟨_, upd_same, by rw [List.length_map, List.length_replicate]; exact small1000 (by omega), hil, ?_⟩
          rw [upd_upd, List.replicate_succ', List.map_append]
          show upd H D (.lst (_ ++ [V.bl (!decide (([122] : List Nat) < [ch]))])) = _
          rw [e2]
          rfl
        · rintro H1 ⟨_, rfl⟩
          refine ⟨D, _, rfl, Evl.sq_of upd_same, ?_⟩
          rw [all_trues]
          exact k _ (Evl.Ex.new hD)
end
end Rw
end T_P1

section T_P2
set_option Elab.async false
set_option linter.all false
set_option maxRecDepth 100000
set_option maxHeartbeats 4000000
namespace Rw
open PySem L2 PyProof.Rows
section
variable {P : Program} {w : World} {K : PySem.W.Frag} {mg : Str → Option Value} {base : Heap}
/-! ### is_place -/
def spPlace (K : PySem.W.Frag) : Sp := fun vs H Q _ => ∃ (v : V) (z e : Str) (a : Addr) (zs : List Str), vs = [v, .str z, .ref a, .str e] ∧ SqS K H a zs ∧ PlaceOk zs e z v ∧ ∀ H', Evl.Ex H H' → Q (.bl true) H'
theorem sc_is_place : FnScope ["value", "node", "nodes", "goal"] ["value", "node", "nodes", "goal"] (defScope p_is_place) := ⟨rfl, rfl, rfl, by decide +kernel, rfl, by decide +kernel, by decide +kernel⟩
theorem ok_is_place {f : Addr} {fd : FuncData} (F : Fun K "is_place" "is_place" p_is_place f fd) : FnOk P w K mg base CX0 1 f fd ["value", "node", "nodes", "goal"] (spPlace K) := by
  refine F.ok sc_is_place (fun vs H Q E h => ?_) (fun cdv A outer s H vs Q E hr h => ?_)
  · obtain ⟨v, z, e, a, zs, rfl, _⟩ := h
    rfl
  · obtain ⟨v, z, e, a, zs, rfl, hS, hv, k⟩ := h
    have k0 := k H (Evl.Ex.refl H)
    refine ⟨_, pss_one (ps_ret (pe_or (pe_cmpR op_isN (pv 0) pe_non (nomark _)) (pe_or (pe_cmpR op_eq (pv 0) (pv 3) (nomark _)) (pe_one (pe_and (pe_cmpR op_in_seq (pv 0) (pv 2) rfl) (pe_one (pe_cmpR op_ne (pv 0) (pv 1) (nomark _)))))))), ?_⟩
    rcases hv with rfl | rfl | ⟨y, hy, hne, rfl⟩
    · exact ⟨.non, rfl, rfl, true, rfl, k0⟩
    · refine ⟨.str e, rfl, rfl, false, rfl, ?_⟩
      refine ⟨.str e, rfl, .str e, rfl, rfl, true, congrArg V.bl (decide_eq_true rfl), k0⟩
    · refine ⟨.str y, rfl, rfl, false, rfl, ?_⟩
      refine ⟨.str y, rfl, .str e, rfl, rfl, _, rfl, ite2 (fun _ => k0) (fun _ => ?_)⟩
      refine ⟨.str y, rfl, .ref a, rfl, a, zs.map V.str, rfl, (hS.sq : SqL K H a _ ∨ SqT K H a _), rfl, flat_strs zs, true, ?_, ?_⟩
      · rw [inV_str]
        exact congrArg V.bl (decide_eq_true hy)
      · refine ⟨.str y, rfl, .str z, rfl, rfl, ?_⟩
        have e1 : (!decide (V.str y = V.str z)) = true := by rw [decide_eq_false (fun q => hne (V.str.inj q))]; rfl
        rw [e1]
        exact k0
/-! ### is_table -/
def spTable : Sp := fun vs H Q _ => ∃ (t a : Addr) (e : Str) (zs : List Str) (tb : List (Str × V)), vs = [.ref t, .ref a, .str e] ∧ H t = some (.dK (tkv tb)) ∧ H a = some (.lst (zs.map V.str)) ∧ TabOk zs e tb ∧ zs.length ≤ 100 ∧ ∀ H', Evl.Ex H H' → Q (.bl true) H'
abbrev nIsTable : List Str := ["table", "nodes", "goal", "node"]
theorem sc_is_table : FnScope nIsTable ["table", "nodes", "goal"] (defScope p_is_table) := ⟨rfl, rfl, rfl, by decide +kernel, rfl, by decide +kernel, by decide +kernel⟩
theorem ok_is_table {f fI : Addr} {fd fdI : FuncData} (F : Fun K "is_table" "is_table" p_is_table f fd) (I_ : FnOk P w K mg base CX0 1 fI fdI ["value", "node", "nodes", "goal"] (spPlace K)) (kI : PySem.W.keepIn K (.ref fI) = true) (bI : Binds K fdI ["value", "node", "nodes", "goal"] []) (gI : mg "is_place" = some (.ref fI))
    (mLen : mg "len" = none) (mAll : mg "all" = none) : FnOk P w K mg base CX0 2 f fd ["table", "nodes", "goal"] spTable := by
  refine F.ok sc_is_table (fun vs H Q E h => ?_) (fun cdv A outer s H vs Q E hr h => ?_)
  · obtain ⟨t, a, e, zs, tb, rfl, _⟩ := h
    rfl
  · obtain ⟨t, a, e, zs, tb, rfl, ht, ha, hT, hzl, k⟩ := h
    have nd := sc_is_table.nd
    have hu := hu_of hr
    refine ⟨_, pss_cons (ps_if (pt_cmpR op_ne (pe_callB call_lenD (by rfl) mLen PySem.boot_len (pa_cons (pv 0) pa_nil)) (pe_callB call_len (by rfl) mLen PySem.boot_len (pa_cons (pv 1) pa_nil)) (nomark _)) (pss_one (ps_ret pe_bl)) pss_nil)
      (pss_one (ps_ret (pe_callB (cr_all rfl) (by rfl) mAll (by decide +kernel) (pa_cons (pe_lc (own := [("node", 3)]) (g := gName 3) (tt := tYes) (te := tAndV (tDIn (tVar 3) (tVar 0)) (tCall (spPlace K) [] E0 (tCons (tDGet (tVar 0) (tVar 3)) (tCons (tVar 3) (tCons (tVar 1) (tCons (tVar 2) tNil)))))) rfl nd (pi_list (pv 1)) (blkOk_by (own := [("node", 3)]) (N := nIsTable) (sc := defScope p_is_table) (by decide +kernel))
        (fun _ _ _ _ _ => pg_name (i := 3) nd rfl (Or.inl rfl)) (fun _ _ _ _ _ => pts_nil)
        (fun _ _ _ _ _ => pe_and (pe_cmp (pc_din hu (pv 3) (pv 0)) rfl) (pe_one (pe_call I_ hr rfl gI kI bI .nil pass0 (pa_cons (pe_dget hu (pv 0) (pv 3) (fun _ _ => rfl)) (pa_cons (pv 3) (pa_cons (pv 1) (pa_cons (pv 2) pa_nil)))))))) pa_nil)))), ?_⟩
    refine ⟨.ref t, rfl, t, _, rfl, ht, .ref a, rfl, .ref a, (zs.map V.str).length, rfl, .inl ⟨_, Evl.sq_of ha, rfl⟩, rfl, _, rfl, ?_⟩
    have el : (tkv tb).length = (zs.map V.str).length := by rw [tkv_len, List.length_map, ← hT.ks.length_eq, List.length_map]
    refine iteNS (by rw [el]) ?_
    refine ⟨.ref a, rfl, a, rfl, ⟨_, Evl.sq_of ha⟩, fun D hD => lc_trues (Evl.sq_of ha) hD (by rw [List.length_map]; omega) (fun i x H1 Q1 R hi e1 go => ?_) (fun H1 e1 d1 => ?_)⟩
    · obtain ⟨z, hz, rfl⟩ := str_at hi
      obtain ⟨v, hv1, hv2⟩ := tkv_some (tb := tb) (z := z) (hT.ks.mem_iff.mpr (List.mem_of_getElem? hz))
      refine ⟨rfl, ?_⟩
      refine yes_if ?_
      have gt : DGet H1 t (.str z) (some v) := by
        have q := DGet.k (k := Sum.inr z) (e1 _ _ ht)
        rw [hv1] at q
        exact q
      refine ⟨.str z, rfl, .ref t, rfl, t, some v, rfl, gt, true, rfl, ?_⟩
      refine ⟨.ref t, rfl, .str z, rfl, t, v, rfl, gt, .str z, rfl, .ref a, rfl, .str e, rfl, v, z, e, a, zs, rfl, .inl (Evl.sq_of (e1 _ _ ha)), hT.ps (z, v) hv2, fun H2 e2 => go H2 e2⟩
    · refine ⟨D, _, rfl, Evl.sq_of d1, ?_⟩
      rw [all_trues]
      exact k _ e1
end
end Rw
end T_P2

section T_S4
set_option Elab.async false
set_option linter.all false
set_option maxRecDepth 100000
set_option maxHeartbeats 4000000
namespace Rw
open PySem PySem.Spec L2 PyProof.Rows
/-! ### sorted(a tuple of texts) -/
section
variable {prog : Program} {w : World} {A : Around} {E : Value → Shared → Prop} {s : Shared}
theorem gather_tup {p : Addr} {us : List Value} {Q : List Value → Shared → Prop} (tup : IsTup s.heap p us.toArray) (fits : us.length ≤ sizeLine)
    (go : Q us { s with heap := (s.heap.push (seqObj "list" #[] 0)).update s.heap.objs.size (Obj.mapSeq fun x => x ++ us.toArray) }) : wpAny (model prog w) A (collect (.ref p)) Q E s := by
  obtain ⟨ob, at_p, is_t, k, dat⟩ := id tup
  unfold collect; refine wpAny_bind (wpAny_runValue (codeAny_builtin entry_proto_collect' ?_))
  show wpAny (model prog w) _ (do again (.builtin "list.__iadd__" ⟨[← newList [], .ref p], []⟩)) _ E s
  refine wpAny_bind (wpAny_newList (wpAny_pure (And.intro (Code.quiet_builtin _ (by decide +kernel)) (codeAny_builtin entry_list_iadd' ?_))))
  show wpAny (model prog w) _ (Builtin.List.listExtendWith (.ref s.heap.objs.size) (.ref p) (.ref s.heap.objs.size)) _ E { s with heap := s.heap.push (seqObj "list" #[] 0) }
  unfold Builtin.List.listExtendWith
  have at_p2 : (s.heap.push (seqObj "list" #[] 0)).get? p = some ob := Heap.get?_push_of_some _ at_p
  have at_new : (s.heap.push (seqObj "list" #[] 0)).get? s.heap.objs.size = some (seqObj "list" #[] 0) := Heap.get?_push_size _ rfl
  refine wpAny_bind (wpAny_typeOf (T := "tuple") ⟨ob, at_p2, is_t⟩ ?_)
  rw [if_pos (by rw [show (Value.type "tuple" == Value.type "tuple") = true by rfl]; simp)]
  refine wpAny_bind (listItems_at at_p2 dat (wpAny_bind (listItems_at (xs := #[]) (n := 0) at_new rfl ?_)))
  rw [if_neg (by simp)]
  refine wpAny_bind (listUpdate_at (xs := #[]) (n := 0) at_new rfl ?_ (Nat.zero_le _) (by show (#[] ++ us.toArray).size ≤ _; simp only [Array.size_append, List.size_toArray, List.length_nil]; omega))
  refine wpAny_pure (wpAny_bind (wpAny_load (get?_update_seq at_new _) ?_))
  show wpAny (model prog w) A (pure ((#[] : Array Value) ++ us.toArray).toList) Q E _
  rw [show ((#[] : Array Value) ++ us.toArray).toList = us by simp]
  exact wpAny_pure go
end
section
variable {X : Cx}
def rSortedU (K : PySem.W.Frag) : List V → Hp → VK → Prop := fun vs H Q => ∃ (a : Addr) (ks : List Str), vs = [.ref a] ∧ SqT K H a (ks.map V.str) ∧ ks.length < 64 ∧
  ∀ (ys : List Str) (p : Addr), ys.Perm ks → sortedS ys = true → H p = none → Q (.ref p) (upd H p (.lst (ys.map V.str)))
theorem cr_sortedU : CallR X (.builtin "sorted") (rSortedU X.K) := by
  intro pins s σ H vs us Q I r reading
  obtain ⟨a, ks, rfl, ha, h64, q⟩ := reading
  rw [Vals.ref1 r]
  obtain ⟨out, rel, tup, hz⟩ := I.tuple ha
  have texts : StrsAre out ks := Vals.strs rel
  have len : out.length = ks.length := texts.len_eq
  refine Calls.call_function_entry kind_sorted plain_sorted entry_sorted (args_sorted1 _) ?_
  unfold Builtin.«sorted»; refine wpAny_bind (m := checkCount "sorted" 1 1 _) (wpAny_pure ?_)
  refine wpAny_bind (gather_tup tup (by rw [len, sizeLine_eq]; omega) ?_)
  have grown : ((s.heap.push (seqObj "list" #[] 0)).update s.heap.objs.size (Obj.mapSeq fun x => x ++ out.toArray)).objs.size = s.heap.objs.size + 1 := by rw [Heap.size_update, size_push']
  have keep : ∀ b u, s.heap.get? b = some u → ((s.heap.push (seqObj "list" #[] 0)).update s.heap.objs.size (Obj.mapSeq fun x => x ++ out.toArray)).get? b = some u := fun b u e => by
    rw [Heap.get?_update_ne _ _ _ _ (Nat.ne_of_lt (Heap.lt_size e))]
    exact Heap.get?_push_of_some _ e
  generalize (s.heap.push (seqObj "list" #[] 0)).update s.heap.objs.size (Obj.mapSeq fun x => x ++ out.toArray) = h1 at grown keep
  refine wpAny_bind (wpAny_newList ?_ (by rw [len, sizeLine_eq]; omega))
  have at_l : (h1.push (seqObj "list" out.toArray 0)).get? h1.objs.size = some (seqObj "list" out.toArray 0) := Heap.get?_push_size _ rfl
  refine wpAny_bind (wpAny_holding (wpAny_call_entry slot_list_sort ⟨_, at_l, rfl⟩ entry_list_sort
    (list_sort_treeK strKind_oneLt (s := { s with heap := h1.push (seqObj "list" out.toArray 0) }) at_l texts.keysOf (fun v₁ v₂ rest e => keyKind_strs (by rw [← e]; exact texts)) (by rw [len]; exact h64) fun st' hp hs => ⟨_, rfl, ?_⟩)
    (args_list_sort _)))
  obtain ⟨ys, g1, g2, g3⟩ := sorted_out_str texts hp hs
  obtain ⟨c, at_out⟩ := sortedHeap_at (vs := out) (out := (arrOf st').map (·.2)) at_l
  have lenys : (ys.map V.str).length ≤ sizeLine := by rw [List.length_map, g2.length_eq, sizeLine_eq]; omega
  have keep2 : ∀ b u, s.heap.get? b = some u → (sortedHeap (h1.push (seqObj "list" out.toArray 0)) h1.objs.size out ((arrOf st').map (·.2))).get? b = some u := fun b u e => by
    have e1 := keep b u e
    have lt := Heap.lt_size e1
    rw [sortedHeap_old (Nat.ne_of_lt lt) (by rw [size_push']; exact Nat.lt_succ_of_lt lt)]
    exact Heap.get?_push_of_some _ e1
  have grow : s.heap.objs.size ≤ h1.objs.size := by omega
  have fresh : H h1.objs.size = none := I.hok.fresh grow
  exact wpAny_pure ⟨_, rfl, .ref h1.objs.size, upd H h1.objs.size (.lst (ys.map V.str)), I.laid (t' := s.toks) keep2 grow ⟨lenys, ((arrOf st').map (·.2)).toList, c, vals_of_strs g1, by rw [Array.toArray_toList]; exact at_out⟩, rfl, q ys _ g2 g3 fresh⟩
/-- of a list or a tuple -/
def rSortedLU (K : PySem.W.Frag) : List V → Hp → VK → Prop := fun vs H Q => ∃ (a : Addr) (ks : List Str), vs = [.ref a] ∧ (SqL K H a (ks.map V.str) ∨ SqT K H a (ks.map V.str)) ∧ ks.length < 64 ∧
  ∀ (ys : List Str) (p : Addr), ys.Perm ks → sortedS ys = true → H p = none → Q (.ref p) (upd H p (.lst (ys.map V.str)))
theorem cr_sortedLU : CallR X (.builtin "sorted") (rSortedLU X.K) := by
  intro pins s σ H vs us Q I r reading
  obtain ⟨a, ks, rfl, ha, h64, q⟩ := reading
  rcases ha with ha | ha
  · exact cr_sortedS pins s σ H _ us Q I r ⟨a, ks, rfl, ha, h64, q⟩
  · exact cr_sortedU pins s σ H _ us Q I r ⟨a, ks, rfl, ha, h64, q⟩
end
end Rw
end T_S4

section T_P3
set_option Elab.async false
set_option linter.all false
set_option maxRecDepth 100000
set_option maxHeartbeats 4000000
namespace Rw
open PySem L2 PyProof.Rows
section
variable {P : Program} {w : World} {K : PySem.W.Frag} {mg : Str → Option Value} {base : Heap}
/-! ### are_different, of a list -/
def spDiff (K : PySem.W.Frag) : Sp := fun vs H Q _ => ∃ (a n : Addr) (ss zs : List Str), vs = [.ref a, .ref n] ∧ SqS K H a ss ∧ SqS K H n zs ∧ ss.Nodup ∧ (∀ z ∈ ss, z ∈ zs) ∧ ss.length ≤ 100 ∧ ∀ H', Evl.Ex H H' → Q (.bl true) H'
abbrev nDiff : List Str := ["value", "nodes", "item"]
theorem sc_diff : FnScope nDiff ["value", "nodes"] (defScope p_are_different) := ⟨rfl, rfl, rfl, by decide +kernel, rfl, by decide +kernel, by decide +kernel⟩
theorem ok_diff {f fI : Addr} {fd fdI : FuncData} (F : Fun K "are_different" "are_different" p_are_different f fd) (I_ : FnOk P w K mg base CX0 1 fI fdI ["value"] (spIsList K)) (kI : PySem.W.keepIn K (.ref fI) = true) (bI : Binds K fdI ["value"] []) (gI : mg "is_list" = some (.ref fI))
    (mLen : mg "len" = none) (mAll : mg "all" = none) (mSet : mg "set" = none) : FnOk P w K mg base CX0 2 f fd ["value", "nodes"] (spDiff K) := by
  refine F.ok sc_diff (fun vs H Q E h => ?_) (fun cdv A outer s H vs Q E hr h => ?_)
  · obtain ⟨a, n, ss, zs, rfl, _⟩ := h
    rfl
  · obtain ⟨a, n, ss, zs, rfl, ha, hn, hnd, hsub, hl, k⟩ := h
    have nd := sc_diff.nd
    rcases ha with ha | ha
    · refine ⟨_, pss_one (ps_ret (pe_and (pe_call I_ hr rfl gI kI bI .nil pass0 (pa_cons (pv 0) pa_nil))
        (pe_and (pe_callB (cr_all rfl) (by rfl) mAll (by decide +kernel) (pa_cons (pe_lc (own := [("item", 2)]) (g := gName 2) (tt := tYes) (te := tOp (rIn K false) (tVar 2) (tVar 1)) rfl nd (pi_list (pv 0)) (blkOk_by (own := [("item", 2)]) (N := nDiff) (sc := defScope p_are_different) (by decide +kernel))
            (fun _ _ _ _ _ => pg_name (i := 2) nd rfl (Or.inl rfl)) (fun _ _ _ _ _ => pts_nil) (fun _ _ _ _ _ => pe_cmpR op_in_seq (pv 2) (pv 1) rfl)) pa_nil))
          (pe_one (pe_cmpR op_eq (pe_callB cr_lenX (by rfl) mLen PySem.boot_len (pa_cons (pe_callTy (cr_setX rfl) (by rfl) mSet (by decide +kernel) (pa_cons (pv 0) pa_nil)) pa_nil)) (pe_callB call_len (by rfl) mLen PySem.boot_len (pa_cons (pv 0) pa_nil)) (nomark _)))))), ?_⟩
      refine ⟨.ref a, rfl, a, _, rfl, .inl ha, fun H1 e1 => ⟨true, rfl, ?_⟩⟩
      refine iteT ?_
      refine ⟨.ref a, rfl, a, rfl, ⟨_, Evl.ex_l e1 ha⟩, fun D hD => lc_trues (Evl.ex_l e1 ha) hD (by rw [List.length_map]; omega) (fun i x H2 Q1 R hi e2 go => ?_) (fun H2 e2 d2 => ?_)⟩
      · obtain ⟨z, hz, rfl⟩ := str_at hi
        refine ⟨rfl, ?_⟩
        refine yes_if ?_
        refine ⟨.str z, rfl, .ref n, rfl, n, zs.map V.str, rfl, (hn.ex (e1.trans e2)).sq, rfl, flat_strs zs, ?_⟩
        rw [inV_str, decide_eq_true (hsub z (List.mem_of_getElem? hz))]
        exact go _ (Evl.Ex.refl _)
      · refine ⟨D, _, rfl, Evl.sq_of d2, ?_⟩
        rw [all_trues]
        refine ⟨true, rfl, ?_⟩
        refine iteT ?_
        have e12 := e1.trans e2
        refine ⟨.ref a, rfl, a, ss, rfl, .inl (Evl.ex_l e12 ha), by omega, fun p hp => ?_⟩
        have e3 := Evl.Ex.new (o := SetXO w p (seen ss)) hp
        refine ⟨p, seen ss, rfl, upd_same, .ref a, rfl, .ref a, (ss.map V.str).length, rfl, .inl ⟨_, Evl.ex_l (e12.trans e3) ha, rfl⟩, rfl, ?_⟩
        rw [seen_len hnd, List.length_map, decide_eq_true rfl]
        exact k _ (e12.trans e3)
    · refine ⟨_, pss_one (ps_ret (pe_and (pe_call I_ hr rfl gI kI bI .nil pass0 (pa_cons (pv 0) pa_nil))
        (pe_and (pe_callB (cr_all rfl) (by rfl) mAll (by decide +kernel) (pa_cons (pe_lc (own := [("item", 2)]) (g := gName 2) (tt := tYes) (te := tOp (rIn K false) (tVar 2) (tVar 1)) rfl nd (pi_tup (pv 0)) (blkOk_by (own := [("item", 2)]) (N := nDiff) (sc := defScope p_are_different) (by decide +kernel))
            (fun _ _ _ _ _ => pg_name (i := 2) nd rfl (Or.inl rfl)) (fun _ _ _ _ _ => pts_nil) (fun _ _ _ _ _ => pe_cmpR op_in_seq (pv 2) (pv 1) rfl)) pa_nil))
          (pe_one (pe_cmpR op_eq (pe_callB cr_lenX (by rfl) mLen PySem.boot_len (pa_cons (pe_callTy (cr_setX rfl) (by rfl) mSet (by decide +kernel) (pa_cons (pv 0) pa_nil)) pa_nil)) (pe_callB call_len (by rfl) mLen PySem.boot_len (pa_cons (pv 0) pa_nil)) (nomark _)))))), ?_⟩
      refine ⟨.ref a, rfl, a, _, rfl, .inr ha, fun H1 e1 => ⟨true, rfl, ?_⟩⟩
      refine iteT ?_
      refine ⟨.ref a, rfl, a, rfl, ⟨_, Evl.ex_t e1 ha⟩, fun D hD => lc_truesT (Evl.ex_t e1 ha) hD (by rw [List.length_map]; omega) (fun i x H2 Q1 R hi e2 go => ?_) (fun H2 e2 d2 => ?_)⟩
      · obtain ⟨z, hz, rfl⟩ := str_at hi
        refine ⟨rfl, ?_⟩
        refine yes_if ?_
        refine ⟨.str z, rfl, .ref n, rfl, n, zs.map V.str, rfl, (hn.ex (e1.trans e2)).sq, rfl, flat_strs zs, ?_⟩
        rw [inV_str, decide_eq_true (hsub z (List.mem_of_getElem? hz))]
        exact go _ (Evl.Ex.refl _)
      · refine ⟨D, _, rfl, Evl.sq_of d2, ?_⟩
        rw [all_trues]
        refine ⟨true, rfl, ?_⟩
        refine iteT ?_
        have e12 := e1.trans e2
        refine ⟨.ref a, rfl, a, ss, rfl, .inr (Evl.ex_t e12 ha), by omega, fun p hp => ?_⟩
        have e3 := Evl.Ex.new (o := SetXO w p (seen ss)) hp
        refine ⟨p, seen ss, rfl, upd_same, .ref a, rfl, .ref a, (ss.map V.str).length, rfl, .inr ⟨_, Evl.ex_t (e12.trans e3) ha, rfl⟩, rfl, ?_⟩
        rw [seen_len hnd, List.length_map, decide_eq_true rfl]
        exact k _ (e12.trans e3)
/-! ### are_nodes -/
def spNodes : Sp := fun vs H Q _ => ∃ (a b : Addr) (zs es : List Str), vs = [.ref a, .ref b] ∧ H a = some (.lst (zs.map V.str)) ∧ H b = some (.lst (es.map V.str)) ∧ 1 ≤ zs.length ∧ zs.length ≤ 6 ∧ (∀ z ∈ zs, Nm z ∧ z ∉ es) ∧ ∀ H', Evl.Ex H H' → Q (.bl true) H'
abbrev nNodes : List Str := ["names", "goals", "name"]
theorem sc_nodes : FnScope nNodes ["names", "goals"] (defScope p_are_nodes) := ⟨rfl, rfl, rfl, by decide +kernel, rfl, by decide +kernel, by decide +kernel⟩
theorem ok_nodes {f fI : Addr} {fd fdI : FuncData} {tk : Tok} (F : Fun K "are_nodes" "are_nodes" p_are_nodes f fd) (I_ : FnOk P w K mg base CX0 1 fI fdI ["value"] spIsName) (kI : PySem.W.keepIn K (.ref fI) = true) (bI : Binds K fdI ["value"] []) (gI : mg "is_name" = some (.ref fI))
    (mLen : mg "len" = none) (mAll : mg "all" = none) (mMost : mg "MOST_NODES" = some (.int 6 tk)) : FnOk P w K mg base CX0 2 f fd ["names", "goals"] spNodes := by
  refine F.ok sc_nodes (fun vs H Q E h => ?_) (fun cdv A outer s H vs Q E hr h => ?_)
  · obtain ⟨a, b, zs, es, rfl, _⟩ := h
    rfl
  · obtain ⟨a, b, zs, es, rfl, ha, hb, h1, h6, hz, k⟩ := h
    have nd := sc_nodes.nd
    refine ⟨_, pss_one (ps_ret (pe_and (pe_chain op_le op_le pe_int (pe_callB call_len (by rfl) mLen PySem.boot_len (pa_cons (pv 0) pa_nil)) (pe_glob (v := .int 6) (by rfl) mMost ⟨_, rfl⟩))
      (pe_one (pe_callB (cr_all rfl) (by rfl) mAll (by decide +kernel) (pa_cons (pe_lc (own := [("name", 2)]) (g := gName 2) (tt := tYes) (te := tAndV (tCall spIsName [] E0 (tCons (tVar 2) tNil)) (tOp (rIn K true) (tVar 2) (tVar 1))) rfl nd (pi_list (pv 0)) (blkOk_by (own := [("name", 2)]) (N := nNodes) (sc := defScope p_are_nodes) (by decide +kernel))
          (fun _ _ _ _ _ => pg_name (i := 2) nd rfl (Or.inl rfl)) (fun _ _ _ _ _ => pts_nil) (fun _ _ _ _ _ => pe_and (pe_call I_ hr rfl gI kI bI .nil pass0 (pa_cons (pv 2) pa_nil)) (pe_one (pe_cmpR op_notIn_seq (pv 2) (pv 1) rfl)))) pa_nil))))), ?_⟩
    refine ⟨.ref a, rfl, .ref a, (zs.map V.str).length, rfl, .inl ⟨_, Evl.sq_of ha, rfl⟩, 1, ((zs.map V.str).length : Int), rfl, rfl, true, congrArg V.bl (decide_eq_true (show (1 : Int) ≤ ((zs.map V.str).length : Int) by rw [List.length_map]; omega)), ?_⟩
    refine iteT ?_
    refine ⟨_, 6, rfl, rfl, true, congrArg V.bl (decide_eq_true (show ((zs.map V.str).length : Int) ≤ 6 by rw [List.length_map]; omega)), ?_⟩
    refine iteT ?_
    refine ⟨.ref a, rfl, a, rfl, ⟨_, Evl.sq_of ha⟩, fun D hD => lc_trues (Evl.sq_of ha) hD (by rw [List.length_map]; omega) (fun i x H2 Q1 R hi e2 go => ?_) (fun H2 e2 d2 => ?_)⟩
    · obtain ⟨z, hz', rfl⟩ := str_at hi
      have hh := hz z (List.mem_of_getElem? hz')
      refine ⟨rfl, ?_⟩
      refine yes_if ?_
      refine ⟨.str z, rfl, z, rfl, hh.1, fun H3 e3 => ⟨true, rfl, ?_⟩⟩
      refine iteT ?_
      refine ⟨.str z, rfl, .ref b, rfl, b, es.map V.str, rfl, .inl (Evl.sq_of ((e2.trans e3) _ _ hb)), rfl, flat_strs es, ?_⟩
      rw [inV_str, decide_eq_false hh.2]
      exact go _ e3
    · refine ⟨D, _, rfl, Evl.sq_of d2, ?_⟩
      rw [all_trues]
      exact k _ e2
/-! ### is_pair_of_dicts -/
def spPairD : Sp := fun vs H Q _ => ∃ (p po pn : Addr) (k1 k2 : List (Key × V)), vs = [.ref p] ∧ H p = some (.tup [.ref po, .ref pn]) ∧ H po = some (.dK k1) ∧ H pn = some (.dK k2) ∧ ∀ H', Evl.Ex H H' → Q (.bl true) H'
abbrev nPairD : List Str := ["value", "part"]
theorem sc_pairD : FnScope nPairD ["value"] (defScope p_is_pair_of_dicts) := ⟨rfl, rfl, rfl, by decide +kernel, rfl, by decide +kernel, by decide +kernel⟩
theorem ok_pairD {f : Addr} {fd : FuncData} (F : Fun K "is_pair_of_dicts" "is_pair_of_dicts" p_is_pair_of_dicts f fd) (mIsi : mg "isinstance" = none) (mTup : mg "tuple" = none) (mDict : mg "dict" = none) (mLen : mg "len" = none) (mAll : mg "all" = none) : FnOk P w K mg base CX0 1 f fd ["value"] spPairD := by
  refine F.ok sc_pairD (fun vs H Q E h => ?_) (fun cdv A outer s H vs Q E hr h => ?_)
  · obtain ⟨p, po, pn, k1, k2, rfl, _⟩ := h
    rfl
  · obtain ⟨p, po, pn, k1, k2, rfl, hp, ho, hn, k⟩ := h
    have nd := sc_pairD.nd
    refine ⟨_, pss_one (ps_ret (pe_and (pe_callB call_isi (by rfl) mIsi (by decide +kernel) (pa_cons (pv 0) (pa_cons (pe_bltn (v := .ty "tuple") (by rfl) mTup (by decide +kernel) rfl) pa_nil)))
      (pe_and (pe_cmpR op_eq (pe_callB call_len (by rfl) mLen PySem.boot_len (pa_cons (pv 0) pa_nil)) pe_int (nomark _))
        (pe_one (pe_callB (cr_all rfl) (by rfl) mAll (by decide +kernel) (pa_cons (pe_lc (own := [("part", 1)]) (g := gName 1) (tt := tYes) (te := tCB (rIsi K) (tCons (tVar 1) (tCons (tC (.ty "dict")) tNil))) rfl nd (pi_tup (pv 0)) (blkOk_by (own := [("part", 1)]) (N := nPairD) (sc := defScope p_is_pair_of_dicts) (by decide +kernel))
          (fun _ _ _ _ _ => pg_name (i := 1) nd rfl (Or.inl rfl)) (fun _ _ _ _ _ => pts_nil) (fun _ _ _ _ _ => pe_callB call_isi (by rfl) mIsi (by decide +kernel) (pa_cons (pv 1) (pa_cons (pe_bltn (v := .ty "dict") (by rfl) mDict (by decide +kernel) rfl) pa_nil)))) pa_nil)))))), ?_⟩
    refine ⟨.ref p, rfl, .ref p, .ty "tuple", _, _, true, rfl, .ty _, .base (.tup hp), kit_ty (by decide +kernel), true, rfl, ?_⟩
    refine iteT ?_
    refine ⟨.ref p, rfl, .ref p, 2, rfl, .inr ⟨_, Evl.st_of hp, rfl⟩, rfl, true, rfl, ?_⟩
    refine iteT ?_
    refine ⟨.ref p, rfl, p, rfl, ⟨_, Evl.st_of hp⟩, fun D hD => lc_truesT (Evl.st_of hp) hD (by show 2 < 1000; decide) (fun i x H2 Q1 R hi e2 go => ?_) (fun H2 e2 d2 => ?_)⟩
    · refine ⟨rfl, ?_⟩
      refine yes_if ?_
      match i, hi with
      | 0, hi =>
        cases hi
        exact ⟨.ref po, rfl, .ref po, .ty "dict", _, _, true, rfl, .ty _, .base (.dK (e2 _ _ ho)), kit_ty (by decide +kernel), go _ (Evl.Ex.refl _)⟩
      | 1, hi =>
        cases hi
        exact ⟨.ref pn, rfl, .ref pn, .ty "dict", _, _, true, rfl, .ty _, .base (.dK (e2 _ _ hn)), kit_ty (by decide +kernel), go _ (Evl.Ex.refl _)⟩
      | n + 2, hi => simp at hi
    · refine ⟨D, _, rfl, Evl.sq_of d2, ?_⟩
      rw [all_trues]
      exact k _ e2
end
end Rw
end T_P3

section T_P4
set_option Elab.async false
set_option linter.all false
set_option maxRecDepth 100000
set_option maxHeartbeats 4000000
namespace Rw
open PySem L2 PyProof.Rows
section
variable {P : Program} {w : World} {K : PySem.W.Frag} {mg : Str → Option Value} {base : Heap}
/-! ### are_tables -/
def spTables : Sp := fun vs H Q _ => ∃ (t : Addr) (ends dots : List Str) (rows : List (Str × V)), vs = [.ref t] ∧ H t = some (.dK (tkv rows)) ∧ rows.map (·.1) = ends ∧ RowsOk H dots rows ∧ 0 < ends.length ∧ ends.length ≤ 2 ∧ (∀ z ∈ ends, Nm z) ∧
  0 < dots.length ∧ dots.length ≤ 6 ∧ (∀ z ∈ dots, Nm z ∧ z ∉ ends) ∧ ∀ H', Evl.Ex H H' → Q (.bl true) H'
abbrev nTables : List Str := ["value", "goals", "nodes", "goal", "table"]
theorem sc_tables : FnScope nTables ["value"] (defScope p_are_tables) := ⟨rfl, rfl, rfl, by decide +kernel, rfl, by decide +kernel, by decide +kernel⟩
theorem ok_tables {f f1 f2 f3 f4 : Addr} {fd fd1 fd2 fd3 fd4 : FuncData} {tk : Tok} (F : Fun K "are_tables" "are_tables" p_are_tables f fd)
    (F1 : FnOk P w K mg base CX0 1 f1 fd1 ["value"] spIsName) (k1 : PySem.W.keepIn K (.ref f1) = true) (b1 : Binds K fd1 ["value"] []) (g1 : mg "is_name" = some (.ref f1))
    (F2 : FnOk P w K mg base CX0 1 f2 fd2 ["value"] spPairD) (k2 : PySem.W.keepIn K (.ref f2) = true) (b2 : Binds K fd2 ["value"] []) (g2 : mg "is_pair_of_dicts" = some (.ref f2))
    (F3 : FnOk P w K mg base CX0 2 f3 fd3 ["names", "goals"] spNodes) (k3 : PySem.W.keepIn K (.ref f3) = true) (b3 : Binds K fd3 ["names", "goals"] []) (g3 : mg "are_nodes" = some (.ref f3))
    (F4 : FnOk P w K mg base CX0 2 f4 fd4 ["table", "nodes", "goal"] spTable) (k4 : PySem.W.keepIn K (.ref f4) = true) (b4 : Binds K fd4 ["table", "nodes", "goal"] []) (g4 : mg "is_table" = some (.ref f4))
    (mIsi : mg "isinstance" = none) (mDict : mg "dict" = none) (mList : mg "list" = none) (mLen : mg "len" = none) (mAll : mg "all" = none) (mMost : mg "MOST_GOALS" = some (.int 2 tk)) :
    FnOk P w K mg base CX0 3 f fd ["value"] spTables := by
  refine F.ok sc_tables (fun vs H Q E h => ?_) (fun cdv A outer s H vs Q E hr h => ?_)
  · obtain ⟨t, ends, dots, rows, rfl, _⟩ := h
    rfl
  · obtain ⟨t, ends, dots, rows, rfl, ht, hk, hro, e0, e2, he, d0, d6, hd, k⟩ := h
    have nd := sc_tables.nd
    have hu := hu_of hr
    have hr1 : Room 1 _ := hr.mono (by decide)
    refine ⟨_, pss_cons (ps_if (PW.pt (pw_or (pt_not (pt_val (pe_callB call_isi (by rfl) mIsi (by decide +kernel) (pa_cons (pv 0) (pa_cons (pe_bltn (v := .ty "dict") (by rfl) mDict (by decide +kernel) rfl) pa_nil)))))
          (pw_or1 (pt_not (pt_chain op_le op_le pe_int (pe_callB call_lenD (by rfl) mLen PySem.boot_len (pa_cons (pv 0) pa_nil)) (pe_glob (v := .int 2) (by rfl) mMost ⟨_, rfl⟩)))))) (pss_one (ps_ret pe_bl)) pss_nil)
      (pss_cons (ps_if (pt_not (pt_val (pe_callB (cr_all rfl) (by rfl) mAll (by decide +kernel) (pa_cons (pe_lock (pe_lc (own := [("goal", 3)]) (g := gName 3) (tt := tYes) (te := tAndV (tCall spIsName [] E0 (tCons (tVar 3) tNil)) (tCall spPairD [] E0 (tCons (tDGet (tVar 0) (tVar 3)) tNil))) rfl nd (pi_keys (pv 0)) (blkOk_by (own := [("goal", 3)]) (N := nTables) (sc := defScope p_are_tables) (by decide +kernel))
          (fun _ _ _ _ _ => pg_name (i := 3) nd rfl (Or.inl rfl)) (fun _ _ _ _ _ => pts_nil) (fun _ _ _ _ _ => pe_and (pe_call F1 hr1 rfl g1 k1 b1 .nil pass0 (pa_cons (pv 3) pa_nil)) (pe_one (pe_call F2 hr1 rfl g2 k2 b2 .nil pass0 (pa_cons (pe_dget hu (pv 0) (pv 3) (fun _ _ => rfl)) pa_nil)))))) pa_nil)))) (pss_one (ps_ret pe_bl)) pss_nil)
      (pss_cons (ps_set (i := 1) nd rfl (.inl rfl) (pe_callTy (call_listD rfl) (by rfl) mList (by decide +kernel) (pa_cons (pv 0) pa_nil)))
      (pss_cons (ps_set (i := 2) nd rfl (.inr rfl) (pe_callTy (call_listD rfl) (by rfl) mList (by decide +kernel) (pa_cons (pe_ix ix_tup (pe_dget hu (pv 0) (pe_ix ix_list (pv 1) pe_int (fun _ _ => rfl)) (fun _ _ => rfl)) pe_int (fun _ _ => rfl)) pa_nil)))
      (pss_cons (ps_if (pt_not (pt_val (pe_call F3 hr rfl g3 k3 b3 .nil pass0 (pa_cons (pv 2) (pa_cons (pv 1) pa_nil))))) (pss_one (ps_ret pe_bl)) pss_nil)
      (pss_one (ps_ret (pe_callB (cr_all rfl) (by rfl) mAll (by decide +kernel) (pa_cons
        (pe_lc2 (own := [("goal", 3), ("table", 4)]) (vs1 := [4]) (g := gName 3) (tt := tYes) (g1 := gName 4) (tt1 := tYes) (wi1 := iTup K (tDGet (tVar 0) (tVar 3))) (te := tCall spTable [] E0 (tCons (tVar 4) (tCons (tVar 2) (tCons (tVar 3) tNil)))) rfl nd (pi_list (pv 1)) (blkOk_by (own := [("goal", 3), ("table", 4)]) (N := nTables) (sc := defScope p_are_tables) (by decide +kernel)) (by decide)
          (fun _ _ _ _ _ => pg_name (i := 3) nd rfl (Or.inl rfl)) (fun _ _ _ _ _ => pts_nil) (fun _ _ _ _ _ => pi_tup (pe_dget hu (pv 0) (pv 3) (fun _ _ => rfl))) (fun _ _ _ _ _ => pg_name (i := 4) nd rfl (Or.inl rfl)) (fun _ _ _ _ _ => pts_nil)
          (fun _ _ _ _ _ => pe_call F4 hr rfl g4 k4 b4 .nil pass0 (pa_cons (pv 4) (pa_cons (pv 2) (pa_cons (pv 3) pa_nil))))) pa_nil)))))))), ?_⟩
    have rl : rows.length = ends.length := by rw [← hk, List.length_map]
    have rne : rows ≠ [] := fun z => by rw [z] at rl; simp at rl; omega
    have tl : (tkv rows).length = ends.length := by rw [tkv_len, rl]
    -- a row by its goal, where t may be locked
    have row : ∀ z ∈ ends, ∃ (p po pn : Addr) (t1 t2 : List (Str × V)), valV (tkv rows) (Sum.inr z) = some (.ref p) ∧ PairAt H dots z p po pn t1 t2 ∧ p ≠ t ∧ po ≠ t ∧ pn ≠ t := fun z hz => by
      obtain ⟨v, hv1, hv2⟩ := tkv_some (tb := rows) (z := z) (by rw [hk]; exact hz)
      obtain ⟨p, po, pn, t1, t2, e1, pa⟩ := hro _ hv2
      have e1' : v = .ref p := e1
      subst e1'
      exact ⟨p, po, pn, t1, t2, hv1, pa, ne_of pa.hp ht (by intro z; cases z), tab_ne ht hro rne pa.ho pa.o1, tab_ne ht hro rne pa.hn pa.o2⟩
    -- if not isinstance(value, dict) or not ..
    refine ⟨.ref t, rfl, .ref t, .ty "dict", _, _, true, rfl, .ty _, .base (.dK ht), kit_ty (by decide +kernel), true, rfl, ?_⟩
    refine ⟨.ref t, rfl, t, _, rfl, ht, 1, ((tkv rows).length : Int), rfl, rfl, true, congrArg V.bl (decide_eq_true (show (1 : Int) ≤ ((tkv rows).length : Int) by omega)), ?_⟩
    refine ⟨_, 2, rfl, rfl, true, congrArg V.bl (decide_eq_true (show ((tkv rows).length : Int) ≤ 2 by omega)), ?_⟩
    -- if not all([.. for goal in value])
    refine ⟨t, .dK (tkv rows), ht, trivial, fun od => ⟨.ref t, rfl, t, od, rfl, .inl ⟨tkv rows, upd_same, fun D hD => lc_truesW (Yx := fun i x => ∃ k v, (tkv rows)[i]? = some (k, v) ∧ x = kV k) walk_keys (fun H1 e1 => e1 _ _ upd_same) hD (by omega) (fun i x H1 Q1 R hi hx e1 go => ?_) (fun H1 e1 d1 => ?_)⟩⟩⟩
    · obtain ⟨kk, v, hkv, rfl⟩ := hx
      obtain ⟨z, rfl, hz⟩ : ∃ z : Str, kk = Sum.inr z ∧ z ∈ ends := by
        unfold tkv at hkv
        rw [List.getElem?_map] at hkv
        cases q : rows[i]? with
        | none => rw [q] at hkv; cases hkv
        | some q' =>
          rw [q] at hkv
          have := congrArg Prod.fst (Option.some.inj hkv)
          refine ⟨q'.1, this.symm, ?_⟩
          rw [← hk]
          exact List.mem_map_of_mem (List.mem_of_getElem? q)
      obtain ⟨p, po, pn, t1, t2, hv, pa, n1, n2, n3⟩ := row z hz
      refine ⟨rfl, ?_⟩
      refine yes_if ?_
      refine ⟨.str z, rfl, z, rfl, he z hz, fun H2 e2' => ⟨true, rfl, ?_⟩⟩
      refine iteT ?_
      have e12 := e1.trans e2'
      have gt : DGet H2 t (.str z) (some (.ref p)) := .inl ⟨tkv rows, Sum.inr z, .inr ⟨od, e12 _ _ upd_same⟩, rfl, hv.symm⟩
      have up : ∀ {a : Addr} {o : HO}, H a = some o → a ≠ t → H2 a = some o := fun {a o} h ne => e12 _ _ (by rw [upd_ne ne]; exact h)
      exact ⟨.ref t, rfl, .str z, rfl, t, .ref p, rfl, gt, p, po, pn, _, _, rfl, up pa.hp n1, up pa.ho n2, up pa.hn n3, fun H3 e3 => go H3 (e2'.trans e3)⟩
    · have ft : H1 t = some (.frz od (.dK (tkv rows))) := e1 _ _ upd_same
      have nDt : D ≠ t := (ne_of_none (show (upd H t (.frz od (.dK (tkv rows)))) t = some _ from upd_same) hD).symm
      refine ⟨ft, ?_⟩
      have x1 : Evl.Ex H (upd H1 t (.dK (tkv rows))) := fun a o h => by
        by_cases e : a = t
        · subst e
          rw [upd_same, ← ht, h]
        · rw [upd_ne e]
          exact e1 _ _ (by rw [upd_ne e]; exact h)
      have d2 : (upd H1 t (.dK (tkv rows))) D = some (.lst ((List.replicate (tkv rows).length true).map V.bl)) := by rw [upd_ne nDt]; exact d1
      generalize upd H1 t (.dK (tkv rows)) = H2 at x1 d2
      refine ⟨D, _, rfl, Evl.sq_of d2, ?_⟩
      rw [all_trues]
      refine ⟨true, rfl, ?_⟩
      -- goals = list(value)
      refine ⟨.ref t, rfl, t, _, rfl, .inl (x1 _ _ ht), fun gl hgl => ?_⟩
      rw [tkv_keysV, hk]
      have x2 : Evl.Ex H (upd H2 gl (.lst (ends.map V.str))) := x1.trans (Evl.Ex.new hgl)
      have eg : (upd H2 gl (.lst (ends.map V.str))) gl = some (.lst (ends.map V.str)) := upd_same
      generalize upd H2 gl (.lst (ends.map V.str)) = H3 at x2 eg
      -- nodes = list(value[goals[0]][0])
      obtain ⟨z0, r0, ez0⟩ : ∃ z0 r0, ends = z0 :: r0 := by
        cases q : ends with
        | nil => rw [q] at e0; simp at e0
        | cons z0 r0 => exact ⟨z0, r0, rfl⟩
      obtain ⟨p, po, pn, t1, t2, hv, pa, n1, n2, n3⟩ := row z0 (by rw [ez0]; exact List.mem_cons_self)
      have at0 : (ends.map V.str)[0]? = some (.str z0) := by rw [ez0]; rfl
      have dg : ∀ {Hx : Hp} {z : Str} {p : Addr}, Evl.Ex H Hx → valV (tkv rows) (Sum.inr z) = some (.ref p) → DGet Hx t (.str z) (some (.ref p)) := fun {Hx z p} x hv => by
        have q := DGet.k (k := Sum.inr z) (x _ _ ht)
        rw [hv] at q
        exact q
      refine ⟨.ref t, rfl, .ref gl, rfl, gl, _, 0, .str z0, rfl, rfl, Evl.sq_of eg, atI_nat (j := 0) at0, t, .ref p, rfl, dg x2 hv, p, _, 0, .ref po, rfl, rfl, Evl.st_of (x2 _ _ pa.hp), atI_nat (j := 0) rfl, po, _, rfl, .inl (x2 _ _ pa.ho), fun nl hnl => ?_⟩
      rw [tkv_keysV]
      have x3 : Evl.Ex H3 (upd H3 nl (.lst ((t1.map (·.1)).map V.str))) := Evl.Ex.new hnl
      have en : (upd H3 nl (.lst ((t1.map (·.1)).map V.str))) nl = some (.lst ((t1.map (·.1)).map V.str)) := upd_same
      generalize upd H3 nl (.lst ((t1.map (·.1)).map V.str)) = H4 at x3 en
      have pk := pa.o1.ks
      -- if not are_nodes(nodes, goals)
      refine ⟨.ref nl, rfl, .ref gl, rfl, nl, gl, t1.map (·.1), ends, rfl, en, x3 _ _ eg, by rw [pk.length_eq]; omega, by rw [pk.length_eq]; exact d6, fun z hz => hd z (pk.subset hz), fun H5 x4 => ⟨true, rfl, ?_⟩⟩
      have x5 : Evl.Ex H H5 := (x2.trans x3).trans x4
      have en5 := x4 _ _ en
      have eg5 := (x3.trans x4) _ _ eg
      -- the tables
      refine ⟨.ref gl, rfl, gl, rfl, ⟨_, Evl.sq_of eg5⟩, fun D2 hD2 => ⟨fun i m H6 => m = ends.length - i ∧ i ≤ ends.length ∧ Evl.Ex H5 H6 ∧ ∃ n, n ≤ 2 * i ∧ H6 D2 = some (.lst ((List.replicate n true).map V.bl)), ⟨ends.length, rfl, Nat.zero_le _, Evl.Ex.new hD2, 0, Nat.le_refl _, upd_same⟩, ?_⟩⟩
      rintro i m H6 ⟨rfl, hi, x6, n, hn, d6'⟩
      by_cases hlt : i < ends.length
      · have gi : (ends.map V.str)[i]? = some (.str ends[i]) := by rw [List.getElem?_map, List.getElem?_eq_getElem hlt]; rfl
        refine .inr ⟨⟨_, _, Evl.sq_of (x6 _ _ eg5), gi⟩, fun H' => i + 1 ≤ ends.length ∧ Evl.Ex H5 H' ∧ ∃ n, n ≤ 2 * (i + 1) ∧ H' D2 = some (.lst ((List.replicate n true).map V.bl)), fun H' h => ⟨ends.length - (i + 1), by omega, rfl, h⟩, fun x H' hy => ?_⟩
        obtain ⟨rfl, fv⟩ := hy
        have ex : x = .str ends[i] := Option.some.inj ((fv _ (Evl.sq_of (x6 _ _ eg5))).symm.trans gi)
        subst ex
        obtain ⟨p2, po2, pn2, t3, t4, hv2, pa2, m1, m2, m3⟩ := row ends[i] (List.getElem_mem hlt)
        have pa6 := pa2.ex x5
        refine ⟨rfl, ?_⟩
        refine yes_if ?_
        refine ⟨.ref t, rfl, .str ends[i], rfl, t, .ref p2, rfl, dg (x5.trans x6) hv2, p2, rfl, ⟨_, Evl.st_of (x6 _ _ pa6.hp)⟩, fun j k' H7 => k' = 2 - j ∧ j ≤ 2 ∧ Evl.Ex H5 H7 ∧ ∃ n, n ≤ 2 * i + j ∧ H7 D2 = some (.lst ((List.replicate n true).map V.bl)), ⟨2, rfl, Nat.zero_le _, x6, n, hn, d6'⟩, ?_⟩
        rintro j k' H7 ⟨rfl, hj, x7, n', hn', d7⟩
        by_cases hjl : j < 2
        · obtain ⟨tt, tbx, gj, htx, otx⟩ : ∃ (tt : Addr) (tbx : List (Str × V)), ([V.ref po2, V.ref pn2] : List V)[j]? = some (.ref tt) ∧ H7 tt = some (.dK (tkv tbx)) ∧ TabOk dots ends[i] tbx := by
            match j, hjl with
            | 0, _ => exact ⟨po2, t3, rfl, x7 _ _ pa6.ho, pa6.o1⟩
            | 1, _ => exact ⟨pn2, t4, rfl, x7 _ _ pa6.hn, pa6.o2⟩
          refine .inr ⟨⟨_, _, Evl.st_of (x7 _ _ pa6.hp), gj⟩, fun H8 => j + 1 ≤ 2 ∧ Evl.Ex H5 H8 ∧ ∃ n, n ≤ 2 * i + (j + 1) ∧ H8 D2 = some (.lst ((List.replicate n true).map V.bl)), fun H8 h => ⟨2 - (j + 1), by omega, rfl, h⟩, fun x H8 hy => ?_⟩
          obtain ⟨rfl, fv2⟩ := hy
          have ex2 : x = .ref tt := Option.some.inj ((fv2 _ (Evl.st_of (x7 _ _ pa6.hp))).symm.trans gj)
          subst ex2
          refine ⟨rfl, ?_⟩
          refine yes_if ?_
          refine ⟨.ref tt, rfl, .ref nl, rfl, .str ends[i], rfl, tt, nl, ends[i], t1.map (·.1), tbx, rfl, htx, x7 _ _ en5, otx.perm pk.symm, by rw [pk.length_eq]; omega, fun H9 x9 => ?_⟩
          refine ⟨_, x9 _ _ d7, by rw [List.length_map, List.length_replicate]; exact small1000 (by omega), by omega, (x7.trans x9).mut hD2, n' + 1, by omega, ?_⟩
          · rw [upd_same, List.replicate_succ', List.map_append]
            rfl
        · refine .inl ⟨⟨_, Evl.st_of (x7 _ _ pa6.hp), by show 2 ≤ j; omega⟩, by omega, x7, n', by omega, d7⟩
      · refine .inl ⟨⟨_, Evl.sq_of (x6 _ _ eg5), by rw [List.length_map]; omega⟩, D2, _, rfl, Evl.sq_of d6', ?_⟩
        rw [all_trues]
        exact k _ (x5.trans x6)
end
end Rw
end T_P4

section T_N1
set_option Elab.async false
set_option linter.all false
set_option maxRecDepth 100000
set_option maxHeartbeats 4000000
namespace Rw
open PySem L2 PyProof.Rows
section
variable {P : Program} {w : World} {K : PySem.W.Frag} {mg : Str → Option Value} {base : Heap}
abbrev nInit : List Str := ["self", "tables", "sources", "posts", "first_old", "_", "nodes", "goal", "old", "new", "node"]
theorem sc_init : FnScope nInit ["self", "tables", "sources", "posts"] (defScope c_Net_init) := ⟨rfl, rfl, rfl, by decide +kernel, rfl, by decide +kernel, by decide +kernel⟩
theorem ok_init {f f1 f2 C : Addr} {fd fd1 fd2 : FuncData} {tk : Tok} {dvs : List V} (F : FunD K "__init__" "Net.__init__" (defArgs c_Net_init) (defBody c_Net_init) (defScope c_Net_init) dvs [] f fd) (T : NetTxt K C)
    (F1 : FnOk P w K mg base CX0 3 f1 fd1 ["value"] spTables) (k1 : PySem.W.keepIn K (.ref f1) = true) (b1 : Binds K fd1 ["value"] []) (g1 : mg "are_tables" = some (.ref f1))
    (F2 : FnOk P w K mg base CX0 2 f2 fd2 ["value", "nodes"] (spDiff K)) (k2 : PySem.W.keepIn K (.ref f2) = true) (b2 : Binds K fd2 ["value", "nodes"] []) (g2 : mg "are_different" = some (.ref f2))
    (mList : mg "list" = none) (mTup : mg "tuple" = none) (mSorted : mg "sorted" = none) (mLen : mg "len" = none) (mMost : mg "MOST_POSTS" = some (.int 2 tk)) :
    FnOk P w K mg base CX0 4 f fd ["self", "tables", "sources", "posts"] (spInit K C) := by
  refine F.ok sc_init (fun vs H Q E h => ?_) (fun cdv A outer s H vs Q E hr h => ?_)
  · obtain ⟨Hb, m, dx, t, s, p, ends, dots, ss, ps, rows, o, n, rfl, _⟩ := h
    rfl
  · obtain ⟨Hb, m, dx, t, s', p, ends, dots, ss, ps, rows, o, n, rfl, hm0, x0, hm, ht, hk, hro, hra, hs, hp, ok, k⟩ := h
    have nd := sc_init.nd
    have hu := hu_of hr
    have hr2 : Room 2 _ := hr.mono (by decide)
    refine ⟨_, PSs.nox (pss_cons (ps_if (pt_not (pt_val (pe_call F1 hr rfl g1 k1 b1 .nil pass0 (pa_cons (pv 1) pa_nil)))) (pss_one ps_never) pss_nil)
      (pss_cons (ps_asg (pe_ix ix_list (pe_listVals rfl (pv 1) (by rfl) mList) pe_int (fun _ _ => rfl)) (pg_tup rfl (pgs_cons (pg_name (i := 4) nd rfl (.inl rfl)) (pgs_cons (pg_name (i := 5) nd rfl (.inl rfl)) pgs_nil))))
      (pss_cons (ps_set (i := 6) nd rfl (.inl rfl) (pe_callTy call_tuple_of (by rfl) mTup (by decide +kernel) (pa_cons (pe_callB (call_sortedD rfl) (by rfl) mSorted (by decide +kernel) (pa_cons (pv 4) pa_nil)) pa_nil)))
      (pss_cons (ps_if (pt_not (pt_val (pe_call F2 hr2 rfl g2 k2 b2 .nil pass0 (pa_cons (pv 2) (pa_cons (pv 6) pa_nil))))) (pss_one ps_never) pss_nil)
      (pss_cons (ps_if (PW.pt (pw_or (pt_not (pt_val (pe_call F2 hr2 rfl g2 k2 b2 .nil pass0 (pa_cons (pv 3) (pa_cons (pv 6) pa_nil))))) (pw_or1 (pt_cmpR op_gt (pe_callB call_len (by rfl) mLen PySem.boot_len (pa_cons (pv 3) pa_nil)) (pe_glob (v := .int 2) (by rfl) mMost ⟨_, rfl⟩) (nomark _))))) (pss_one ps_never) pss_nil)
      (pss_cons (ps_fld (pv 0) pe_dnewK rfl)
      (pss_cons (ps_for PassesOwn.never rfl (pi_list (pe_callB (call_sortedD rfl) (by rfl) mSorted (by decide +kernel) (pa_cons (pv 1) pa_nil))) (pg_name (i := 7) nd rfl (.inl rfl))
        (pss_cons (ps_asg (pe_dget hu (pv 1) (pv 7) (fun _ _ => rfl)) (pg_tup rfl (pgs_cons (pg_name (i := 8) nd rfl (.inr rfl)) (pgs_cons (pg_name (i := 9) nd rfl (.inr rfl)) pgs_nil))))
        (pss_one (ps_dput hu (pe_fld (pv 0) rfl) (pv 7) (pe_tup (pa_cons
            (pe_dc (own := [("node", 10)]) (g := gName 10) (tt := tYes) (tk := tVar 10) (tv := tDGet (tVar 8) (tVar 10)) rfl nd (pi_tup (pv 6)) (blkOk_by (own := [("node", 10)]) (N := nInit) (sc := defScope c_Net_init) (by decide +kernel)) (fun _ _ _ _ _ => pg_name (i := 10) nd rfl (Or.inl rfl)) (fun _ _ _ _ _ => pts_nil) (fun _ _ _ _ _ => pv 10) (fun _ _ _ _ _ => pe_dget hu (pv 8) (pv 10) (fun _ _ => rfl)))
            (pa_cons (pe_dc (own := [("node", 10)]) (g := gName 10) (tt := tYes) (tk := tVar 10) (tv := tDGet (tVar 9) (tVar 10)) rfl nd (pi_tup (pv 6)) (blkOk_by (own := [("node", 10)]) (N := nInit) (sc := defScope c_Net_init) (by decide +kernel)) (fun _ _ _ _ _ => pg_name (i := 10) nd rfl (Or.inl rfl)) (fun _ _ _ _ _ => pts_nil) (fun _ _ _ _ _ => pv 10) (fun _ _ _ _ _ => pe_dget hu (pv 9) (pv 10) (fun _ _ => rfl))) pa_nil))) rfl))))
      (pss_cons (ps_fld (pv 0) (pv 6) rfl)
      (pss_cons (ps_fld (pv 0) (pe_callTy call_tuple_of (by rfl) mTup (by decide +kernel) (pa_cons (pe_callB cr_sortedLU (by rfl) mSorted (by decide +kernel) (pa_cons (pv 2) pa_nil)) pa_nil)) rfl)
      (pss_one (ps_fld (pv 0) (pe_callTy call_tuple_of (by rfl) mTup (by decide +kernel) (pa_cons (pv 3) pa_nil)) rfl))))))))))), ?_⟩
    have rl : rows.length = ends.length := by rw [← hk.length_eq, List.length_map]
    have rne : rows ≠ [] := fun z => by
      have := ok.e0
      rw [z] at rl
      simp at rl
      omega
    have d6 := ok.d6
    have e2 := ok.e2
    -- if not are_tables(tables)
    refine ⟨.ref t, rfl, t, rows.map (·.1), dots, rows, rfl, x0 _ _ ht, rfl, hro.ex x0, by rw [hk.length_eq]; exact ok.e0, by rw [hk.length_eq]; exact ok.e2, fun z hz => ok.em z (hk.mem_iff.mp hz), ok.d0, ok.d6, fun z hz => ⟨ok.dm z hz, fun he => ok.ed z (hk.mem_iff.mp he) hz⟩, fun H1 x1 => ⟨true, rfl, ?_⟩⟩
    have y1 := x0.trans x1
    have hm1 := x1 _ _ hm
    -- first_old, _ = list(tables.values())[0]
    refine ⟨.ref t, rfl, t, tkv rows, rfl, .inl (y1 _ _ ht), fun l hl => ?_⟩
    obtain ⟨q0, r0, er⟩ : ∃ q0 r0, rows = q0 :: r0 := by
      cases q : rows with
      | nil => exact absurd q rne
      | cons q0 r0 => exact ⟨q0, r0, rfl⟩
    obtain ⟨p0, po0, pn0, t1, t2, eq0, pa0⟩ := hro q0 (by rw [er]; exact List.mem_cons_self)
    have at0 : ((tkv rows).map (·.2))[0]? = some (.ref p0) := by rw [er, ← eq0]; rfl
    have x2 : Evl.Ex H1 (upd H1 l (.lst ((tkv rows).map (·.2)))) := Evl.Ex.new hl
    have el : (upd H1 l (.lst ((tkv rows).map (·.2)))) l = some (.lst ((tkv rows).map (·.2))) := upd_same
    generalize upd H1 l (.lst ((tkv rows).map (·.2))) = H2 at x2 el
    have y2 := y1.trans x2
    refine ⟨l, _, 0, .ref p0, rfl, rfl, Evl.sq_of el, atI_nat (j := 0) at0, p0, _, rfl, Evl.st_of (y2 _ _ pa0.hp), rfl, _, _, rfl, _, [], rfl, rfl, ?_⟩
    -- nodes = tuple(sorted(first_old))
    refine ⟨.ref po0, rfl, po0, tkv t1, t1.map (·.1), rfl, .inl (y2 _ _ pa0.ho), ?_, ?_, fun ys sl hys hsort hsl => ⟨sl, ys.map V.str, rfl, .inl ⟨Evl.sq_of upd_same, fun N hN => ?_⟩⟩⟩
    · unfold tkv
      rw [List.map_map, List.map_map]
      rfl
    · rw [pa0.o1.ks.length_eq]
      omega
    have eys : ys = dots := sorted_uniq hsort ok.ds (hys.trans pa0.o1.ks)
    subst eys
    have x3 : Evl.Ex H2 (upd (upd H2 sl (.lst (ys.map V.str))) N (.tup (ys.map V.str))) := (Evl.Ex.new hsl).trans (Evl.Ex.new hN)
    have eN : (upd (upd H2 sl (.lst (ys.map V.str))) N (.tup (ys.map V.str))) N = some (.tup (ys.map V.str)) := upd_same
    have fN : Hb N = none := by
      cases q : Hb N with
      | none => rfl
      | some o => rw [Evl.Ex.new hsl _ _ (y2 _ _ q)] at hN; cases hN
    generalize upd (upd H2 sl (.lst (ys.map V.str))) N (.tup (ys.map V.str)) = H3 at x3 eN
    have y3 := y2.trans x3
    have lss : ss.length ≤ ys.length := nodup_le ss ys ok.sn ok.sd
    have lps : ps.length ≤ ys.length := nodup_le ps ys ok.pn ok.pd
    -- if not are_different(sources, nodes)
    refine ⟨.ref s', rfl, .ref N, rfl, s', N, ss, ys, rfl, hs.ex y3, .inr (Evl.st_of eN), ok.sn, ok.sd, by omega, fun H4 x4 => ⟨true, rfl, ?_⟩⟩
    have y4 := y3.trans x4
    -- if not are_different(posts, nodes) or ..
    refine ⟨.ref p, rfl, .ref N, rfl, p, N, ps, ys, rfl, hp.ex y4, .inr (Evl.st_of (x4 _ _ eN)), ok.pn, ok.pd, by omega, fun H5 x5 => ⟨true, rfl, ?_⟩⟩
    have y5 := y4.trans x5
    have hp2 := ok.p2
    refine ⟨.ref p, rfl, .ref p, (ps.map V.str).length, rfl, (hp.ex y5).elim (fun q => .inl ⟨_, q, rfl⟩) (fun q => .inr ⟨_, q, rfl⟩), ((ps.map V.str).length : Int), 2, rfl, rfl, false, congrArg V.bl (decide_eq_false (show ¬ (2 : Int) < ((ps.map V.str).length : Int) by rw [List.length_map]; omega)), ?_⟩
    have hm5 : H5 m = some (.ins C dx []) := (((x2.trans x3).trans x4).trans x5) _ _ hm1
    have eN5 : H5 N = some (.tup (ys.map V.str)) := (x4.trans x5) _ _ eN
    -- self._tables = {}
    refine fun T' hT => ⟨.ref m, rfl, m, C, dx, [], rfl, Evl.Ex.new hT _ _ hm5, T.cl, T.nT, by decide, ?_⟩
    rw [nf1]
    have nTm : T' ≠ m := (ne_of_none hm5 hT).symm
    have nNm : N ≠ m := ne_of eN5 hm5 (by intro z; cases z)
    have fT : Hb T' = none := by
      cases q : Hb T' with
      | none => rfl
      | some o => rw [y5 _ _ q] at hT; cases hT
    have y6 : Evl.Ex Hb (upd (upd H5 T' (.dK [])) m (.ins C dx [("_tables", .ref T')])) := (y5.trans (Evl.Ex.new hT)).mut hm0
    have hm6 : (upd (upd H5 T' (.dK [])) m (.ins C dx [("_tables", .ref T')])) m = some (.ins C dx [("_tables", .ref T')]) := upd_same
    have hT6 : (upd (upd H5 T' (.dK [])) m (.ins C dx [("_tables", .ref T')])) T' = some (.dK (tkv [])) := by rw [upd_ne nTm, upd_same]; rfl
    have hN6 : (upd (upd H5 T' (.dK [])) m (.ins C dx [("_tables", .ref T')])) N = some (.tup (ys.map V.str)) := by rw [upd_ne nNm]; exact Evl.Ex.new hT _ _ eN5
    generalize upd (upd H5 T' (.dK [])) m (.ins C dx [("_tables", .ref T')]) = H6 at y6 hm6 hT6 hN6
    -- for goal in sorted(tables)
    refine ⟨.ref t, rfl, t, tkv rows, rows.map (·.1), rfl, .inl (y6 _ _ ht), ?_, by rw [hk.length_eq]; omega, fun ys2 gl hys2 hsort2 hgl => ⟨gl, rfl, ⟨_, Evl.sq_of upd_same⟩, ?_⟩⟩
    · unfold tkv
      rw [List.map_map, List.map_map]
      rfl
    have eys2 : ys2 = ends := sorted_uniq hsort2 ok.es (hys2.trans hk)
    subst eys2
    have x7 : Evl.Ex H6 (upd H6 gl (.lst (ys2.map V.str))) := Evl.Ex.new hgl
    refine for_list (K := K) (a := gl) (xs := ys2.map V.str)
      (fun i σ H' => ∃ (x7 x8 x9 : Option V) (nr : List (Str × V)), σ = [some (.ref m), some (.ref t), some (.ref s'), some (.ref p), some (.ref po0), some (.ref pn0), some (.ref N), x7, x8, x9, none] ∧ nr.map (·.1) = ys2.take i ∧
        (∀ e ∈ ys2.take i, ∃ q qo qn : Addr, valV (tkv nr) (Sum.inr e) = some (.ref q) ∧ PairAt H' ys e q qo qn (canon ys (o e)) (canon ys (n e)) ∧ Hb q = none ∧ Hb qo = none ∧ Hb qn = none ∧ qo ≠ T' ∧ qn ≠ T') ∧
        H' m = some (.ins C dx [("_tables", .ref T')]) ∧ H' T' = some (.dK (tkv nr)) ∧ H' N = some (.tup (ys.map V.str)) ∧ H' gl = some (.lst (ys2.map V.str)) ∧ Evl.Ex Hb H')
      ⟨none, none, none, [], rfl, rfl, (fun e he => by cases he), x7 _ _ hm6, x7 _ _ hT6, x7 _ _ hN6, upd_same, y6.trans x7⟩ (fun i σ H' _ ⟨_, _, _, _, _, _, _, _, _, _, h, _⟩ => Evl.sq_of h) ?_ ?_
    · rintro i x σ H7 hi ⟨x7', x8', x9', nr, rfl, hnr, hpr, hm7, hT7, hN7, hg7, y7⟩
      obtain ⟨z, hz, rfl⟩ := str_at hi
      have hil : i < ys2.length := (List.getElem?_eq_some_iff.mp hz).1
      have hzm := List.mem_of_getElem? hz
      have etake : ys2.take (i + 1) = ys2.take i ++ [z] := by rw [List.take_add_one, hz]; rfl
      have zn : z ∉ ys2.take i := fun hm => by
        have h1 : (ys2.take (i + 1)).Nodup := ok.en.sublist (List.take_sublist _ _)
        rw [etake] at h1
        exact (List.nodup_append.mp h1).2.2 z hm z (List.mem_singleton.mpr rfl) rfl
      obtain ⟨p1, po1, pn1, hv1, pa1⟩ := hra z hzm
      have gt : DGet H7 t (.str z) (some (.ref p1)) := by
        have q := DGet.k (k := Sum.inr z) (y7 _ _ ht)
        rw [hv1] at q
        exact q
      -- old, new = tables[goal]
      refine ⟨.ref t, rfl, .str z, rfl, t, .ref p1, rfl, gt, p1, _, rfl, Evl.st_of (y7 _ _ pa1.hp), rfl, _, _, rfl, _, [], rfl, rfl, ?_⟩
      -- the two new dicts
      refine ⟨.ref N, rfl, N, rfl, ⟨_, Evl.st_of hN7⟩, fun D1 hD1 => dc_canon (e := z) hN7 (y7 _ _ pa1.ho) pa1.o1 ok.dn (by omega) hD1 (fun _ => rfl) (fun _ => rfl) (fun _ => rfl) ?_⟩
      have w1 : Evl.Ex H7 (upd H7 D1 (.dK (tkv (canon ys (o z))))) := Evl.Ex.new hD1
      have d1 : (upd H7 D1 (.dK (tkv (canon ys (o z))))) D1 = some (.dK (tkv (canon ys (o z)))) := upd_same
      have fr : ∀ {a : Addr}, H7 a = none → Hb a = none := fun {a} h => by
        cases q : Hb a with
        | none => rfl
        | some o => rw [y7 _ _ q] at h; cases h
      have fD1 := fr hD1
      have nD1 : D1 ≠ T' := (ne_of_none hT7 hD1).symm
      generalize upd H7 D1 (.dK (tkv (canon ys (o z)))) = H8 at w1 d1
      refine ⟨.ref N, rfl, N, rfl, ⟨_, Evl.st_of (w1 _ _ hN7)⟩, fun D2 hD2 => dc_canon (e := z) (w1 _ _ hN7) (w1 _ _ (y7 _ _ pa1.hn)) pa1.o2 ok.dn (by omega) hD2 (fun _ => rfl) (fun _ => rfl) (fun _ => rfl) ?_⟩
      have w2 : Evl.Ex H8 (upd H8 D2 (.dK (tkv (canon ys (n z))))) := Evl.Ex.new hD2
      have d2 : (upd H8 D2 (.dK (tkv (canon ys (n z))))) D2 = some (.dK (tkv (canon ys (n z)))) := upd_same
      have fr8 : ∀ {a : Addr}, H8 a = none → Hb a = none := fun {a} h => by
        cases q : Hb a with
        | none => rfl
        | some o => rw [w1 _ _ (y7 _ _ q)] at h; cases h
      have fD2 := fr8 hD2
      have nD2 : D2 ≠ T' := (ne_of_none (w1 _ _ hT7) hD2).symm
      generalize upd H8 D2 (.dK (tkv (canon ys (n z)))) = H9 at w2 d2
      have w12 := w1.trans w2
      refine ⟨by show 2 ≤ sizeLine; decide, fun q hq => ?_⟩
      have w3 : Evl.Ex H9 (upd H9 q (.tup [.ref D1, .ref D2])) := Evl.Ex.new hq
      have d3 : (upd H9 q (.tup [.ref D1, .ref D2])) q = some (.tup [.ref D1, .ref D2]) := upd_same
      have fq : Hb q = none := by
        cases q' : Hb q with
        | none => rfl
        | some o => rw [w12 _ _ (y7 _ _ q')] at hq; cases hq
      generalize upd H9 q (.tup [.ref D1, .ref D2]) = H10 at w3 d3
      have w := w12.trans w3
      have hT10 := w _ _ hT7
      have nrl : nr.length ≤ 2 := by
        have := congrArg List.length hnr
        rw [List.length_map, List.length_take] at this
        omega
      refine ⟨.ref m, rfl, m, C, dx, _, _, rfl, w _ _ hm7, T.cl, T.nT, nf1_get T', .str z, rfl, T', _, rfl, DPut.k (k := Sum.inr z) hT10 (by rw [tkv_len]; exact small1000 (by omega)), ?_⟩
      rw [tkv_new (by rw [hnr]; exact zn)]
      have keep : ∀ {a : Addr} {u : HO}, H10 a = some u → a ≠ T' → (upd H10 T' (.dK (tkv (nr ++ [(z, V.ref q)])))) a = some u := fun {a u} h ne => by rw [upd_ne ne]; exact h
      have mT : m ≠ T' := nTm.symm
      have gT : gl ≠ T' := ne_of hg7 hT7 (by intro z; cases z)
      have NT : N ≠ T' := ne_of hN7 hT7 (by intro z; cases z)
      refine ⟨_, _, _, nr ++ [(z, .ref q)], rfl, ?_, ?_, keep (w _ _ hm7) mT, upd_same, keep (w _ _ hN7) NT, keep (w _ _ hg7) gT, (y7.trans w).mut fT⟩
      · rw [List.map_append, hnr, etake]
        rfl
      · intro e he
        rw [etake] at he
        have vget : ∀ e', valV (tkv (nr ++ [(z, V.ref q)])) (Sum.inr e') = if (Sum.inr e' : Key) = Sum.inr z then some (.ref q) else valV (tkv nr) (Sum.inr e') := fun e' => by
          have h1 := tkv_none (tb := nr) (z := z) (by rw [hnr]; exact zn)
          have h2 := valV_snoc (Sum.inr z : Key) (Sum.inr e') (V.ref q) (tkv nr) h1
          unfold tkv at h2 ⊢
          rw [List.map_append]
          exact h2
        rcases List.mem_append.mp he with he | he
        · obtain ⟨q', qo, qn, v1, pa, f1, f2, f3, n2, n3⟩ := hpr e he
          have ne : e ≠ z := fun w => zn (w ▸ he)
          have pw := pa.ex w
          refine ⟨q', qo, qn, by rw [vget, if_neg (fun w => ne (Sum.inr.inj w))]; exact v1, ⟨keep pw.hp (ne_of pw.hp hT10 (by intro z; cases z)), keep pw.ho n2, keep pw.hn n3, pw.o1, pw.o2⟩, f1, f2, f3, n2, n3⟩
        · rw [List.mem_singleton.mp he]
          refine ⟨q, D1, D2, by rw [vget, if_pos rfl], ⟨keep d3 (ne_of d3 hT10 (by intro z; cases z)), keep (w3 _ _ (w2 _ _ d1)) nD1, keep (w3 _ _ d2) nD2, canon_ok pa1.o1, canon_ok pa1.o2⟩, fq, fD1, fD2, nD1, nD2⟩
    · rintro σ H7 ⟨x7', x8', x9', nr, rfl, hnr, hpr, hm7, hT7, hN7, hg7, y7⟩
      rw [List.length_map, List.take_length] at hnr hpr
      -- self._nodes = nodes
      refine ⟨.ref N, rfl, .ref m, rfl, m, C, dx, _, rfl, hm7, T.cl, T.nN, by show 1 < 1000; decide, ?_⟩
      rw [nf2]
      have up : ∀ {Hx : Hp} {a : Addr} {u v : HO}, Hx a = some u → a ≠ m → (upd Hx m v) a = some u := fun {Hx a u v} h ne => by rw [upd_ne ne]; exact h
      have y8 : Evl.Ex Hb (upd H7 m (.ins C dx [("_tables", .ref T'), ("_nodes", .ref N)])) := y7.mut hm0
      -- self._sources = tuple(sorted(sources))
      refine ⟨.ref s', rfl, s', ss, rfl, (hs.ex y8).sq, by omega, fun ys3 sl3 hys3 hsort3 hsl3 => ⟨sl3, ys3.map V.str, rfl, .inl ⟨Evl.sq_of upd_same, fun S hS => ?_⟩⟩⟩
      have eys3 : ys3 = ss := sorted_uniq hsort3 ok.sss hys3
      subst eys3
      have w4 : Evl.Ex (upd H7 m (.ins C dx [("_tables", .ref T'), ("_nodes", .ref N)])) (upd (upd (upd H7 m (.ins C dx [("_tables", .ref T'), ("_nodes", .ref N)])) sl3 (.lst (ys3.map V.str))) S (.tup (ys3.map V.str))) := (Evl.Ex.new hsl3).trans (Evl.Ex.new hS)
      have hS8 : (upd (upd (upd H7 m (.ins C dx [("_tables", .ref T'), ("_nodes", .ref N)])) sl3 (.lst (ys3.map V.str))) S (.tup (ys3.map V.str))) S = some (.tup (ys3.map V.str)) := upd_same
      have fS : Hb S = none := by
        cases q : Hb S with
        | none => rfl
        | some o => rw [Evl.Ex.new hsl3 _ _ (y8 _ _ q)] at hS; cases hS
      have hm8 := w4 _ _ upd_same
      have old8 : ∀ {a : Addr} {u : HO}, H7 a = some u → a ≠ m → (upd (upd (upd H7 m (.ins C dx [("_tables", .ref T'), ("_nodes", .ref N)])) sl3 (.lst (ys3.map V.str))) S (.tup (ys3.map V.str))) a = some u := fun {a u} h ne => w4 _ _ (up h ne)
      have y9 := y8.trans w4
      generalize upd (upd (upd H7 m (.ins C dx [("_tables", .ref T'), ("_nodes", .ref N)])) sl3 (.lst (ys3.map V.str))) S (.tup (ys3.map V.str)) = H9 at hS8 hm8 old8 y9
      have nSm : S ≠ m := ne_of hS8 hm8 (by intro z; cases z)
      refine ⟨.ref m, rfl, m, C, dx, _, rfl, hm8, T.cl, T.nS, by show 2 < 1000; decide, ?_⟩
      rw [nf3]
      have y10 : Evl.Ex Hb (upd H9 m (.ins C dx [("_tables", .ref T'), ("_nodes", .ref N), ("_sources", .ref S)])) := y9.mut hm0
      -- self._posts = tuple(posts)
      have last : ∀ (Po : Addr) (H11 : Hp), Evl.Ex (upd H9 m (.ins C dx [("_tables", .ref T'), ("_nodes", .ref N), ("_sources", .ref S)])) H11 →
          H11 m = some (.ins C dx [("_tables", .ref T'), ("_nodes", .ref N), ("_sources", .ref S)]) ∧ Q .non (upd H11 m (.ins C dx (nflds T' N S Po))) := by
        intro Po H11 w5
        have hm10 := w5 _ _ upd_same
        have old10 : ∀ {a : Addr} {u : HO}, H9 a = some u → a ≠ m → H11 a = some u := fun {a u} h ne => w5 _ _ (up h ne)
        have y11 := y10.trans w5
        refine ⟨hm10, ?_⟩
        have y12 : Evl.Ex Hb (upd H11 m (.ins C dx (nflds T' N S Po))) := y11.mut hm0
        have fin : ∀ {a : Addr} {u : HO}, H7 a = some u → a ≠ m → Hb a = none → rest Hb (upd H11 m (.ins C dx (nflds T' N S Po))) a = some u := fun {a u} h ne f => rest_of f (up (old10 (old8 h ne) ne) ne)
        refine k _ y12 fun Hz xz pz => ⟨dx, T', N, S, Po, nr, xz _ _ (rest_of hm0 upd_same), xz _ _ (fin hT7 nTm fT), xz _ _ (fin hN7 nNm fN), xz _ _ (rest_of fS (up (old10 hS8 nSm) nSm)), trivial, hnr, fun e he => ?_⟩
        obtain ⟨q, qo, qn, v1, pa, f1, f2, f3, n2, n3⟩ := hpr e he
        exact ⟨q, qo, qn, v1, ⟨xz _ _ (fin pa.hp (ne_of pa.hp hm7 (by intro z; cases z)) f1), xz _ _ (fin pa.ho (ne_of pa.ho hm7 (by intro z; cases z)) f2), xz _ _ (fin pa.hn (ne_of pa.hn hm7 (by intro z; cases z)) f3), pa.o1, pa.o2⟩⟩
      rcases hp with hp | hp
      · refine ⟨.ref p, rfl, p, ps.map V.str, rfl, .inl ⟨Evl.ex_l y10 hp, fun Po hPo => ?_⟩⟩
        obtain ⟨h1, h2⟩ := last Po _ (Evl.Ex.new hPo)
        refine ⟨.ref m, rfl, m, C, dx, _, rfl, h1, T.cl, T.nP, by show 3 < 1000; decide, ?_⟩
        rw [nf4]
        exact h2
      · refine ⟨.ref p, rfl, p, ps.map V.str, rfl, .inr ⟨Evl.ex_t y10 hp, ?_⟩⟩
        obtain ⟨h1, h2⟩ := last p _ (Evl.Ex.refl _)
        refine ⟨.ref m, rfl, m, C, dx, _, rfl, h1, T.cl, T.nP, by show 3 < 1000; decide, ?_⟩
        rw [nf4]
        exact h2
end
end Rw
end T_N1

section T_X0
set_option Elab.async false
set_option linter.all false
set_option maxRecDepth 100000
set_option maxHeartbeats 4000000
namespace Rw
open PySem L2 PyProof.Rows
theorem rest_less {H Hb H' : Hp} (x : Evl.Ex H Hb) : Evl.Ex (rest Hb H') (rest H H') := fun a o h => by
  have h' := rest_ex Hb H' a o h
  refine rest_of ?_ h'
  cases q : H a with
  | none => rfl
  | some u =>
    have := x _ _ q
    unfold rest at h
    rw [this] at h
    cases h
theorem dget_of {H : Hp} {a : Addr} {kvs : List (Key × V)} {k : Key} {v : V} (h : H a = some (.dK kvs)) (hv : valV kvs k = some v) : DGet H a (kV k) (some v) := by
  have q := DGet.k (k := k) h
  rw [hv] at q
  exact q
end Rw
end T_X0

section T_G0
set_option Elab.async false
set_option linter.all false
set_option maxRecDepth 100000
set_option maxHeartbeats 2000000
namespace Rw
open PySem PySem.Spec L2 PyProof.Rows
/-! ### repr of data -/
def rRepr (K : PySem.W.Frag) : List V → Hp → VK → Prop := fun xs H Q => ∃ (a : Addr) (d : PyData), xs = [.ref a] ∧ Dp K H (.ref a) d ∧ d.showable = true ∧ d.hasDict = false ∧ d.depth ≤ 64 ∧ d.shown.length ≤ sizeLine ∧ Q (.str d.shown) H
theorem call_reprD {X : Cx} (hg : X.A.guards = some []) (hu : X.A.units + 70 < cLine) : CallR X (.builtin "repr") (rRepr X.K) := by
  intro pins s σ H xs us Q I r h
  obtain ⟨a, d, rfl, hd, h1, h2, h3, h4, q⟩ := h
  obtain ⟨u, rfl, ru⟩ := vals1 r
  obtain ⟨as, rd⟩ := Dp.reads I d (.ref a) u hd ru
  cases ru
  refine repr_of_reads' rd h1 (fun z => by rw [h2] at z; cases z) hg (by omega) (fun _ _ e => e) (fun h' v tk keep => ?_) h4
  exact ⟨.str d.shown, H, Inv.kept I keep, ⟨_, rfl⟩, q⟩
/-! ### defs that are called where no repr is under way -/
structure FnG (P : Program) (w : World) (K : PySem.W.Frag) (mg : Str → Option Value) (base : Heap) (CX : CXT) (k : Nat) (f : Addr) (fd : FuncData) (ps : List Str) (sp : Sp) : Prop where
  many : ∀ vs H Q E, sp vs H Q E → vs.length = ps.length
  goes : ∀ (A : Around) (outer : List Env) (s : Shared) (H : Hp) (args : Args) (us : List Value) (vs : List V) (Q : VK) (E : XK), A.guards = some [] → Room k A → Env0 P w K mg base A outer s H →
    BindsTo s fd args (ps.zip us) → Vals vs us → sp vs H Q E → codeAny (model P w) A (.call (.ref f) args) (CR CX outer P w H s Q E) s
section
variable {P : Program} {w : World} {K : PySem.W.Frag} {mg : Str → Option Value} {base : Heap} {CX : CXT} {k : Nat} {f : Addr} {fd : FuncData} {ps : List Str} {sp : Sp}
theorem FnG.of (F : FnOk P w K mg base CX k f fd ps sp) : FnG P w K mg base CX k f fd ps sp :=
  ⟨F.len, fun A o s H ar us vs Q E _ => F.run A o s H ar us vs Q E⟩
/-- a def by its body -/
theorem Fun.okG {x qual : Str} {st : Stmt} {N : List Str} (F : Fun K x qual st f fd) (S : FnScope N ps (defScope st)) (len : ∀ vs H Q E, sp vs H Q E → vs.length = ps.length)
    (body : ∀ (cv : Value) (A : Around) (outer : List Env) (s : Shared) (H : Hp) (vs : List V) (Q : VK) (E : XK), (A.deeper (envOfC qual (defScope st) s.heap.objs.size f cv)).guards = some [] →
      Room k (A.deeper (envOfC qual (defScope st) s.heap.objs.size f cv)) → sp vs H Q E →
      ∃ t, PSs (cxOf CX P w K mg base N qual (defScope st) f cv A outer s H E) (defBody st) t ∧ t { nx := fun _ H' => Q .non H', rt := Q } (L2.start N vs) H) : FnG P w K mg base CX (k + 1) f fd ps sp := by
  obtain ⟨_, _, _, _, _, _, cv, _, _, rfl, at_f, code_f⟩ := F.ex
  constructor
  · exact len
  · intro A outer s H ar us vs Q E guard room here bound rel prom
    have n_of := len _ _ _ _ prom
    have known : K.In s.heap := here.mod.kin.keeps fun b o e => (here.bs b o e).1
    have nolim : s.heap.NoLimit := here.mod.nolimit.keeps fun b o e => (here.bs b o e).1
    have slots : ∀ y ∈ ps.zip us, (defScope st).names.lookup y.1 = some .local ∨ ((defScope st).names.lookup y.1 = some .cell ∧ ((cellsFrom (s.heap.objs.size + 1) (defScope st).names []).lookup y.1).isSome = true) := by
      rintro ⟨m, u⟩ hy
      cases S.par m (List.of_mem_zip hy).1 with
      | inl q => exact .inl q
      | inr q => exact .inr ⟨q, PySem.W.cellsFrom_some _ _ _ (.inl q)⟩
    refine codeAny_call_function room.depth (known _ _ at_f) rfl S.co S.gen rfl (PySem.W.codeRec_of known code_f)
      (bound _ _ _ _ ?_)
    refine wpAny_newFunctionEnv_cells S.kind slots fun env isEnv s1 made => ?_
    subst isEnv
    refine ⟨nolim.keeps made.toInCall.keep, codeAny_func ?_⟩
    obtain ⟨t, term, reading⟩ := body cv A outer s H vs Q E guard (room.deeper _) prom
    have inv := inv_start (CX := CX) (E := E) S room.hd here n_of rel made
    refine wpAny_mono (term.run [] s1 (L2.start N vs) H _ inv reading) (fun out s' got => ?_) fun _ _ got => got
    cases out with
    | brk =>
      obtain ⟨_, _, _, no⟩ := got
      exact no.elim
    | cont =>
      obtain ⟨_, _, _, no⟩ := got
      exact no.elim
    | next =>
      obtain ⟨_, H', J, q⟩ := got
      exact ⟨V.non, H', J.os, J.bare, J.base, J.hok, rfl, q⟩
    | ret u =>
      obtain ⟨v, _, H', J, rv, q⟩ := got
      exact ⟨v, H', J.os, J.bare, J.base, J.hok, rv, q⟩
end
section
variable {X : Cx} {CX : CXT} {k : Nat} {f : Addr} {fd : FuncData} {ps : List Str} {sp : Sp} {dvs : List V} {ds : List Value} {E : XK} {x : Str} {p pos : Pos} {e : Expr} {es : List Expr} {t : TA}
/-- f(e, ..), f such a def -/
theorem pe_callG (guard : X.A.guards = some []) (F : FnG X.prog X.w X.K X.mg X.base CX k f fd ps sp) (room : Room k X.A) (glob : Gl X x) (at_x : X.mg x = some (.ref f)) (kept : PySem.W.keepIn X.K (.ref f) = true) (bind : Binds X.K fd ps ds) (dflt : Vals dvs ds) (pass : Passes CX X E)
    (args : PA X (e :: es) t) (nodebug : (x == ("__debug__" : Str)) = false := by decide) (first : starEach (e :: es) X.env = (false, eval e X.env) :: starEach es X.env := by rfl) (plain : (backTo pos (starEach es X.env)).any (·.1) = false := by rfl) :
    PE X (.Call (.Name x p) (e :: es) [] pos) (tCall sp dvs E t) := by
  constructor
  intro pins s σ H Q I reading
  refine wpAny_Call_Name_kw (ld_glob I glob at_x ?_ nodebug)
  refine PySem.W.callWith_K (h₀ := X.base) I.ok.mod.kin kept (thn (args.run pos pins s σ H _ I reading) ?_) first plain
  rintro us s1 ⟨vs, H1, I1, rel, prom⟩
  refine ⟨I1.kIn, ?_⟩
  have rel2 : Vals (vs ++ dvs) (us ++ ds) := rel.append dflt
  have n_of : (us ++ ds).length = ps.length := rel2.length.symm.trans (F.many _ _ _ _ prom)
  have ran := F.goes X.A X.stack s1 H1 ⟨us, []⟩ (us ++ ds) (vs ++ dvs) Q E guard room I1.env0 (bind s1 us I1.kIn n_of) rel2 prom
  refine wpAny_call (codeAny_mono ran fun out s2 got => ?_)
  match out, got with
  | .error e, got => exact pass pins σ H1 s1 e s2 I1 got
  | .ok (.ret u), got => exact I1.after got
  | .ok .next, got => exact got.elim
  | .ok .brk, got => exact got.elim
  | .ok .cont, got => exact got.elim
end
end Rw
end T_G0

section T_X5
set_option Elab.async false
set_option linter.all false
set_option maxRecDepth 100000
set_option maxHeartbeats 4000000
namespace Rw
open PySem L2 PyProof.Rows
/-! ### rows of places are shown -/
theorem spots_data : ∀ W : List V, (∀ v ∈ W, Spot v) → ∃ ds : List PyData, (∀ (K : PySem.W.Frag) (H : Hp), DpAll K H W ds) ∧ PyData.canLayAll0 ds = true ∧ PyData.depthAll ds = 0 ∧ PyData.weightAll ds ≤ 7 * W.length ∧ PyData.intsShortAll 13 ds = true ∧ PyData.showableAll ds = true
  | [], _ => ⟨[], fun _ _ => .nil, rfl, rfl, Nat.zero_le _, rfl, rfl⟩
  | v :: W, h => by
    obtain ⟨ds, g1, g2, g3, g4, g5, g6⟩ := spots_data W fun u hu => h u (List.mem_cons_of_mem _ hu)
    rcases h v List.mem_cons_self with rfl | ⟨z, rfl, hz⟩
    · refine ⟨.none :: ds, fun K H => .cons .non (g1 K H), ?_, ?_, ?_, ?_, ?_⟩
      · show (true && PyData.canLayAll0 ds) = true
        rw [g2]
        rfl
      · show max 0 (PyData.depthAll ds) = 0
        rw [g3]
        rfl
      · show 0 + 1 + PyData.weightAll ds ≤ 7 * (W.length + 1)
        omega
      · show (PyData.intsShort 13 .none && PyData.intsShortAll 13 ds) = true
        rw [g5]
        rfl
      · show (true && PyData.showableAll ds) = true
        rw [g6]
        rfl
    · have zl := nm_len hz
      refine ⟨.str z :: ds, fun K H => .cons (.str z) (g1 K H), ?_, ?_, ?_, ?_, ?_⟩
      · show (PyData.strOk z && PyData.canLayAll0 ds) = true
        rw [g2, nm_ok hz]
        rfl
      · show max 0 (PyData.depthAll ds) = 0
        rw [g3]
        rfl
      · show z.cps.size + 1 + PyData.weightAll ds ≤ 7 * (W.length + 1)
        have : z.cps.size ≤ 6 := zl
        omega
      · show (PyData.intsShort 13 (.str z) && PyData.intsShortAll 13 ds) = true
        rw [g5]
        rfl
      · show (true && PyData.showableAll ds) = true
        rw [g6]
        rfl
theorem spots_repr (W : List V) (h : ∀ v ∈ W, Spot v) (few : W.length ≤ 1000) : ∃ d : PyData, (∀ {K : PySem.W.Frag} {H : Hp} {a : Addr}, H a = some (.lst W) → Dp K H (.ref a) d) ∧ d.showable = true ∧ d.hasDict = false ∧ d.depth ≤ 64 ∧ d.shown.length ≤ sizeLine := by
  obtain ⟨ds, g1, g2, g3, g4, g5, g6⟩ := spots_data W h
  have lay : PyData.canLay0 (.list ds) = true := g2
  have dep : PyData.depth (.list ds) = 1 := by rw [show PyData.depth (.list ds) = PyData.depthAll ds + 1 from rfl, g3]
  refine ⟨.list ds, fun {K H a} ha => .lst (Evl.sq_of ha) (g1 K H), g6, PyData.hasDict_of_canLay _ lay, by rw [dep]; decide, ?_⟩
  refine PyData.shown_fits_of_layable0 (B := 13) (by decide) (by decide) ?_ g5
  show (PyData.canLay0 (.list ds) && decide (PyData.depth (.list ds) ≤ 64) && decide (PyData.weight (.list ds) ≤ 2 ^ 20)) = true
  rw [lay, dep, decide_eq_true (show PyData.weight (.list ds) ≤ 2 ^ 20 from Nat.le_trans (show PyData.weightAll ds ≤ 7 * W.length from g4) (by omega))]
  rfl
/-! ### calls by names alone -/
/-- f(k = v, ..), all by names: gV puts the values in the parameters' order -/
structure KwAll (K : PySem.W.Frag) (fd : FuncData) (ps ks : List Str) (g : List Value → List Value) (gV : List V → List V) : Prop where
  to : ∀ (s : Shared) (ws : List Value), K.In s.heap → (g ws).length = ps.length → BindsTo s fd ⟨[], ks.zip ws⟩ (ps.zip (g ws))
  rel : ∀ {zs : List V} {ws : List Value}, Vals zs ws → Vals (gV zs) (g ws)
def tCallA (sp : Sp) (gV : List V → List V) (E : XK) (tk : TA) : TE := fun σ H Q => tk σ H fun zs H1 => sp (gV zs) H1 Q E
theorem Vals.rev {zs : List V} {ws : List Value} (r : Vals zs ws) : Vals zs.reverse ws.reverse := by
  induction r with
  | nil => exact .nil
  | cons h _ ih =>
    rw [List.reverse_cons, List.reverse_cons]
    exact ih.append (.cons h .nil)
section
variable {X : Cx} {CX : CXT} {k : Nat} {f : Addr} {fd : FuncData} {ps ks : List Str} {sp : Sp} {E : XK} {x : Str} {p pos : Pos} {kws : List Keyword} {tk : TA} {g : List Value → List Value} {gV : List V → List V}
theorem pe_callA (F : FnOk X.prog X.w X.K X.mg X.base CX k f fd ps sp) (room : Room k X.A) (glob : Gl X x) (at_x : X.mg x = some (.ref f)) (kept : PySem.W.keepIn X.K (.ref f) = true) (bind : KwAll X.K fd ps ks g gV) (pass : Passes CX X E) (named : PK X kws tk)
    (hall : (backToKw pos (keywordEach kws X.env)).all (·.1.isSome) = true := by rfl) (hks : (backToKw pos (keywordEach kws X.env)).filterMap (·.1) = ks := by rfl) (nodebug : (x == ("__debug__" : Str)) = false := by decide)
    (plain : ((backTo pos (starEach [] X.env)).any (·.1) || (backToKw pos (keywordEach kws X.env)).any (·.1.isNone)) = false := by rfl) :
    PE X (.Call (.Name x p) [] kws pos) (tCallA sp gV E tk) := by
  constructor
  intro pins s σ H Q I reading
  refine wpAny_Call_Name_kw (ld_glob I glob at_x ?_ nodebug)
  refine PySem.W.callWith_KW0 (h₀ := X.base) I.ok.mod.kin kept hall ?_ plain
  refine thn (named.run pos pins s σ H _ I reading) ?_
  rintro ws s2 ⟨zs, H2, I2, rel, prom⟩
  refine ⟨I2.kIn, ?_⟩
  rw [hks]
  have rel2 := bind.rel rel
  have n_of : (g ws).length = ps.length := rel2.length.symm.trans (F.len _ _ _ _ prom)
  have ran := F.run X.A X.stack s2 H2 ⟨[], ks.zip ws⟩ (g ws) (gV zs) Q E room I2.env0 (bind.to s2 ws I2.kIn n_of) rel2 prom
  refine wpAny_call (codeAny_mono ran fun out s3 got => ?_)
  match out, got with
  | .error e, got => exact pass pins σ H2 s2 e s3 I2 got
  | .ok (.ret u), got => exact I2.after got
  | .ok .next, got => exact got.elim
  | .ok .brk, got => exact got.elim
  | .ok .cont, got => exact got.elim
end
end Rw
end T_X5

section T_Y1
set_option Elab.async false
set_option linter.all false
set_option maxRecDepth 100000
set_option maxHeartbeats 4000000
namespace Rw
open PySem L2 PyProof.Rows
/-- the places of z in the mixture of a round -/
def spotsOf (o n : List (Str × V)) (zs ys : List Str) (z : Str) : List V := if z ∈ zs then [look n z] else if (decide (z ∈ ys) && !decide (look o z = look n z)) = true then [look o z, look n z] else [look o z]
/-- a new dict of new lists -/
structure MixAt (H0 H : Hp) (D : Addr) (dots : List Str) (f : Str → List V) : Prop where
  ex : ∃ rs : List (Str × V), H D = some (.dK (tkv rs)) ∧ rs.map (·.1) = dots ∧ ∀ q ∈ rs, ∃ a : Addr, q.2 = .ref a ∧ H0 a = none ∧ H a = some (.lst (f q.1))
section
variable {P : Program} {w : World} {K : PySem.W.Frag} {mg : Str → Option Value} {base : Heap}
def spMix (C : Addr) : Sp := fun vs H Q _ => ∃ (m a b : Addr) (e : Str) (zs ys ends dots ss ps : List Str) (o n : Str → List (Str × V)), vs = [.ref m, .ref a, .ref b, .str e] ∧ NetAt C H m ends dots ss ps o n ∧ ModelOk ends dots ss ps ∧ e ∈ ends ∧
  LotAt H a zs (moving ends dots o n) ∧ LotAt H b ys (moving ends dots o n) ∧ (∀ y ∈ ys, y ∉ zs) ∧ ∀ D H', Evl.Ex H H' → H D = none → MixAt H H' D dots (spotsOf (o e) (n e) zs ys) → Q (.ref D) H'
abbrev nMix : List Str := ["net", "done", "lot", "goal", "old", "new", "mixture", "node"]
theorem sc_mix : FnScope nMix ["net", "done", "lot", "goal"] (defScope p_ways) := ⟨rfl, rfl, rfl, by decide +kernel, rfl, by decide +kernel, by decide +kernel⟩
theorem ok_mix {f C : Addr} {fd : FuncData} (F : Fun K "ways" "ways" p_ways f fd) (T : NetTxt K C) (C1 : Cal P w K mg base 5 "check_round" ["net", "done", "lot", "part"] (spRound C)) (C2 : Cal P w K mg base 3 "check_goal" ["net", "goal"] (spCheckGoal C))
    (P1 : Prp P w K mg base C 1 "tables" (spTabs C)) (P2 : Prp P w K mg base C 1 "nodes" (spDots C)) : FnOk P w K mg base CX0 6 f fd ["net", "done", "lot", "goal"] (spMix C) := by
  obtain ⟨f1, fd1, F1, k1, b1, g1⟩ := C1.ex
  obtain ⟨f2, fd2, F2, k2, b2, g2⟩ := C2.ex
  obtain ⟨p3, g3, fd3, at3, F3, b3⟩ := P1.ex
  obtain ⟨p4, g4, fd4, at4, F4, b4⟩ := P2.ex
  refine F.ok sc_mix (fun vs H Q E h => ?_) (fun cdv A outer s H vs Q E hr h => ?_)
  · obtain ⟨m, a, b, e, zs, ys, ends, dots, ss, ps, o, n, rfl, _⟩ := h
    rfl
  · obtain ⟨m, a, b, e, zs, ys, ends, dots, ss, ps, o, n, rfl, N, ok, he, La, Lb, dis, k⟩ := h
    have nd := sc_mix.nd
    have hu := hu_of hr
    have hr3 : Room 3 _ := hr.mono (by decide)
    have hr2 : Room 2 _ := hr.mono (by decide)
    have e2 := ok.e2
    have d6 := ok.d6
    refine ⟨_, PSs.nox (pss_cons (ps_expr (pe_call F1 hr rfl g1 k1 b1 .nil pass0 (pa_cons (pv 0) (pa_cons (pv 1) (pa_cons (pv 2) (pa_cons pe_str pa_nil))))))
      (pss_cons (ps_expr (pe_call F2 hr3 rfl g2 k2 b2 .nil pass0 (pa_cons (pv 0) (pa_cons (pv 3) pa_nil))))
      (pss_cons (ps_asg (pe_dget hu (pe_prop (pv 0) T.cl at3 F3 hr2 b3 .nil pass0 rfl) (pv 3) (fun _ _ => rfl)) (pg_tup rfl (pgs_cons (pg_name (i := 4) nd rfl (.inl rfl)) (pgs_cons (pg_name (i := 5) nd rfl (.inl rfl)) pgs_nil))))
      (pss_cons (ps_set (i := 6) nd rfl (.inl rfl) pe_dnewK)
      (pss_cons (ps_for PassesOwn.never rfl (pi_tup (pe_prop (pv 0) T.cl at4 F4 hr2 b4 .nil pass0 rfl)) (pg_name (i := 7) nd rfl (.inl rfl))
        (pss_one (ps_if (pt_cmpR op_in_seq (pv 7) (pv 1) rfl) (pss_one (ps_dput hu (pv 6) (pv 7) (pe_lst (pa_cons (pe_dget hu (pv 5) (pv 7) (fun _ _ => rfl)) pa_nil)) rfl))
          (pss_one (ps_if (PW.pt (pw_and (pt_cmpR op_in_seq (pv 7) (pv 2) rfl) (pw_and1 (pt_cmpR op_ne (pe_dget hu (pv 4) (pv 7) (fun _ _ => rfl)) (pe_dget hu (pv 5) (pv 7) (fun _ _ => rfl)) (nomark _)))))
            (pss_one (ps_dput hu (pv 6) (pv 7) (pe_lst (pa_cons (pe_dget hu (pv 4) (pv 7) (fun _ _ => rfl)) (pa_cons (pe_dget hu (pv 5) (pv 7) (fun _ _ => rfl)) pa_nil))) rfl))
            (pss_one (ps_dput hu (pv 6) (pv 7) (pe_lst (pa_cons (pe_dget hu (pv 4) (pv 7) (fun _ _ => rfl)) pa_nil)) rfl)))))))
      (pss_one (ps_ret (pv 6)))))))), ?_⟩
    refine ⟨.ref m, rfl, .ref a, rfl, .ref b, rfl, m, a, b, _, zs, ys, ends, dots, ss, ps, o, n, rfl, N, by omega, by omega, ok.en, La, Lb, dis, fun H1 x1 => ?_⟩
    refine ⟨.ref m, rfl, .str e, rfl, m, e, ends, dots, ss, ps, o, n, rfl, N.to x1, by omega, he, fun H2 x2 => ?_⟩
    have x12 := x1.trans x2
    have N2 := N.to x12
    obtain ⟨dx, T', N', S, Po, rows0, h1, _⟩ := N2.ex
    refine ⟨.ref m, rfl, m, dx, _, rfl, h1, m, ends, dots, ss, ps, o, n, rfl, N2, ok.e0, by omega, ok.en, fun TD TT H3 x3 _ tabs => ?_⟩
    have hTD := tabs.hd
    have ra := tabs.rows ok.en
    have x13 := x12.trans x3
    obtain ⟨p, po, pn, hv, pa⟩ := ra e he
    refine ⟨.str e, rfl, TD, .ref p, rfl, dget_of (k := Sum.inr e) hTD hv, p, _, rfl, Evl.st_of pa.hp, rfl, _, _, rfl, _, [], rfl, rfl, ?_⟩
    refine fun D hD => ?_
    have x4 : Evl.Ex H3 (upd H3 D (.dK [])) := Evl.Ex.new hD
    have hD0 : H D = none := ex_none x13 hD
    have d4 : (upd H3 D (.dK [])) D = some (.dK (tkv [])) := upd_same
    generalize upd H3 D (.dK []) = H4 at x4 d4
    have x14 := x13.trans x4
    have pa4 := pa.ex x4
    have N4 := N.to x14
    refine ⟨.ref m, rfl, m, dx, _, rfl, (x3.trans x4) _ _ h1, m, ends, dots, ss, ps, o, n, rfl, N4, fun q hq => ⟨q, rfl, ⟨_, Evl.st_of hq⟩, for_tup (K := K) (a := q) (xs := dots.map V.str)
      (fun i σ H' => ∃ x7 : Option V, σ = [some (.ref m), some (.ref a), some (.ref b), some (.str e), some (.ref po), some (.ref pn), some (.ref D), x7] ∧ i ≤ dots.length ∧ Evl.Ex H H' ∧ H' q = some (.tup (dots.map V.str)) ∧ H' po = some (.dK (tkv (canon dots (o e)))) ∧ H' pn = some (.dK (tkv (canon dots (n e)))) ∧ po ≠ D ∧ pn ≠ D ∧
        ∃ rs : List (Str × V), H' D = some (.dK (tkv rs)) ∧ rs.map (·.1) = dots.take i ∧ ∀ q ∈ rs, ∃ l : Addr, q.2 = .ref l ∧ H l = none ∧ H' l = some (.lst (spotsOf (o e) (n e) zs ys q.1)))
      ⟨_, rfl, Nat.zero_le _, x14, hq, pa4.ho, pa4.hn, ne_of_none pa.ho hD, ne_of_none pa.hn hD, [], d4, rfl, fun q hq => by cases hq⟩ (fun i σ H' _ ⟨_, _, _, _, h, _⟩ => Evl.st_of h) ?_ ?_⟩⟩
    · rintro i y σ H5 hi ⟨x7, rfl, _, x5, q5, o5, n5, npo, npn, rs, d5, hks, hrs⟩
      obtain ⟨z, hz, rfl⟩ := str_at hi
      have hil : i < dots.length := (List.getElem?_eq_some_iff.mp hz).1
      have zd := List.mem_of_getElem? hz
      have et : dots.take (i + 1) = dots.take i ++ [z] := by rw [List.take_add_one, hz]; rfl
      have zn : z ∉ dots.take i := fun hm => by
        have q1 : (dots.take (i + 1)).Nodup := ok.dn.sublist (List.take_sublist _ _)
        rw [et] at q1
        exact (List.nodup_append.mp q1).2.2 z hm z (List.mem_singleton.mpr rfl) rfl
      have c1 := look_ok pa.o1 zd
      have c2 := look_ok pa.o2 zd
      have go : DGet H5 po (.str z) (some (look (o e) z)) := by
        have t := dget_of (k := Sum.inr z) o5 c1.2
        rw [look_canon zd] at t
        exact t
      have gn : DGet H5 pn (.str z) (some (look (n e) z)) := by
        have t := dget_of (k := Sum.inr z) n5 c2.2
        rw [look_canon zd] at t
        exact t
      have sc := scal_place c1.1 c2.1
      rw [look_canon zd, look_canon zd] at sc
      have rsl : rs.length ≤ 100 := by
        have := congrArg List.length hks
        rw [List.length_map, List.length_take] at this
        omega
      have small : (tkv rs).length < sizeLine := by rw [tkv_len]; exact small1000 (by omega)
      have dput : ∀ (us : List V) (l : Addr), H5 l = none → (upd H5 l (.lst us)) D = some (.dK (tkv rs)) := fun us l hl => Evl.Ex.new hl _ _ d5
      have fin : ∀ us : List V, us = spotsOf (o e) (n e) zs ys z → ∀ l, H5 l = none →
          ∃ x7 : Option V, [some (V.ref m), some (.ref a), some (.ref b), some (.str e), some (.ref po), some (.ref pn), some (.ref D), some (.str z)] = [some (.ref m), some (.ref a), some (.ref b), some (.str e), some (.ref po), some (.ref pn), some (.ref D), x7] ∧ i + 1 ≤ dots.length ∧ Evl.Ex H (upd (upd H5 l (.lst us)) D (.dK (putK (tkv rs) (Sum.inr z) (.ref l)))) ∧
            (upd (upd H5 l (.lst us)) D (.dK (putK (tkv rs) (Sum.inr z) (.ref l)))) q = some (.tup (dots.map V.str)) ∧ (upd (upd H5 l (.lst us)) D (.dK (putK (tkv rs) (Sum.inr z) (.ref l)))) po = some (.dK (tkv (canon dots (o e)))) ∧ (upd (upd H5 l (.lst us)) D (.dK (putK (tkv rs) (Sum.inr z) (.ref l)))) pn = some (.dK (tkv (canon dots (n e)))) ∧ po ≠ D ∧ pn ≠ D ∧
            ∃ rs' : List (Str × V), (upd (upd H5 l (.lst us)) D (.dK (putK (tkv rs) (Sum.inr z) (.ref l)))) D = some (.dK (tkv rs')) ∧ rs'.map (·.1) = dots.take (i + 1) ∧ ∀ q ∈ rs', ∃ l' : Addr, q.2 = .ref l' ∧ H l' = none ∧ (upd (upd H5 l (.lst us)) D (.dK (putK (tkv rs) (Sum.inr z) (.ref l)))) l' = some (.lst (spotsOf (o e) (n e) zs ys q.1)) := by
        rintro us rfl l hl
        have y1 : Evl.Ex H5 (upd H5 l (.lst (spotsOf (o e) (n e) zs ys z))) := Evl.Ex.new hl
        have l1 : (upd H5 l (.lst (spotsOf (o e) (n e) zs ys z))) l = some (.lst (spotsOf (o e) (n e) zs ys z)) := upd_same
        have d6' := y1 _ _ d5
        have nlD : l ≠ D := (ne_of_none d5 hl).symm
        refine ⟨_, rfl, hil, (x5.trans y1).mut hD0, by rw [upd_ne (ne_of (y1 _ _ q5) d6' (by intro t; cases t))]; exact y1 _ _ q5, by rw [upd_ne npo]; exact y1 _ _ o5, by rw [upd_ne npn]; exact y1 _ _ n5, npo, npn, rs ++ [(z, .ref l)], ?_, ?_, ?_⟩
        · rw [upd_same, tkv_new (by rw [hks]; exact zn)]
        · rw [List.map_append, hks, et]
          rfl
        · intro r hr'
          rcases List.mem_append.mp hr' with hr' | hr'
          · obtain ⟨l', t1, t2, t3⟩ := hrs r hr'
            exact ⟨l', t1, t2, by rw [upd_ne (ne_of (y1 _ _ t3) d6' (by intro t; cases t))]; exact y1 _ _ t3⟩
          · rw [List.mem_singleton.mp hr']
            exact ⟨l, rfl, ex_none x5 hl, by rw [upd_ne nlD]; exact l1⟩
      refine ⟨.str z, rfl, .ref a, rfl, a, zs.map V.str, rfl, .inr (Evl.st_of (x5 _ _ La.ha)), rfl, flat_strs zs, ?_⟩
      rw [inV_str]
      by_cases mz : z ∈ zs
      · rw [decide_eq_true mz]
        refine ⟨true, rfl, iteT ?_⟩
        refine ⟨.ref pn, rfl, .str z, rfl, pn, _, rfl, gn, by show 1 ≤ sizeLine; decide, fun l hl => ⟨.ref D, rfl, .str z, rfl, D, _, rfl, DPut.k (k := Sum.inr z) (dput _ l hl) small, fin _ ?_ l hl⟩⟩
        unfold spotsOf
        rw [if_pos mz]
      · rw [decide_eq_false mz]
        refine ⟨false, rfl, iteF ?_⟩
        refine ⟨.str z, rfl, .ref b, rfl, b, ys.map V.str, rfl, .inr (Evl.st_of (x5 _ _ Lb.ha)), rfl, flat_strs ys, ?_⟩
        rw [inV_str]
        have two : (decide (z ∈ ys) && !decide (look (o e) z = look (n e) z)) = true → spotsOf (o e) (n e) zs ys z = [look (o e) z, look (n e) z] := fun t => by unfold spotsOf; rw [if_neg mz, if_pos t]
        have one : (decide (z ∈ ys) && !decide (look (o e) z = look (n e) z)) = false → spotsOf (o e) (n e) zs ys z = [look (o e) z] := fun t => by unfold spotsOf; rw [if_neg mz, if_neg (by rw [t]; decide)]
        by_cases my : z ∈ ys
        · rw [decide_eq_true my] at two one ⊢
          refine ⟨true, rfl, iteT ?_⟩
          refine ⟨.ref po, rfl, .str z, rfl, po, _, rfl, go, .ref pn, rfl, .str z, rfl, pn, _, rfl, gn, sc, _, rfl, ?_⟩
          by_cases q : look (o e) z = look (n e) z
          · rw [decide_eq_true q] at one ⊢
            refine iteF ?_
            exact ⟨.ref po, rfl, .str z, rfl, po, _, rfl, go, by show 1 ≤ sizeLine; decide, fun l hl => ⟨.ref D, rfl, .str z, rfl, D, _, rfl, DPut.k (k := Sum.inr z) (dput _ l hl) small, fin _ (one rfl).symm l hl⟩⟩
          · rw [decide_eq_false q] at two ⊢
            refine iteT ?_
            exact ⟨.ref po, rfl, .str z, rfl, po, _, rfl, go, .ref pn, rfl, .str z, rfl, pn, _, rfl, gn, by show 2 ≤ sizeLine; decide, fun l hl => ⟨.ref D, rfl, .str z, rfl, D, _, rfl, DPut.k (k := Sum.inr z) (dput _ l hl) small, fin _ (two rfl).symm l hl⟩⟩
        · rw [decide_eq_false my] at one ⊢
          refine ⟨false, rfl, iteF ?_⟩
          refine iteF ?_
          exact ⟨.ref po, rfl, .str z, rfl, po, _, rfl, go, by show 1 ≤ sizeLine; decide, fun l hl => ⟨.ref D, rfl, .str z, rfl, D, _, rfl, DPut.k (k := Sum.inr z) (dput _ l hl) small, fin _ (one rfl).symm l hl⟩⟩
    · rintro σ H5 ⟨x7, rfl, _, x5, q5, o5, n5, npo, npn, rs, d5, hks, hrs⟩
      rw [List.length_map, List.take_length] at hks
      exact ⟨.ref D, rfl, k D H5 x5 hD0 ⟨rs, d5, hks, hrs⟩⟩
end
end Rw
end T_Y1

section T_Y2
set_option Elab.async false
set_option linter.all false
set_option maxRecDepth 100000
set_option maxHeartbeats 4000000
namespace Rw
open PySem L2 PyProof.Rows
theorem dget_rd {H : Hp} {a : Addr} {kvs : List (Key × V)} {k : Key} {v : V} (h : Rd H a (.dK kvs)) (hv : valV kvs k = some v) : DGet H a (kV k) (some v) := .inl ⟨kvs, k, h, rfl, hv.symm⟩
end Rw
end T_Y2

section T_S3
set_option Elab.async false
set_option linter.all false
set_option maxRecDepth 100000
set_option maxHeartbeats 4000000
namespace Rw
open PySem PySem.Spec PyProof.Rows
/-! ### rows of texts, one ahead of another -/
def lexS : List Str → List Str → Bool
  | [], [] => false
  | [], _ :: _ => true
  | _ :: _, [] => false
  | x :: r, y :: q => if x = y then lexS r q else decide (x.cps.toList < y.cps.toList)
theorem lexS_step (x y : Str) (r q : List Str) : lexS (x :: r) (y :: q) = if x = y then lexS r q else decide (x.cps.toList < y.cps.toList) := rfl
theorem txt_anti {x y : Str} (h1 : ¬ x.cps.toList < y.cps.toList) (h2 : ¬ y.cps.toList < x.cps.toList) : x = y := by
  have e : x.cps.toList = y.cps.toList := List.le_antisymm h2 h1
  cases x
  cases y
  exact congrArg Str.mk (Array.toList_inj.mp e)
theorem lexS_self : ∀ r : List Str, lexS r r = false
  | [] => rfl
  | x :: r => by rw [lexS_step, if_pos rfl]; exact lexS_self r
theorem lexS_no : ∀ {r q : List Str}, lexS r q = true → lexS q r = false
  | [], [], h => nomatch h
  | [], _ :: _, _ => rfl
  | _ :: _, [], h => nomatch h
  | x :: r, y :: q, h => by
    rw [lexS_step] at h ⊢
    by_cases e : x = y
    · rw [if_pos e] at h
      rw [if_pos e.symm]
      exact lexS_no h
    · rw [if_neg e, decide_eq_true_eq] at h
      rw [if_neg (fun z => e z.symm)]
      exact decide_eq_false fun z => List.lt_irrefl _ (List.lt_trans h z)
theorem lexS_tr : ∀ {r q p : List Str}, lexS q r = false → lexS p q = false → lexS p r = false
  | [], [], [], _, _ => rfl
  | [], [], _ :: _, _, _ => rfl
  | [], _ :: _, [], _, h => nomatch h
  | [], _ :: _, _ :: _, _, _ => rfl
  | _ :: _, [], _, h, _ => nomatch h
  | _ :: _, _ :: _, [], _, h => nomatch h
  | x :: r, y :: q, z :: p, h1, h2 => by
    rw [lexS_step] at h1 h2 ⊢
    by_cases e1 : y = x
    · subst e1
      rw [if_pos rfl] at h1
      by_cases e2 : z = y
      · subst e2
        rw [if_pos rfl] at h2 ⊢
        exact lexS_tr h1 h2
      · rw [if_neg e2] at h2 ⊢
        exact h2
    · rw [if_neg e1, decide_eq_false_iff_not] at h1
      by_cases e2 : z = y
      · subst e2
        rw [if_neg e1]
        exact decide_eq_false h1
      · rw [if_neg e2, decide_eq_false_iff_not] at h2
        by_cases e3 : z = x
        · subst e3
          exact absurd (txt_anti h1 h2) e1
        · rw [if_neg e3]
          exact decide_eq_false fun h3 => List.le_trans (show x.cps.toList ≤ y.cps.toList from h1) (show y.cps.toList ≤ z.cps.toList from h2) h3
theorem lexS_tot : ∀ {r q : List Str}, lexS r q = false → lexS q r = false → r = q
  | [], [], _, _ => rfl
  | [], _ :: _, h, _ => nomatch h
  | _ :: _, [], _, h => nomatch h
  | x :: r, y :: q, h1, h2 => by
    rw [lexS_step] at h1 h2
    by_cases e : x = y
    · subst e
      rw [if_pos rfl] at h1 h2
      rw [lexS_tot h1 h2]
    · rw [if_neg e, decide_eq_false_iff_not] at h1
      rw [if_neg (fun z => e z.symm), decide_eq_false_iff_not] at h2
      exact absurd (txt_anti h1 h2) e
/-- first by the number, then by the row -/
def numRow (p q : Int × List Str) : Bool := if p.1 = q.1 then lexS p.2 q.2 else decide (p.1 < q.1)
theorem numRow_swo {α : Type} (k : α → Int × List Str) : SrtO.Swo fun a b => numRow (k a) (k b) := by
  refine ⟨fun a b h => ?_, fun a b c h1 h2 => ?_⟩
  · unfold numRow at h ⊢
    by_cases e : (k a).1 = (k b).1
    · rw [if_pos e] at h
      rw [if_pos e.symm]
      exact lexS_no h
    · rw [if_neg e, decide_eq_true_eq] at h
      rw [if_neg (fun z => e z.symm)]
      exact decide_eq_false (by omega)
  · unfold numRow at h1 h2 ⊢
    by_cases e1 : (k b).1 = (k a).1
    · rw [if_pos e1] at h1
      by_cases e2 : (k c).1 = (k b).1
      · rw [if_pos e2] at h2
        rw [if_pos (e2.trans e1)]
        exact lexS_tr h1 h2
      · rw [if_neg e2, decide_eq_false_iff_not] at h2
        rw [if_neg (fun z => e2 (z.trans e1.symm))]
        exact decide_eq_false (by omega)
    · rw [if_neg e1, decide_eq_false_iff_not] at h1
      by_cases e2 : (k c).1 = (k b).1
      · rw [if_neg (fun z => e1 (e2.symm.trans z))]
        exact decide_eq_false (by omega)
      · rw [if_neg e2, decide_eq_false_iff_not] at h2
        rw [if_neg (by omega)]
        exact decide_eq_false (by omega)
/-! ### tuples of texts: < -/
section
open PySem.SeqAt
open PySem.AutoSeq1 (wpAny_loadPart')
open PySem.MeetsSeq PySem.MeetsSeq2 PySem.MeetsSeq3
theorem tupS_lt (p q : Addr) (us vs : Array Value) (k1 k2 : Nat) (d1 d2 : Option Addr) (z1 z2 : Array (Option Value)) (xs ys : List Str) (hx : StrsAre us.toList xs) (hy : StrsAre vs.toList ys) :
    Meets (Builtin.«tuple.__lt__» ⟨[.ref p, .ref q], []⟩)
      (fun _ R s => s.heap.get? p = some { cls := .type "tuple", dict := d1, data := .seq us k1, slots := z1 } ∧ s.heap.get? q = some { cls := .type "tuple", dict := d2, data := .seq vs k2, slots := z2 } ∧ R (.ok (.ret (.bool (lexS xs ys)))) s) :=
  .of_wp fun prog w A R s h => by
    obtain ⟨hp, gs, dr, tk, os⟩ := s
    obtain ⟨at_p, at_q, fin⟩ := h
    have sub := AutoSeq1.sub_tuple_tuple
    have l1 : us.size = xs.length := by rw [← hx.len_eq, Array.length_toList]
    have l2 : vs.size = ys.length := by rw [← hy.len_eq, Array.length_toList]
    wp_walk using wpAny_loadPart' at_p, wpAny_loadPart' at_q, wpAny_forIn_list _ (fun more b t => b.1 = none ∧ t = ⟨hp, gs, dr, tk, os⟩ ∧ ∃ (as bs : List Value) (xs' ys' : List Str), more = as.zip bs ∧
      StrsAre as xs' ∧ StrsAre bs ys' ∧ xs'.length + vs.size = ys'.length + us.size ∧ R (.ok (.ret (.bool (lexS xs' ys')))) ⟨hp, gs, dr, tk, os⟩) _
    case turn =>
      rintro ⟨u, v⟩ more b t ⟨b0, rfl, as, bs, xs', ys', em, ha, hb, hl, hR⟩
      cases ha with
      | nil => rw [List.zip_nil_left] at em; cases em
      | cons x t1 ha2 =>
        cases hb with
        | nil => rw [List.zip_nil_right] at em; cases em
        | cons y t2 hb2 =>
          rw [List.zip_cons_cons] at em
          injection em with e1 e2
          injection e1 with e3 e4
          subst e3 e4
          rw [lexS_step] at hR
          simp only [List.length_cons] at hl
          have same := SeqAt.EqAt.str_str (A := A.in1) (s := ⟨hp, gs, dr, tk, os⟩) x t1 y t2
          refine wpAny_bind (same prog w _ _ ?_)
          by_cases e : x = y
          · rw [show (x == y) = true from beq_iff_eq.mpr e]
            rw [if_pos e] at hR
            wp_walk
            exact ⟨rfl, rfl, _, _, _, _, e2, ha2, hb2, by omega, hR⟩
          · rw [show (x == y) = false from beq_eq_false_iff_ne.mpr e]
            rw [if_neg e] at hR
            have less := DT.rcLt_str A.in1 ⟨hp, gs, dr, tk, os⟩ x t1 y t2 prog w
            wp_walk using less
            exact ⟨_, rfl, by simpa using hR⟩
    case fin =>
      rintro ⟨c1, c2⟩ t ⟨b0, rfl, as, bs, xs', ys', em, ha, hb, hl, hR⟩
      simp only at b0
      subst b0
      have ev : lexS xs' ys' = decide (us.size < vs.size) := by
        cases ha with
        | nil =>
          cases hb with
          | nil =>
            simp only [List.length_nil] at hl
            exact (decide_eq_false (by omega)).symm
          | cons y t2 hb2 =>
            simp only [List.length_nil, List.length_cons] at hl
            exact (decide_eq_true (by omega)).symm
        | cons x t1 ha2 =>
          cases hb with
          | nil =>
            simp only [List.length_nil, List.length_cons] at hl
            exact (decide_eq_false (by omega)).symm
          | cons y t2 hb2 =>
            rw [List.zip_cons_cons] at em
            cases em
      rw [ev] at hR
      wp_walk
      exact ⟨_, rfl, by simpa [Builtin.Tuple.tupleCompareSizes] using hR⟩
    case h =>
      exact ⟨rfl, rfl, us.toList, vs.toList, xs, ys, rfl, hx, hy, by omega, fin⟩
end
section
variable {prog : Program} {w : World} {A : Around} {E : Value → Shared → Prop} {s : Shared}
theorem less_tupS {p q : Addr} {us vs : Array Value} {xs ys : List Str} {Q : Value → Shared → Prop} (hp : IsTup s.heap p us) (hq : IsTup s.heap q vs) (hx : StrsAre us.toList xs) (hy : StrsAre vs.toList ys) (room : A.units < cLine)
    (h : Q (.bool (lexS xs ys)) s) : wpAny (model prog w) A (compareOp .Lt (.ref p) (.ref q)) Q E s := by
  obtain ⟨⟨c1, e1, t1, z1⟩, at_p, x1, k1, y1⟩ := id hp
  obtain ⟨⟨c2, e2, t2, z2⟩, at_q, x2, k2, y2⟩ := id hq
  simp only at x1 y1 x2 y2
  subst x1 y1 x2 y2
  exact richCompare_meets_room (op := .Lt) ⟨_, at_p, rfl⟩ ⟨_, at_q, rfl⟩ PySem.F.slot_tuple_lt PySem.F.entry_tuple_lt (PySem.F.args_tuple_lt_2 _ _) (tupS_lt p q us vs k1 k2 e1 e2 z1 z2 xs ys hx hy)
    ⟨at_p, at_q, show Value.bool (lexS xs ys) ≠ Value.notImplemented ∧ Q (.bool (lexS xs ys)) s from ⟨(fun z => nomatch z), h⟩⟩ room
/-- a tuple of a number and a tuple of texts -/
def IsNR (h : Heap) (v : Value) (k : Int × List Str) : Prop := ∃ (a b : Addr) (t : Tok) (us : Array Value), v = .ref a ∧ IsTup h a #[.int k.1 t, .ref b] ∧ IsTup h b us ∧ StrsAre us.toList k.2
theorem IsNR.on {h h' : Heap} {v : Value} {k : Int × List Str} (x : IsNR h v k) (keep : ∀ b o, h.get? b = some o → o.cls = .type "tuple" → h'.get? b = some o) : IsNR h' v k := by
  obtain ⟨a, b, t, us, e, ⟨o, h1, h2, h3⟩, ⟨o2, g1, g2, g3⟩, r⟩ := x
  exact ⟨a, b, t, us, e, ⟨o, keep _ _ h1 h2, h2, h3⟩, ⟨o2, keep _ _ g1 g2, g2, g3⟩, r⟩
theorem key_row {h : Heap} {b : Addr} {us : Array Value} {xs : List Str} (hb : IsTup h b us) (hx : StrsAre us.toList xs) : IsTupleKey (L2.mixKind prog w) h (xs.map Sum.inr) b := by
  obtain ⟨o, h1, h2, n, h3⟩ := hb
  refine ⟨o, us, n, h1, h2, h3, ?_⟩
  have go : ∀ {vs : List Value} {zs : List Str}, StrsAre vs zs → ItemsAre (L2.mixKind prog w) (zs.map Sum.inr) vs := by
    intro vs zs q
    induction q with
    | nil => exact .nil
    | cons y t _ ih => exact .cons (L2.mixKind_str prog w y t) ih
  exact go hx
theorem nr_cmp {vs : List Value} {k : Value → Int × List Str} (room : A.units < cLine) (hp : ∀ v ∈ vs, IsNR s.heap v (k v)) : SrtO.Cmp prog w A s (tuples' true) (fun p => p.1 ∈ vs) (SrtO.lt2 fun v u => numRow (k v) (k u)) := by
  intro p q m1 m2
  have h1 := hp _ m1
  have h2 := hp _ m2
  show wpAny (model prog w) A (keyLt' (tuples' true) p.1 q.1) (fun r t => t = s ∧ r = numRow (k p.1) (k q.1)) (fun _ _ => False) s
  generalize k p.1 = kp at h1 ⊢
  generalize k q.1 = kq at h2 ⊢
  obtain ⟨i, xs⟩ := kp
  obtain ⟨j, ys⟩ := kq
  obtain ⟨a, b, t, us, ep, ⟨o, g1, g2, n, g3⟩, tb, rs⟩ := h1
  obtain ⟨a', b', t', us', eq, ⟨o', g1', g2', n', g3'⟩, tb', rs'⟩ := h2
  rw [ep, eq]
  refine PySem.W.kat_lt g1 g3 g1' g3' ?_
  show PySem.W.KatLex prog w A true (decide (2 < 2)) _ [(.int i t, .int j t'), (.ref b, .ref b')] 0 s
  refine PySem.W.kat_cons (SeqAt.EqAt.int_int i t j t' prog w _ _ ?_)
  refine PySem.W.kat_go (fun e1 => ?_) (fun e1 => ?_)
  · have ei : i = j := by simpa using e1
    refine PySem.W.kat_yes (PySem.W.kat_cons (wpAny_eqBool_tuple (knd := L2.mixKind prog w) room (key_row tb rs) (key_row tb' rs') ?_))
    have val : numRow (i, xs) (j, ys) = lexS xs ys := by unfold numRow; exact if_pos ei
    refine PySem.W.kat_go (fun e2 => ?_) (fun e2 => ?_)
    · have e3 : xs = ys := (List.map_inj_right (fun _ _ z => Sum.inr.inj z)).mp (of_decide_eq_true e2)
      exact PySem.W.kat_yes (PySem.W.kat_nil ⟨rfl, by rw [val, e3, lexS_self]; rfl⟩)
    · refine PySem.W.kat_no (PySem.W.kat_one _ _ (less_tupS tb tb' rs rs' room ?_))
      exact (show s = s ∧ lexS xs ys = numRow (i, xs) (j, ys) from ⟨rfl, val.symm⟩)
  · have ei : ¬ i = j := by simpa using e1
    have val : numRow (i, xs) (j, ys) = decide (i < j) := by unfold numRow; exact if_neg ei
    exact PySem.W.kat_no (oneLt_int ⟨rfl, val.symm⟩)
theorem nr_firsts {h : Heap} {k : Value → Int × List Str} : ∀ {vs : List Value}, (∀ v ∈ vs, IsNR h v (k v)) → ∃ fs : List Value, PySem.W.KatTups h vs fs ∧ fs.length = vs.length ∧ ∀ f ∈ fs, ∃ i t, f = Value.int i t
  | [], _ => ⟨[], PySem.W.KatTups.nil, rfl, fun _ z => nomatch z⟩
  | v :: vs, hp => by
    obtain ⟨fs, g1, g2, g3⟩ := nr_firsts (vs := vs) fun u hu => hp u (List.mem_cons_of_mem _ hu)
    obtain ⟨a, b, t, us, rfl, ⟨o, h1, h2, n, h3⟩, _⟩ := hp v List.mem_cons_self
    refine ⟨.int (k (.ref a)).1 t :: fs, PySem.W.KatTups.cons h1 h2 h3 rfl g1, congrArg (· + 1) g2, fun f hf => ?_⟩
    rcases List.mem_cons.mp hf with rfl | hf
    · exact ⟨_, t, rfl⟩
    · exact g3 f hf
theorem nr_sortable {a : Addr} {vs : List Value} {k : Value → Int × List Str} (room : A.units < cLine) (h0 : 0 < vs.length) (hp : ∀ v ∈ vs, IsNR s.heap v (k v)) (ha : ∀ o, s.heap.get? a = some o → o.cls ≠ .type "tuple") : SrtO.SortableO prog w A s a vs fun v u => numRow (k v) (k u) := by
  intro h' keep
  have hp' : ∀ v ∈ vs, IsNR h' v (k v) := fun v hv => (hp v hv).on fun b o e c => keep b o (fun z => by subst z; exact ha o e c) e
  obtain ⟨fs, g1, g2, g3⟩ := nr_firsts hp'
  refine ⟨tuples' true, fun Q E hq => ?_, nr_cmp (s := { s with heap := h' }) room hp'⟩
  refine PySem.W.kat_kind (T := .type "int") g1 (by omega) (fun f hf => ?_) (by rfl) ?_
  · obtain ⟨i, t, rfl⟩ := g3 f hf
    exact PySem.W.Looks.now
  · rw [show (Value.type "int" != Value.type "tuple") = true by first | decide +kernel | rfl]
    exact hq
end
end Rw
namespace L2
open PySem PySem.Spec PyProof.Rows
/-- sorted(xs), xs a list of tuples of a number and a tuple of texts: a new list, in order -/
def rSortNR (K : PySem.W.Frag) : List V → Hp → VK → Prop := fun vs H Q => ∃ (a : Addr) (xs : List V) (k : V → Int × List Str), vs = [V.ref a] ∧ SqL K H a xs ∧ (∀ x ∈ xs, ∃ t b, x = V.ref t ∧ H t = some (.tup [.int (k x).1, .ref b]) ∧ H b = some (.tup ((k x).2.map V.str))) ∧
  ∀ ys p, ys.Perm xs → SrtO.Srtd (fun x y => Rw.numRow (k x) (k y)) ys → H p = none → Q (.ref p) (upd H p (.lst ys))
theorem cr_sortNR {X : Cx} (room : X.A.units + 2 < cLine) : CallR X (.builtin "sorted") (rSortNR X.K) := by
  intro pins s σ H vs us Q I r h
  obtain ⟨a, xs, k, rfl, hs, hx, q⟩ := h
  obtain ⟨its, rv, hl, hz⟩ := I.list hs
  obtain ⟨u, rfl, ru⟩ := vals1 r
  obtain rfl : u = Value.ref a := ru
  obtain ⟨e1, e2⟩ := refs_back rv fun x m => by
    obtain ⟨t, _, e, _⟩ := hx x m
    exact ⟨t, e⟩
  have all : ∀ v ∈ its, Rw.IsNR s.heap v (k (backV v)) := fun v hv => by
    obtain ⟨t, rfl⟩ := e2 v hv
    have hm : V.ref t ∈ xs := by rw [e1]; exact List.mem_map.mpr ⟨_, hv, rfl⟩
    obtain ⟨t', b, e, ht, hb⟩ := hx _ hm
    cases e
    obtain ⟨_, i2, r2, o, ho, hc, n, hd⟩ := I.hok _ _ ht
    obtain ⟨u1, u2, rfl, ri, rj⟩ := vals2 r2
    obtain ⟨t1, rfl⟩ := ri
    cases rj
    obtain ⟨_, i3, r3, o3, ho3, hc3, n3, hd3⟩ := I.hok _ _ hb
    exact ⟨t, b, t1, i3.toArray, rfl, ⟨o, ho, hc, n, hd⟩, ⟨o3, ho3, hc3, n3, hd3⟩, Vals.strs r3⟩
  refine SrtO.sorted_ord (Rw.numRow_swo fun v => k (backV v)) hl.isList (by rw [← rv.length]; exact hz) (fun h2 h1 d hd kk => ?_) fun out hs1 hb1 => ?_
  · refine Rw.nr_sortable (s := { s with heap := h1 }) (by show X.A.units + 1 + 1 < cLine; omega) (by omega) (fun v hv => (all v hv).on fun b o e _ => (kk b o e).2) fun o e => ?_
    have e' : some o = some (seqObj "list" its.toArray 0) := e.symm.trans hd
    cases e'
    intro c
    exact absurd (Value.type.inj c) (by decide)
  · have h3 : ∀ u ∈ out, ∃ a, u = Value.ref a := fun u hu => e2 u (hb1.perm.mem_iff.mp hu)
    have hp : (out.map backV).Perm xs := by rw [e1]; exact hb1.perm.map _
    obtain ⟨n, hn⟩ := sortedAll_at s.heap its out.toArray
    refine ⟨.ref (s.heap.objs.size + 1), upd H (s.heap.objs.size + 1) (.lst (out.map backV)), I.laid (t' := s.toks) (fun b o e => sortedAll_old e) (Nat.le_succ _) ⟨?_, out, n, vals_back h3, hn⟩, rfl, q _ _ hp (SrtO.srtd_map (f := backV) (lt := fun x y => Rw.numRow (k x) (k y)) hs1) (I.hok.fresh (Nat.le_succ _))⟩
    rw [hp.length_eq]
    exact hz
end L2
end T_S3

section T_K0
set_option Elab.async false
set_option linter.all false
set_option maxRecDepth 100000
set_option maxHeartbeats 1000000
namespace Rw
open PySem PySem.Spec L2 PyProof.Rows
/-! ### rows of nodes in a mixture -/
def lastS : Str → List Str → Str
  | x, [] => x
  | _, y :: r => lastS y r
def Way (f : Str → List V) : Str → List Str → Prop
  | _, [] => True
  | x, y :: r => V.str y ∈ f x ∧ Way f y r
def lastP : List Str → Str
  | [] => Str.empty
  | x :: r => lastS x r
def IsWay (dots : List Str) (f : Str → List V) : List Str → Prop
  | [] => False
  | x :: r => Way f x r ∧ ∀ z ∈ x :: r, z ∈ dots
def Shut (f : Str → List V) : List Str → Prop
  | [] => False
  | x :: r => V.str x ∈ f (lastS x r)
def IsRing (dots : List Str) (f : Str → List V) (p : List Str) : Prop := IsWay dots f p ∧ Shut f p
def Best (dots : List Str) (f : Str → List V) (p : List Str) : Prop := IsRing dots f p ∧ ∀ q, IsRing dots f q → numRow ((q.length : Int), q) ((p.length : Int), p) = false
section
variable {dots : List Str} {f : Str → List V}
theorem lastS_mid : ∀ (x : Str) (s : List Str) (y : Str) (t : List Str), lastS x (s ++ y :: t) = lastS y t
  | _, [], _, _ => rfl
  | _, z :: s, y, t => lastS_mid z s y t
theorem way_mid : ∀ (x : Str) (s : List Str) (y : Str) (t : List Str), Way f x (s ++ y :: t) ↔ Way f x s ∧ V.str y ∈ f (lastS x s) ∧ Way f y t
  | x, [], y, t => ⟨fun h => ⟨trivial, h.1, h.2⟩, fun h => ⟨h.2.1, h.2.2⟩⟩
  | x, z :: s, y, t => by
    show (V.str z ∈ f x ∧ Way f z (s ++ y :: t)) ↔ (V.str z ∈ f x ∧ Way f z s) ∧ _
    rw [way_mid z s y t]
    exact ⟨fun h => ⟨⟨h.1, h.2.1⟩, h.2.2⟩, fun h => ⟨h.1.1, h.1.2, h.2⟩⟩
theorem isWay_ne {p : List Str} (h : IsWay dots f p) : p ≠ [] := fun e => by rw [e] at h; exact h
theorem isWay_dots {p : List Str} (h : IsWay dots f p) : ∀ z ∈ p, z ∈ dots := by
  cases p with
  | nil => exact h.elim
  | cons x r => exact h.2
theorem isWay_one {z : Str} (h : z ∈ dots) : IsWay dots f [z] := ⟨trivial, fun y hy => by rw [List.mem_singleton.mp hy]; exact h⟩
theorem isWay_snoc {p : List Str} {y : Str} (ne : p ≠ []) : IsWay dots f (p ++ [y]) ↔ IsWay dots f p ∧ V.str y ∈ f (lastP p) ∧ y ∈ dots := by
  cases p with
  | nil => exact absurd rfl ne
  | cons x r =>
    show (Way f x (r ++ [y]) ∧ ∀ z ∈ x :: (r ++ [y]), z ∈ dots) ↔ (Way f x r ∧ ∀ z ∈ x :: r, z ∈ dots) ∧ V.str y ∈ f (lastS x r) ∧ y ∈ dots
    rw [way_mid]
    refine ⟨fun h => ⟨⟨h.1.1, fun z hz => h.2 z (by rw [← List.cons_append]; exact List.mem_append_left _ hz)⟩, h.1.2.1, h.2 y (by rw [← List.cons_append]; exact List.mem_append_right _ List.mem_cons_self)⟩, fun h => ⟨⟨h.1.1, h.2.1, trivial⟩, fun z hz => ?_⟩⟩
    rw [← List.cons_append] at hz
    rcases List.mem_append.mp hz with hz | hz
    · exact h.1.2 z hz
    · rw [List.mem_singleton.mp hz]; exact h.2.2
theorem isWay_pre {p s : List Str} (ne : p ≠ []) (h : IsWay dots f (p ++ s)) : IsWay dots f p := by
  cases p with
  | nil => exact absurd rfl ne
  | cons x r =>
    cases s with
    | nil => rw [List.append_nil] at h; exact h
    | cons y t =>
      obtain ⟨h1, h2⟩ := (show Way f x (r ++ y :: t) ∧ ∀ z ∈ x :: (r ++ y :: t), z ∈ dots from h)
      exact ⟨((way_mid x r y t).mp h1).1, fun z hz => h2 z (by rw [← List.cons_append]; exact List.mem_append_left _ hz)⟩
/-- a row with a node twice has a shorter ring -/
theorem ring_of_twice : ∀ (r : List Str) (x : Str), IsWay dots f (x :: r) → ¬ (x :: r).Nodup → ∃ q, IsRing dots f q ∧ q.length < (x :: r).length
  | [], x, _, h => absurd (List.nodup_cons.mpr ⟨by simp, List.nodup_nil⟩) h
  | y :: r, x, h, hn => by
    by_cases hx : x ∈ y :: r
    · obtain ⟨s, t, e⟩ := List.append_of_mem hx
      obtain ⟨h1, h2⟩ := h
      rw [e] at h1 h2 ⊢
      have h3 := (way_mid x s x t).mp h1
      refine ⟨x :: s, ⟨⟨h3.1, fun z hz => h2 z (by rw [← List.cons_append]; exact List.mem_append_left _ hz)⟩, h3.2.1⟩, ?_⟩
      simp
    · have hr : ¬ (y :: r).Nodup := fun z => hn (List.nodup_cons.mpr ⟨hx, z⟩)
      obtain ⟨q, h1, h2⟩ := ring_of_twice r y ⟨h.1.2, fun z hz => h.2 z (List.mem_cons_of_mem _ hz)⟩ hr
      exact ⟨q, h1, Nat.lt_succ_of_lt h2⟩
theorem numRow_short {p q : List Str} (h : q.length < p.length) : numRow ((q.length : Int), q) ((p.length : Int), p) = true := by
  unfold numRow
  rw [if_neg (by show ¬ ((q.length : Int) = p.length); omega)]
  exact decide_eq_true (by show (q.length : Int) < p.length; omega)
theorem numRow_even {p q : List Str} (h : q.length = p.length) : numRow ((q.length : Int), q) ((p.length : Int), p) = lexS q p := by
  unfold numRow
  exact if_pos (by show (q.length : Int) = p.length; omega)
theorem best_nodup {p : List Str} (h : Best dots f p) : p.Nodup := by
  cases p with
  | nil => exact List.nodup_nil
  | cons x r =>
    by_cases n : (x :: r).Nodup
    · exact n
    · obtain ⟨q, h1, h2⟩ := ring_of_twice r x h.1.1 n
      have := h.2 q h1
      rw [numRow_short h2] at this
      cases this
theorem best_least {x : Str} {r : List Str} (h : Best dots f (x :: r)) : ∀ y ∈ r, x.cps.toList < y.cps.toList := by
  intro y hy
  have nd := best_nodup h
  obtain ⟨s, t, e⟩ := List.append_of_mem hy
  subst e
  obtain ⟨⟨⟨h1, h2⟩, h3⟩, h4⟩ := h
  have w := (way_mid x s y t).mp h1
  have sh : V.str x ∈ f (lastS y t) := by
    have q : V.str x ∈ f (lastS x (s ++ y :: t)) := h3
    rw [lastS_mid] at q
    exact q
  have c : IsRing dots f (y :: (t ++ x :: s)) := by
    refine ⟨⟨(way_mid y t x s).mpr ⟨w.2.2, sh, w.1⟩, fun z hz => h2 z ?_⟩, ?_⟩
    · simp only [List.mem_cons, List.mem_append] at hz ⊢
      rcases hz with rfl | hz | rfl | hz
      · exact .inr (.inr (.inl rfl))
      · exact .inr (.inr (.inr hz))
      · exact .inl rfl
      · exact .inr (.inl hz)
    · show V.str y ∈ f (lastS y (t ++ x :: s))
      rw [lastS_mid]
      exact w.2.1
  have k := h4 _ c
  have ne : x ≠ y := fun e => by
    subst e
    exact (List.nodup_cons.mp nd).1 (List.mem_append_right _ List.mem_cons_self)
  rw [numRow_even (by simp; omega), lexS_step, if_neg (fun z => ne z.symm), decide_eq_false_iff_not] at k
  by_cases g : x.cps.toList < y.cps.toList
  · exact g
  · exact absurd (txt_anti g k) ne
/-! ### the nodes behind one -/
def dotOf (dots : List Str) : V → Option Str
  | .str y => if y ∈ dots then some y else none
  | _ => none
def behind (dots : List Str) (f : Str → List V) (z : Str) : List Str := (f z).filterMap (dotOf dots)
theorem dotOf_some {v : V} {y : Str} : dotOf dots v = some y ↔ v = .str y ∧ y ∈ dots := by
  cases v with
  | str x =>
    show (if x ∈ dots then some x else none) = some y ↔ _
    by_cases h : x ∈ dots
    · rw [if_pos h]
      exact ⟨fun e => (by cases e; exact ⟨rfl, h⟩), fun e => (by cases e.1; rfl)⟩
    · rw [if_neg h]
      exact ⟨fun e => (by cases e), fun e => (by cases e.1; exact absurd e.2 h)⟩
  | _ => exact ⟨fun e => (by cases e), fun e => (by cases e.1)⟩
theorem mem_behind {z y : Str} : y ∈ behind dots f z ↔ V.str y ∈ f z ∧ y ∈ dots := by
  unfold behind
  rw [List.mem_filterMap]
  exact ⟨fun ⟨v, h1, h2⟩ => by obtain ⟨rfl, h3⟩ := dotOf_some.mp h2; exact ⟨h1, h3⟩, fun h => ⟨_, h.1, dotOf_some.mpr ⟨rfl, h.2⟩⟩⟩
theorem pick_nodup : ∀ {l : List V}, l.Nodup → (l.filterMap (dotOf dots)).Nodup
  | [], _ => List.nodup_nil
  | v :: l, h => by
    obtain ⟨h1, h2⟩ := List.nodup_cons.mp h
    rw [List.filterMap_cons]
    cases e : dotOf dots v with
    | none => exact pick_nodup h2
    | some y =>
      refine List.nodup_cons.mpr ⟨fun m => h1 ?_, pick_nodup h2⟩
      obtain ⟨u, g1, g2⟩ := List.mem_filterMap.mp m
      rw [(dotOf_some.mp e).1, ← (dotOf_some.mp g2).1]
      exact g1
/-- in order -/
noncomputable def srt (l : List Str) : List Str := by
  classical exact if h : ∃ ys : List Str, ys.Perm l ∧ sortedS ys = true then Classical.choose h else []
theorem srt_is {l ys : List Str} (h1 : ys.Perm l) (h2 : sortedS ys = true) : srt l = ys := by
  have h : ∃ ys : List Str, ys.Perm l ∧ sortedS ys = true := ⟨ys, h1, h2⟩
  have g := Classical.choose_spec h
  have e : srt l = Classical.choose h := by unfold srt; exact dif_pos h
  rw [e]
  exact sorted_uniq g.2 h2 (g.1.trans h1.symm)
/-! ### lexS over rows of one length -/
theorem lexS_more : ∀ {p q : List Str} (s t : List Str), p.length = q.length → lexS p q = true → lexS (p ++ s) (q ++ t) = true
  | [], [], _, _, _, h => nomatch h
  | [], _ :: _, _, _, e, _ => nomatch e
  | _ :: _, [], _, _, e, _ => nomatch e
  | x :: p, y :: q, s, t, e, h => by
    rw [List.cons_append, List.cons_append, lexS_step]
    rw [lexS_step] at h
    by_cases exy : x = y
    · rw [if_pos exy] at h ⊢
      exact lexS_more s t (Nat.succ.inj e) h
    · rw [if_neg exy] at h ⊢
      exact h
theorem lexS_tail : ∀ (p : List Str) {y z : Str}, y.cps.toList < z.cps.toList → lexS (p ++ [y]) (p ++ [z]) = true
  | [], y, z, h => by
    show lexS [y] [z] = true
    rw [lexS_step, if_neg (fun e => by rw [e] at h; exact List.lt_irrefl _ h)]
    exact decide_eq_true h
  | x :: p, y, z, h => by
    rw [List.cons_append, List.cons_append, lexS_step, if_pos rfl]
    exact lexS_tail p h
theorem strict_of {l : List Str} (h : sortedS l = true) (n : l.Nodup) : l.Pairwise fun a b => a.cps.toList < b.cps.toList := by
  refine List.Pairwise.imp_of_mem (R := fun a b => TLe a b ∧ a ≠ b) (fun {a b} _ _ h => ?_) ?_
  · by_cases g : a.cps.toList < b.cps.toList
    · exact g
    · exact absurd (txt_anti g h.1) h.2
  · exact List.pairwise_and_iff.mpr ⟨sorted_pair h, n⟩
/-! ### the rows of one length, in order -/
noncomputable def nexts (dots : List Str) (f : Str → List V) (p : List Str) : List (List Str) := (srt (behind dots f (lastP p))).map fun y => p ++ [y]
structure Lay (dots : List Str) (f : Str → List V) (k : Nat) (L : List (List Str)) : Prop where
  all : ∀ p, p ∈ L ↔ IsWay dots f p ∧ p.length = k + 1
  asc : L.Pairwise fun p q => lexS p q = true
  non : ∀ p, IsRing dots f p → k < p.length
  few : L.length ≤ dots.length * 2 ^ k
theorem lay_start (ds : sortedS dots = true) (dn : dots.Nodup) : Lay dots f 0 (dots.map fun z => [z]) := by
  refine ⟨fun p => ⟨fun h => ?_, fun h => ?_⟩, ?_, fun p h => ?_, by rw [List.length_map]; omega⟩
  · obtain ⟨z, hz, rfl⟩ := List.mem_map.mp h
    exact ⟨isWay_one hz, rfl⟩
  · match p, h with
    | [z], h => exact List.mem_map.mpr ⟨z, h.1.2 z List.mem_cons_self, rfl⟩
  · rw [List.pairwise_map]
    exact (strict_of ds dn).imp fun h => lexS_tail [] h
  · exact List.length_pos_iff.mpr (isWay_ne h.1)
theorem lay_hit {k : Nat} {A B : List (List Str)} {p : List Str} (h : Lay dots f k (A ++ p :: B)) (hA : ∀ q ∈ A, ¬ Shut f q) (hp : Shut f p) : Best dots f p := by
  have wp := (h.all p).mp (List.mem_append_right _ List.mem_cons_self)
  refine ⟨⟨wp.1, hp⟩, fun q hq => ?_⟩
  have lq := h.non q hq
  by_cases e : q.length = p.length
  · rw [numRow_even e]
    have mq : q ∈ A ++ p :: B := (h.all q).mpr ⟨hq.1, by rw [e]; exact wp.2⟩
    have as := h.asc
    rcases List.mem_append.mp mq with mq | mq
    · exact absurd hq.2 (hA q mq)
    · rcases List.mem_cons.mp mq with rfl | mq
      · exact lexS_self _
      · exact lexS_no ((List.pairwise_cons.mp (List.pairwise_append.mp as).2.1).1 q mq)
  · unfold numRow
    rw [if_neg (by show ¬ ((q.length : Int) = p.length); omega)]
    exact decide_eq_false (by show ¬ ((q.length : Int) < p.length); omega)
theorem lay_end {k : Nat} (h : Lay dots f k []) (p : List Str) : ¬ IsRing dots f p := fun hp => by
  have l := h.non p hp
  have e : p = p.take (k + 1) ++ p.drop (k + 1) := (List.take_append_drop _ _).symm
  have ne : p.take (k + 1) ≠ [] := fun z => by
    have := congrArg List.length z
    rw [List.length_take, List.length_nil] at this
    omega
  have w : IsWay dots f (p.take (k + 1)) := isWay_pre ne (by rw [← e]; exact hp.1)
  have := (h.all _).mpr ⟨w, by rw [List.length_take]; omega⟩
  cases this
theorem lay_len {k : Nat} {p : List Str} {L : List (List Str)} (h : Lay dots f k (p :: L)) (dn : dots.Nodup) : k + 1 ≤ dots.length := by
  have wp := (h.all p).mp List.mem_cons_self
  by_cases n : p.Nodup
  · rw [← wp.2]
    exact nodup_le p dots n (isWay_dots wp.1)
  · cases p with
    | nil => exact absurd List.nodup_nil n
    | cons x r =>
      obtain ⟨q, h1, h2⟩ := ring_of_twice r x wp.1 n
      have := h.non q h1
      have := wp.2
      omega
theorem lay_next {k : Nat} {L : List (List Str)} (h : Lay dots f k L) (hn : ∀ p ∈ L, ¬ Shut f p) (fn : ∀ z ∈ dots, (f z).Nodup ∧ (f z).length ≤ 2) (ex : ∀ p ∈ L, ∃ ys : List Str, ys.Perm (behind dots f (lastP p)) ∧ sortedS ys = true) : Lay dots f (k + 1) (L.flatMap (nexts dots f)) := by
  have lp : ∀ p ∈ L, p ≠ [] ∧ lastP p ∈ dots := fun p hp => by
    have w := ((h.all p).mp hp).1
    refine ⟨isWay_ne w, ?_⟩
    cases p with
    | nil => exact w.elim
    | cons x r =>
      have go : ∀ (r : List Str) (x : Str), lastS x r ∈ x :: r := fun r => by
        induction r with
        | nil => intro x; exact List.mem_cons_self
        | cons y r ih => intro x; exact List.mem_cons_of_mem _ (ih y)
      exact w.2 _ (go r x)
  have sp : ∀ p ∈ L, (srt (behind dots f (lastP p))).Perm (behind dots f (lastP p)) ∧ sortedS (srt (behind dots f (lastP p))) = true := fun p hp => by
    obtain ⟨ys, h1, h2⟩ := ex p hp
    rw [srt_is h1 h2]
    exact ⟨h1, h2⟩
  refine ⟨fun q => ⟨fun hq => ?_, fun hq => ?_⟩, ?_, fun q hq => ?_, ?_⟩
  · obtain ⟨p, hp, hq⟩ := List.mem_flatMap.mp hq
    obtain ⟨y, hy, rfl⟩ := List.mem_map.mp hq
    obtain ⟨w, l⟩ := (h.all p).mp hp
    have b := mem_behind.mp ((sp p hp).1.mem_iff.mp hy)
    exact ⟨(isWay_snoc (lp p hp).1).mpr ⟨w, b.1, b.2⟩, by rw [List.length_append, l]; rfl⟩
  · obtain ⟨w, l⟩ := hq
    have ne : q ≠ [] := isWay_ne w
    obtain ⟨p, y, rfl⟩ : ∃ p y, q = p ++ [y] := ⟨q.dropLast, q.getLast ne, (List.dropLast_concat_getLast ne).symm⟩
    rw [List.length_append] at l
    have l' : p.length = k + 1 := by simpa using l
    have pne : p ≠ [] := fun z => by rw [z] at l'; cases l'
    obtain ⟨w1, w2, w3⟩ := (isWay_snoc pne).mp w
    have hp := (h.all p).mpr ⟨w1, l'⟩
    exact List.mem_flatMap.mpr ⟨p, hp, List.mem_map.mpr ⟨y, (sp p hp).1.mem_iff.mpr (mem_behind.mpr ⟨w2, w3⟩), rfl⟩⟩
  · rw [List.pairwise_flatMap]
    refine ⟨fun p hp => ?_, List.Pairwise.imp_of_mem (fun {p q} hp hq pq => ?_) h.asc⟩
    · unfold nexts
      rw [List.pairwise_map]
      have nb : (srt (behind dots f (lastP p))).Nodup := (sp p hp).1.nodup_iff.mpr (pick_nodup (fn _ (lp p hp).2).1)
      exact (strict_of (sp p hp).2 nb).imp fun g => lexS_tail p g
    · intro a ha b hb
      obtain ⟨y, _, rfl⟩ := List.mem_map.mp ha
      obtain ⟨z, _, rfl⟩ := List.mem_map.mp hb
      exact lexS_more _ _ (by rw [((h.all p).mp hp).2, ((h.all q).mp hq).2]) pq
  · have l := h.non q hq
    by_cases e : q.length = k + 1
    · exact absurd hq.2 (hn q ((h.all q).mpr ⟨hq.1, e⟩))
    · omega
  · have go : ∀ M : List (List Str), (∀ p ∈ M, p ∈ L) → (M.flatMap (nexts dots f)).length ≤ 2 * M.length := fun M => by
      induction M with
      | nil => intro _; exact Nat.zero_le _
      | cons p M ih =>
        intro hM
        rw [List.flatMap_cons, List.length_append, List.length_cons]
        have i := ih fun q hq => hM q (List.mem_cons_of_mem _ hq)
        have hp := hM p List.mem_cons_self
        have j : (nexts dots f p).length ≤ 2 := by
          unfold nexts
          rw [List.length_map, (sp p hp).1.length_eq]
          exact Nat.le_trans (List.length_filterMap_le _ _) (fn _ (lp p hp).2).2
        omega
    have := go L fun p hp => hp
    have := h.few
    rw [Nat.pow_succ]
    have e : dots.length * (2 ^ k * 2) = 2 * (dots.length * 2 ^ k) := by rw [← Nat.mul_assoc, Nat.mul_comm _ 2]
    omega
end
end Rw
end T_K0

section T_K1
set_option Elab.async false
set_option linter.all false
set_option maxRecDepth 100000
set_option maxHeartbeats 4000000
namespace Rw
open PySem L2 PyProof.Rows
/-- a mixture that is read, locked or not -/
structure MixR (H : Hp) (D : Addr) (dots : List Str) (f : Str → List V) : Prop where
  ex : ∃ rs : List (Str × V), Rd H D (.dK (tkv rs)) ∧ rs.map (·.1) = dots ∧ ∀ q ∈ rs, ∃ a : Addr, q.2 = .ref a ∧ H a = some (.lst (f q.1))
theorem MixAt.r {H0 H : Hp} {D : Addr} {dots : List Str} {f : Str → List V} (M : MixAt H0 H D dots f) : MixR H D dots f := by
  obtain ⟨rs, h1, h2, h3⟩ := M.ex
  exact ⟨rs, .inl h1, h2, fun q hq => let ⟨a, e, _, h⟩ := h3 q hq; ⟨a, e, h⟩⟩
theorem rd_ex {H H' : Hp} {a : Addr} {u : HO} (x : Evl.Ex H H') (h : Rd H a u) : Rd H' a u := h.elim (fun q => .inl (x _ _ q)) fun ⟨o, q⟩ => .inr ⟨o, x _ _ q⟩
theorem MixR.to {H H' : Hp} {D : Addr} {dots : List Str} {f : Str → List V} (M : MixR H D dots f) (x : Evl.Ex H H') : MixR H' D dots f := by
  obtain ⟨rs, h1, h2, h3⟩ := M.ex
  exact ⟨rs, rd_ex x h1, h2, fun q hq => let ⟨a, e, h⟩ := h3 q hq; ⟨a, e, x _ _ h⟩⟩
/-- the list of z's places -/
theorem MixR.get {H : Hp} {D : Addr} {dots : List Str} {f : Str → List V} (M : MixR H D dots f) {z : Str} (hz : z ∈ dots) : ∃ l, DGet H D (.str z) (some (.ref l)) ∧ H l = some (.lst (f z)) := by
  obtain ⟨rs, h1, h2, h3⟩ := M.ex
  obtain ⟨v, hv, hm⟩ := tkv_some (tb := rs) (z := z) (by rw [h2]; exact hz)
  obtain ⟨a, e, h⟩ := h3 _ hm
  have e' : v = .ref a := e
  subst e'
  exact ⟨a, dget_rd (k := Sum.inr z) h1 hv, h⟩
theorem MixR.has {H : Hp} {D : Addr} {dots : List Str} {f : Str → List V} (M : MixR H D dots f) (y : Str) : ∃ r : Option V, DGet H D (.str y) r ∧ r.isSome = decide (y ∈ dots) := by
  obtain ⟨rs, h1, h2, _⟩ := M.ex
  refine ⟨valV (tkv rs) (Sum.inr y), .inl ⟨_, Sum.inr y, h1, rfl, rfl⟩, ?_⟩
  by_cases h : y ∈ dots
  · obtain ⟨v, hv, _⟩ := tkv_some (tb := rs) (z := y) (by rw [h2]; exact h)
    rw [hv, decide_eq_true h]
    rfl
  · rw [tkv_none (by rw [h2]; exact h), decide_eq_false h]
    rfl
/-- tuples of names, by their addresses -/
def TupsAt (H : Hp) (L : List (Addr × List Str)) : Prop := ∀ q ∈ L, H q.1 = some (.tup (q.2.map V.str))
theorem TupsAt.to {H H' : Hp} {L : List (Addr × List Str)} (h : TupsAt H L) (x : Evl.Ex H H') : TupsAt H' L := fun q hq => x _ _ (h q hq)
/-- what a mixture has at each node -/
structure Webs (dots : List Str) (f : Str → List V) : Prop where
  sp : ∀ z ∈ dots, ∀ v ∈ f z, Spot v
  two : ∀ z ∈ dots, (f z).length ≤ 2
  nd : ∀ z ∈ dots, (f z).Nodup
section
variable {P : Program} {w : World} {K : PySem.W.Frag} {mg : Str → Option Value} {base : Heap}
def spBehind : Sp := fun vs H Q _ => ∃ (D : Addr) (z : Str) (dots : List Str) (f : Str → List V), vs = [.ref D, .str z] ∧ MixR H D dots f ∧ z ∈ dots ∧ Webs dots f ∧
  ∀ p H', Evl.Ex H H' → H p = none → H' p = some (.lst ((behind dots f z).map V.str)) → Q (.ref p) H'
abbrev nBehind : List Str := ["mixture", "node", "place"]
theorem sc_behind : FnScope nBehind ["mixture", "node"] (defScope p_nodes_behind) := ⟨rfl, rfl, rfl, by decide +kernel, rfl, by decide +kernel, by decide +kernel⟩
theorem ok_behind {f : Addr} {fd : FuncData} (F : Fun K "nodes_behind" "nodes_behind" p_nodes_behind f fd) : FnOk P w K mg base CX0 1 f fd ["mixture", "node"] spBehind := by
  refine F.ok sc_behind (fun vs H Q E h => ?_) (fun cdv A outer s H vs Q E hr h => ?_)
  · obtain ⟨D, z, dots, f, rfl, _⟩ := h
    rfl
  · obtain ⟨D, z, dots, f, rfl, M, hz, W, k⟩ := h
    have nd := sc_behind.nd
    have hu := hu_of hr
    refine ⟨_, pss_one (ps_ret (pe_lc (own := [("place", 2)]) (g := gName 2) (tt := tB (tDInN (tVar 2) (tVar 0))) (te := tVar 2) rfl nd (pi_list (pe_dget hu (pv 0) (pv 1) (fun _ _ => rfl))) (blkOk_by (own := [("place", 2)]) (N := nBehind) (sc := defScope p_nodes_behind) (by decide +kernel))
        (fun _ _ _ _ _ => pg_name (i := 2) nd rfl (Or.inl rfl)) (fun _ _ _ _ _ => pts_one (pt_cmp (pc_dinN hu (pv 2) (pv 0)) rfl)) (fun _ _ _ _ _ => pv 2))), ?_⟩
    obtain ⟨l, gl, hl⟩ := M.get hz
    have two := W.two z hz
    refine ⟨.ref D, rfl, .str z, rfl, D, .ref l, rfl, gl, l, rfl, ⟨_, Evl.sq_of hl⟩, fun R hR => lc_list (K := K) (a := l) (xs := f z) (fun i H' => Evl.Ex H H' ∧ H' R = some (.lst ((((f z).take i).filterMap (dotOf dots)).map V.str)))
      ⟨Evl.Ex.new hR, upd_same⟩ (fun i H' _ h => Evl.sq_of (h.1 _ _ hl)) ?_ ?_⟩
    · rintro i v H1 hi ⟨x1, r1⟩
      have hil : i < (f z).length := (List.getElem?_eq_some_iff.mp hi).1
      have et : ((f z).take (i + 1)).filterMap (dotOf dots) = ((f z).take i).filterMap (dotOf dots) ++ (dotOf dots v).toList := by
        rw [List.take_add_one, hi, List.filterMap_append]
        show _ ++ List.filterMap _ [v] = _
        rw [List.filterMap_cons]
        cases dotOf dots v <;> rfl
      have sl : (((f z).take i).filterMap (dotOf dots)).length ≤ 2 := Nat.le_trans (List.length_filterMap_le _ _) (by rw [List.length_take]; omega)
      refine ⟨rfl, ?_⟩
      rcases W.sp z hz v (List.mem_of_getElem? hi) with rfl | ⟨y, rfl, _⟩
      · obtain ⟨rs, h1, _, _⟩ := (M.to x1).ex
        refine ⟨.non, rfl, .ref D, rfl, .inr ⟨D, _, rfl, rfl, h1, false, rfl, iteF ⟨x1, ?_⟩⟩⟩
        rw [r1, et]
        show some (HO.lst _) = some (HO.lst ((_ ++ []).map V.str))
        rw [List.append_nil]
      · obtain ⟨r, g, e⟩ := (M.to x1).has y
        refine ⟨.str y, rfl, .ref D, rfl, .inl ⟨D, r, rfl, g, _, rfl, ?_⟩⟩
        rw [e]
        by_cases m : y ∈ dots
        · rw [decide_eq_true m]
          refine iteT ⟨.str y, rfl, _, r1, by rw [List.length_map]; exact small1000 (by omega), x1.mut hR, ?_⟩
          rw [upd_same, et, show dotOf dots (.str y) = some y from dotOf_some.mpr ⟨rfl, m⟩, List.map_append]
          rfl
        · rw [decide_eq_false m]
          refine iteF ⟨x1, ?_⟩
          rw [r1, et, show dotOf dots (.str y) = none from if_neg m]
          show some (HO.lst _) = some (HO.lst ((_ ++ []).map V.str))
          rw [List.append_nil]
    · rintro H1 ⟨x1, r1⟩
      rw [List.take_length] at r1
      exact k R H1 x1 hR r1
theorem spotsOf_nd {o n : List (Str × V)} {zs ys : List Str} {z : Str} : (spotsOf o n zs ys z).Nodup := by
  unfold spotsOf
  split
  · exact List.nodup_cons.mpr ⟨by simp, List.nodup_nil⟩
  · split
    · rename_i h
      rw [Bool.and_eq_true] at h
      refine List.nodup_cons.mpr ⟨fun m => ?_, List.nodup_cons.mpr ⟨by simp, List.nodup_nil⟩⟩
      have e := List.mem_singleton.mp m
      have := h.2
      rw [decide_eq_true e] at this
      cases this
    · exact List.nodup_cons.mpr ⟨by simp, List.nodup_nil⟩
end
end Rw
end T_K1

section T_R0
set_option Elab.async false
set_option linter.all false
set_option maxRecDepth 100000
set_option maxHeartbeats 4000000
namespace Rw
open PySem L2 PyProof.Rows
/-! ### ranks -/
/-- m is the least number above those of the nodes behind z -/
def IsTop (g : Str → Int) (ys : List Str) (m : Int) : Prop := (ys = [] → m = 0) ∧ (ys ≠ [] → ∃ y ∈ ys, m = g y + 1) ∧ ∀ y ∈ ys, g y + 1 ≤ m
theorem isTop_one {g : Str → Int} {ys : List Str} {m k : Int} (h1 : IsTop g ys m) (h2 : IsTop g ys k) : m = k := by
  by_cases e : ys = []
  · rw [h1.1 e, h2.1 e]
  · obtain ⟨y, hy, e1⟩ := h1.2.1 e
    obtain ⟨z, hz, e2⟩ := h2.2.1 e
    have := h1.2.2 z hz
    have := h2.2.2 y hy
    omega
theorem isTop_same {g g' : Str → Int} {ys : List Str} {m : Int} (h : IsTop g ys m) (e : ∀ y ∈ ys, g' y = g y) : IsTop g' ys m :=
  ⟨h.1, fun n => let ⟨y, hy, q⟩ := h.2.1 n; ⟨y, hy, by rw [e y hy]; exact q⟩, fun y hy => by rw [e y hy]; exact h.2.2 y hy⟩
/-- numbers of the nodes of dom that fall along each way -/
structure Nums (dots : List Str) (f : Str → List V) (dom : List Str) (g : Str → Int) : Prop where
  nd : dom.Nodup
  sub : ∀ z ∈ dom, z ∈ dots
  low : ∀ z ∈ dom, ∀ y ∈ behind dots f z, y ∈ dom
  top : ∀ z ∈ dom, IsTop g (behind dots f z) (g z)
section
variable {dots : List Str} {f : Str → List V}
theorem nums_nil {g : Str → Int} : Nums dots f [] g := ⟨List.nodup_nil, fun z hz => (by cases hz), fun z hz => (by cases hz), fun z hz => (by cases hz)⟩
def putN (g : Str → Int) (z : Str) (m : Int) : Str → Int := fun y => if y = z then m else g y
theorem nums_new {dom : List Str} {g : Str → Int} {z : Str} {m : Int} (h : Nums dots f dom g) (hz : z ∉ dom) (zd : z ∈ dots) (lo : ∀ y ∈ behind dots f z, y ∈ dom) (tm : IsTop g (behind dots f z) m) : Nums dots f (dom ++ [z]) (putN g z m) := by
  have far : ∀ y ∈ dom, putN g z m y = g y := fun y hy => show (if y = z then m else g y) = g y from if_neg fun e => hz (by rw [← e]; exact hy)
  refine ⟨?_, fun y hy => ?_, fun y hy x hx => ?_, fun y hy => ?_⟩
  · refine List.nodup_append.mpr ⟨h.nd, List.nodup_cons.mpr ⟨by simp, List.nodup_nil⟩, fun a ha b hb e => hz ?_⟩
    rw [← List.mem_singleton.mp hb, ← e]
    exact ha
  · rcases List.mem_append.mp hy with hy | hy
    · exact h.sub y hy
    · rw [List.mem_singleton.mp hy]; exact zd
  · refine List.mem_append_left _ ?_
    rcases List.mem_append.mp hy with hy | hy
    · exact h.low y hy x hx
    · rw [List.mem_singleton.mp hy] at hx; exact lo x hx
  · rcases List.mem_append.mp hy with hy | hy
    · rw [far y hy]
      exact isTop_same (h.top y hy) fun x hx => far x (h.low y hy x hx)
    · rw [List.mem_singleton.mp hy, show putN g z m z = m from if_pos rfl]
      exact isTop_same tm fun x hx => far x (lo x hx)
theorem lastP_snoc : ∀ (p : List Str) (y : Str), lastP (p ++ [y]) = y
  | [], y => rfl
  | x :: r, y => lastS_mid x r y []
theorem chain {dom : List Str} (h : ∀ z ∈ dots, z ∉ dom → ∃ y ∈ behind dots f z, y ∉ dom) {z : Str} (hz : z ∈ dots) (hn : z ∉ dom) : ∀ k, ∃ p, p ≠ [] ∧ IsWay dots f p ∧ p.length = k + 1 ∧ lastP p ∈ dots ∧ lastP p ∉ dom
  | 0 => ⟨[z], by simp, isWay_one hz, rfl, hz, hn⟩
  | k + 1 => by
    obtain ⟨p, h1, h2, h3, h4, h5⟩ := chain h hz hn k
    obtain ⟨y, hy, ny⟩ := h _ h4 h5
    obtain ⟨q1, q2⟩ := mem_behind.mp hy
    exact ⟨p ++ [y], by simp, (isWay_snoc h1).mpr ⟨h2, q1, q2⟩, by rw [List.length_append, h3]; rfl, by rw [lastP_snoc]; exact q2, by rw [lastP_snoc]; exact ny⟩
/-- a pass that finds no more nodes, with nodes left, tells of a ring -/
theorem ring_of_stop {dom : List Str} (dn : dots.Nodup) (h : ∀ z ∈ dots, z ∉ dom → ∃ y ∈ behind dots f z, y ∉ dom) {z : Str} (hz : z ∈ dots) (hn : z ∉ dom) : ∃ p, IsRing dots f p := by
  obtain ⟨p, h1, h2, h3, _, _⟩ := chain h hz hn dots.length
  cases p with
  | nil => exact absurd rfl h1
  | cons x r =>
    obtain ⟨q, hq, _⟩ := ring_of_twice r x h2 fun n => by
      have := nodup_le (x :: r) dots n (isWay_dots h2)
      omega
    exact ⟨q, hq⟩
theorem way_falls {dom : List Str} {g : Str → Int} (h : Nums dots f dom g) : ∀ (r : List Str) (x : Str), Way f x r → (∀ z ∈ x :: r, z ∈ dots) → x ∈ dom → lastS x r ∈ dom ∧ g (lastS x r) ≤ g x
  | [], x, _, _, hx => ⟨hx, Int.le_refl _⟩
  | y :: r, x, hw, hd, hx => by
    have yb : y ∈ behind dots f x := mem_behind.mpr ⟨hw.1, hd y (List.mem_cons_of_mem _ List.mem_cons_self)⟩
    have := (h.top x hx).2.2 y yb
    obtain ⟨q1, q2⟩ := way_falls h r y hw.2 (fun z hz => hd z (List.mem_cons_of_mem _ hz)) (h.low x hx y yb)
    exact ⟨q1, by show g (lastS y r) ≤ g x; omega⟩
theorem no_ring {dom : List Str} {g : Str → Int} (h : Nums dots f dom g) {x : Str} {r : List Str} (hp : IsRing dots f (x :: r)) (hx : x ∈ dom) : False := by
  obtain ⟨h1, h2⟩ := way_falls h r x hp.1.1 hp.1.2 hx
  have xb : x ∈ behind dots f (lastS x r) := mem_behind.mpr ⟨hp.2, hp.1.2 x List.mem_cons_self⟩
  have := (h.top _ h1).2.2 x xb
  omega
theorem nums_len {dom : List Str} {g : Str → Int} (h : Nums dots f dom g) : dom.length ≤ dots.length := nodup_le dom dots h.nd h.sub
theorem nums_all {dom : List Str} {g : Str → Int} (h : Nums dots f dom g) (dn : dots.Nodup) (hl : dots.length ≤ dom.length) {z : Str} (hz : z ∈ dots) : z ∈ dom := by
  by_cases q : z ∈ dom
  · exact q
  · have := nodup_le (z :: dom) dots (List.nodup_cons.mpr ⟨q, h.nd⟩) fun y hy => by
      rcases List.mem_cons.mp hy with e | hy
      · rw [e]; exact hz
      · exact h.sub y hy
    rw [List.length_cons] at this
    omega
theorem nums_short {dom : List Str} {g : Str → Int} (h : Nums dots f dom g) {x : Str} {r : List Str} (hp : IsRing dots f (x :: r)) (dn : dots.Nodup) : dom.length < dots.length := by
  by_cases q : dots.length ≤ dom.length
  · exact (no_ring h hp (nums_all h dn q (hp.1.2 x List.mem_cons_self))).elim
  · omega
/-- the dict of numbers -/
def numT (dom : List Str) (g : Str → Int) : List (Str × V) := dom.map fun z => (z, V.int (g z))
theorem numT_keys {dom : List Str} {g : Str → Int} : (numT dom g).map (·.1) = dom := by
  unfold numT
  rw [List.map_map]
  exact List.map_id' dom
theorem numT_len {dom : List Str} {g : Str → Int} : (numT dom g).length = dom.length := by unfold numT; rw [List.length_map]
theorem numT_get {dom : List Str} {g : Str → Int} {z : Str} (h : z ∈ dom) : valV (tkv (numT dom g)) (Sum.inr z) = some (.int (g z)) := by
  obtain ⟨v, hv, hm⟩ := tkv_some (tb := numT dom g) (z := z) (by rw [numT_keys]; exact h)
  unfold numT at hm
  obtain ⟨y, _, e⟩ := List.mem_map.mp hm
  cases e
  exact hv
theorem numT_new {dom : List Str} {g : Str → Int} {z : Str} {m : Int} (h : z ∉ dom) : putK (tkv (numT dom g)) (Sum.inr z) (.int m) = tkv (numT (dom ++ [z]) (putN g z m)) := by
  rw [tkv_new (by rw [numT_keys]; exact h)]
  unfold numT
  rw [List.map_append]
  refine congrArg tkv (congr (congrArg _ (List.map_congr_left fun y hy => ?_)) ?_)
  · show (y, V.int (g y)) = (y, V.int (if y = z then m else g y))
    rw [if_neg fun e => h (by rw [← e]; exact hy)]
  · show [(z, V.int m)] = [(z, V.int (if z = z then m else g z))]
    rw [if_pos rfl]
theorem numT_old {dom : List Str} {g : Str → Int} {z : Str} (h : z ∈ dom) : putK (tkv (numT dom g)) (Sum.inr z) (.int (g z)) = tkv (numT dom g) := by
  rw [tkv_old (by rw [numT_keys]; exact h)]
  unfold numT
  rw [List.map_map]
  refine congrArg tkv (List.map_congr_left fun y _ => ?_)
  show (if y = z then (y, V.int (g z)) else (y, V.int (g y))) = (y, V.int (g y))
  split
  · rename_i e
    rw [e]
  · rfl
end
end Rw
namespace Rw
open PySem L2 PyProof.Rows
theorem numT_snoc {dom : List Str} {g : Str → Int} {z : Str} (h : z ∉ dom) : putK (tkv (numT dom g)) (Sum.inr z) (.int (g z)) = tkv (numT (dom ++ [z]) g) := by
  rw [numT_new h]
  unfold numT
  refine congrArg tkv (List.map_congr_left fun y _ => ?_)
  show (y, V.int (if y = z then g z else g y)) = (y, V.int (g y))
  split
  · rename_i e
    rw [e]
  · rfl
theorem numT_has {dom : List Str} {g : Str → Int} (y : Str) : (valV (tkv (numT dom g)) (Sum.inr y)).isSome = decide (y ∈ dom) := by
  by_cases h : y ∈ dom
  · rw [numT_get h, decide_eq_true h]
    rfl
  · rw [tkv_none (by rw [numT_keys]; exact h), decide_eq_false h]
    rfl
theorem numT_dget {H : Hp} {a : Addr} {dom : List Str} {g : Str → Int} {z : Str} (h : H a = some (.dK (tkv (numT dom g)))) (hz : z ∈ dom) : DGet H a (.str z) (some (.int (g z))) := by
  have t := DGet.k (k := Sum.inr z) h
  rw [numT_get hz] at t
  exact t
theorem key_at {rs : List (Str × V)} {dots : List Str} (h : rs.map (·.1) = dots) {i : Nat} {kk : Key} {v : V} (hkv : (tkv rs)[i]? = some (kk, v)) : ∃ z, dots[i]? = some z ∧ kk = Sum.inr z := by
  unfold tkv at hkv
  rw [List.getElem?_map] at hkv
  cases q : rs[i]? with
  | none => rw [q] at hkv; cases hkv
  | some t =>
    rw [q] at hkv
    exact ⟨t.1, by rw [← h, List.getElem?_map, q]; rfl, (congrArg Prod.fst (Option.some.inj hkv)).symm⟩
theorem isTop_max {g : Str → Int} {ys : List Str} {m : Int} (h1 : ys.map (fun y => g y + 1) = [] → m = 0) (h2 : ys.map (fun y => g y + 1) ≠ [] → m ∈ ys.map (fun y => g y + 1) ∧ ∀ y ∈ ys.map (fun y => g y + 1), y ≤ m) : IsTop g ys m := by
  refine ⟨fun e => h1 (by rw [e]; rfl), fun n => ?_, fun y hy => ?_⟩
  · obtain ⟨y, hy, e⟩ := List.mem_map.mp (h2 fun e => n (List.map_eq_nil_iff.mp e)).1
    exact ⟨y, hy, e.symm⟩
  · exact (h2 fun e => by rw [List.map_eq_nil_iff.mp e] at hy; cases hy).2 _ (List.mem_map_of_mem hy)
end Rw
end T_R0

section T_G2
set_option Elab.async false
set_option linter.all false
set_option maxRecDepth 100000
set_option maxHeartbeats 2000000
namespace Rw
open PySem PySem.Spec L2 PyProof.Rows
/-! ### data with dicts -/
def kD : Key → PyData
  | .inl i => .int i
  | .inr x => .str x
mutual
inductive Dq (K : PySem.W.Frag) (H : Hp) : V → PyData → Prop
  | non : Dq K H .non .none
  | bl (b : Bool) : Dq K H (.bl b) (.bool b)
  | int (i : Int) : Dq K H (.int i) (.int i)
  | str (x : Str) : Dq K H (.str x) (.str x)
  | lst {a : Addr} {xs : List V} {ds : List PyData} : SqL K H a xs → DqAll K H xs ds → Dq K H (.ref a) (.list ds)
  | tup {a : Addr} {xs : List V} {ds : List PyData} : SqT K H a xs → DqAll K H xs ds → Dq K H (.ref a) (.tuple ds)
  | dic {a : Addr} {kvs : List (Key × V)} {ds : List (PyData × PyData)} : Rd H a (.dK kvs) → DqKv K H kvs ds → Dq K H (.ref a) (.dict ds)
inductive DqAll (K : PySem.W.Frag) (H : Hp) : List V → List PyData → Prop
  | nil : DqAll K H [] []
  | cons {v : V} {vs : List V} {d : PyData} {ds : List PyData} : Dq K H v d → DqAll K H vs ds → DqAll K H (v :: vs) (d :: ds)
inductive DqKv (K : PySem.W.Frag) (H : Hp) : List (Key × V) → List (PyData × PyData) → Prop
  | nil : DqKv K H [] []
  | cons {k : Key} {v : V} {kvs : List (Key × V)} {d : PyData} {ds : List (PyData × PyData)} : Dq K H v d → DqKv K H kvs ds → DqKv K H ((k, v) :: kvs) ((kD k, d) :: ds)
end
section
variable {X : Cx} {pins : List (Addr × Obj)} {σ : L2.St} {H : Hp} {s : Shared}
/-- sys.modules is a dict -/
def SysDict (h : Heap) : Prop := ∃ o es ep, h.get? sysModules = some o ∧ o.data = .dict es ep
theorem SysDict.ne {h : Heap} {a : Addr} {o : Obj} {its : Array Value} {n : Nat} (hs : SysDict h) (ha : h.get? a = some o) (hd : o.data = .seq its n) : a ≠ sysModules := fun e => by
  obtain ⟨u, es, ep, hu, hq⟩ := hs
  subst e
  rw [ha] at hu
  cases hu
  rw [hd] at hq
  cases hq
mutual
theorem Dq.reads (I : Inv X pins σ H s) (hs : SysDict s.heap) : ∀ (d : PyData) (v : V) (u : Value), Dq X.K H v d → RelV v u → ∃ as, Reads s.heap u d as ∧ sysModules ∉ as
  | .none, _, _, h, r => by
    cases h
    cases r
    exact ⟨_, Reads.none, by simp⟩
  | .bool b, _, _, h, r => by
    cases h
    cases r
    exact ⟨_, Reads.bool b, by simp⟩
  | .int i, _, _, h, r => by
    cases h
    obtain ⟨t, rfl⟩ := r
    exact ⟨_, Reads.int i t, by simp⟩
  | .str x, _, _, h, r => by
    cases h
    obtain ⟨t, rfl⟩ := r
    exact ⟨_, Reads.str x t, by simp⟩
  | .list ds, _, _, h, r => by
    cases h with
    | lst hq ha =>
      cases r
      obtain ⟨its, rv, ⟨o, n, ho, hc, _, hd⟩, _⟩ := I.list hq
      obtain ⟨as, hr, no⟩ := Dq.readsAll I hs ds _ its ha rv
      refine ⟨_, Reads.list ho hc hd hr, fun m => ?_⟩
      rcases List.mem_cons.mp m with e | m
      · exact hs.ne ho hd e.symm
      · exact no m
  | .tuple ds, _, _, h, r => by
    cases h with
    | tup hq ha =>
      cases r
      obtain ⟨its, rv, ⟨o, ho, hc, n, hd⟩, _⟩ := I.tuple hq
      obtain ⟨as, hr, no⟩ := Dq.readsAll I hs ds _ its ha rv
      exact ⟨_, Reads.tuple ho hc hd hr, no⟩
  | .dict ds, _, _, h, r => by
    cases h with
    | dic hq ha =>
      cases r
      obtain ⟨_, low, vs, pairs, o, es, ep, ho, exact_, hdat, _, prs, _⟩ := dk_rd I.hok hq
      obtain ⟨as, bs, h1, h2, n1, n2⟩ := Dq.readsKv I hs ds _ vs es.toList ha pairs prs
      refine ⟨_, Reads.dict ho exact_.1 hdat h1 h2, fun m => ?_⟩
      rcases List.mem_append.mp m with m | m
      · rcases List.mem_cons.mp m with e | m
        · exact absurd e.symm (by simpa using low)
        · exact n1 m
      · exact n2 m
theorem Dq.readsAll (I : Inv X pins σ H s) (hs : SysDict s.heap) : ∀ (ds : List PyData) (vs : List V) (us : List Value), DqAll X.K H vs ds → Vals vs us → ∃ as, ReadsAll s.heap us ds as ∧ sysModules ∉ as
  | [], _, _, h, r => by
    cases h
    cases r
    exact ⟨_, ReadsAll.nil, by simp⟩
  | d :: ds, _, _, h, r => by
    cases h with
    | cons h1 h2 =>
      cases r with
      | cons r1 r2 =>
        obtain ⟨as, q1, n1⟩ := Dq.reads I hs d _ _ h1 r1
        obtain ⟨bs, q2, n2⟩ := Dq.readsAll I hs ds _ _ h2 r2
        exact ⟨_, ReadsAll.cons q1 q2, fun m => (List.mem_append.mp m).elim n1 n2⟩
theorem Dq.readsKv (I : Inv X pins σ H s) (hs : SysDict s.heap) : ∀ (ds : List (PyData × PyData)) (kvs : List (Key × V)) (vs : List (Key × Value)) (es : List DictEntry), DqKv X.K H kvs ds → KV kvs vs → Pairs (mixKind X.prog X.w) es vs →
    ∃ as bs, ReadsAll s.heap (es.map (·.key)) (ds.map (·.1)) as ∧ ReadsAll s.heap (es.map (·.val)) (ds.map (·.2)) bs ∧ sysModules ∉ as ∧ sysModules ∉ bs
  | [], _, _, _, h, r, p => by
    cases h
    cases r
    cases p
    exact ⟨_, _, ReadsAll.nil, ReadsAll.nil, by simp, by simp⟩
  | (k0, d) :: ds, _, _, _, h, r, p => by
    cases h with
    | @cons k v kvs _ _ h1 h2 =>
      cases r with
      | @cons _ q _ vs r1 r2 =>
        obtain ⟨k1, u⟩ := q
        obtain ⟨ek, rv⟩ := r1
        have ek' : k = k1 := ek
        subst ek'
        cases p with
        | @cons e _ es _ p1 p2 p3 =>
          obtain ⟨as, bs, q1, q2, n1, n2⟩ := Dq.readsKv I hs ds kvs vs es h2 r2 p3
          obtain ⟨cs, q3, n3⟩ := Dq.reads I hs d v u h1 rv
          have key : Reads s.heap e.key (kD k) [] := by
            rcases keyIs_shape (show keyIs k e.key = true from p1) with ⟨i, t, rfl, ev⟩ | ⟨x, t, rfl, ev⟩
            · rw [ev]
              exact Reads.int i t
            · rw [ev]
              exact Reads.str x t
          have val : e.val = u := p2
          refine ⟨[] ++ as, cs ++ bs, ReadsAll.cons key q1, ?_, n1, fun m => (List.mem_append.mp m).elim n3 n2⟩
          show ReadsAll s.heap (e.val :: es.map (·.val)) (d :: ds.map (·.2)) (cs ++ bs)
          rw [val]
          exact ReadsAll.cons q3 q2
end
end
def rReprQ (K : PySem.W.Frag) : List V → Hp → VK → Prop := fun xs H Q => ∃ (a : Addr) (d : PyData), xs = [.ref a] ∧ Dq K H (.ref a) d ∧ d.showable = true ∧ d.depth ≤ 64 ∧ d.shown.length ≤ sizeLine ∧ Q (.str d.shown) H
theorem call_reprQ {X : Cx} (hg : X.A.guards = some []) (hu : X.A.units + 70 < cLine) (sys : SysDict X.base) : CallR X (.builtin "repr") (rReprQ X.K) := by
  intro pins s σ H xs us Q I r h
  obtain ⟨a, d, rfl, hd, h1, h3, h4, q⟩ := h
  obtain ⟨u, rfl, ru⟩ := vals1 r
  obtain ⟨as, rd, no⟩ := Dq.reads I (let ⟨o, es, ep, h1, h2⟩ := sys; ⟨o, es, ep, I.bk _ _ h1, h2⟩) d (.ref a) u hd ru
  cases ru
  refine repr_of_reads' rd h1 (fun _ => no) hg (by omega) (fun _ _ e => e) (fun h' v tk keep => ?_) h4
  exact ⟨.str d.shown, H, Inv.kept I keep, ⟨_, rfl⟩, q⟩
end Rw
end T_G2

section T_Y3
set_option Elab.async false
set_option linter.all false
set_option maxRecDepth 100000
set_option maxHeartbeats 4000000
namespace Rw
open PySem L2 PyProof.Rows
/-! ### mixtures are shown -/
theorem nm_short {z : Str} (h : Nm z) : PyData.leavesShort 13 (.str z) = true := PyData.leavesShort_of_canLay0 13 (.str z) (nm_ok h) rfl
theorem spots_q : ∀ W : List V, (∀ v ∈ W, Spot v) → ∃ ds : List PyData, (∀ (K : PySem.W.Frag) (H : Hp), DqAll K H W ds) ∧ PyData.leavesShortAll 13 ds = true ∧ PyData.depthAll ds = 0 ∧ PyData.weightAll ds ≤ 7 * W.length ∧ PyData.showableAll ds = true
  | [], _ => ⟨[], fun _ _ => .nil, rfl, rfl, Nat.zero_le _, rfl⟩
  | v :: W, h => by
    obtain ⟨ds, g1, g2, g3, g4, g6⟩ := spots_q W fun u hu => h u (List.mem_cons_of_mem _ hu)
    rcases h v List.mem_cons_self with rfl | ⟨z, rfl, hz⟩
    · refine ⟨.none :: ds, fun K H => .cons .non (g1 K H), ?_, ?_, ?_, ?_⟩
      · show (true && PyData.leavesShortAll 13 ds) = true
        rw [g2]
        rfl
      · show max 0 (PyData.depthAll ds) = 0
        rw [g3]
        rfl
      · show 0 + 1 + PyData.weightAll ds ≤ 7 * (W.length + 1)
        omega
      · show (true && PyData.showableAll ds) = true
        rw [g6]
        rfl
    · have zl := nm_len hz
      refine ⟨.str z :: ds, fun K H => .cons (.str z) (g1 K H), ?_, ?_, ?_, ?_⟩
      · show (PyData.leavesShort 13 (.str z) && PyData.leavesShortAll 13 ds) = true
        rw [g2, nm_short hz]
        rfl
      · show max 0 (PyData.depthAll ds) = 0
        rw [g3]
        rfl
      · show z.cps.size + 1 + PyData.weightAll ds ≤ 7 * (W.length + 1)
        have : z.cps.size ≤ 6 := zl
        omega
      · show (true && PyData.showableAll ds) = true
        rw [g6]
        rfl
theorem mix_kvs (f : Str → List V) : ∀ dots : List Str, (∀ z ∈ dots, Nm z ∧ (∀ v ∈ f z, Spot v) ∧ (f z).length ≤ 2) → ∃ kvs : List (PyData × PyData),
    (∀ (K : PySem.W.Frag) (H : Hp) (rs : List (Str × V)), rs.map (·.1) = dots → (∀ q ∈ rs, ∃ l : Addr, q.2 = .ref l ∧ H l = some (.lst (f q.1))) → DqKv K H (tkv rs) kvs) ∧ PyData.leavesShortKv 13 kvs = true ∧ PyData.depthKv kvs ≤ 1 ∧ PyData.weightKv kvs ≤ 30 * dots.length ∧ PyData.showableKv kvs = true
  | [], _ => by
    refine ⟨[], fun K H rs h _ => ?_, rfl, Nat.zero_le _, Nat.zero_le _, rfl⟩
    cases rs with
    | nil => exact .nil
    | cons _ _ => cases h
  | z :: r, h => by
    obtain ⟨kvs, g1, g2, g3, g4, g5⟩ := mix_kvs f r fun y hy => h y (List.mem_cons_of_mem _ hy)
    obtain ⟨hz, hs, hl⟩ := h z List.mem_cons_self
    obtain ⟨ds, k1, k2, k3, k4, k5⟩ := spots_q (f z) hs
    have zl : z.cps.size ≤ 6 := nm_len hz
    refine ⟨(.str z, .list ds) :: kvs, fun K H rs hk hq => ?_, ?_, ?_, ?_, ?_⟩
    · cases rs with
      | nil => cases hk
      | cons q rs =>
        have e1 : q.1 = z := (List.cons.inj hk).1
        have e2 : rs.map (·.1) = r := (List.cons.inj hk).2
        obtain ⟨l, l1, l2⟩ := hq q List.mem_cons_self
        obtain ⟨q1, q2⟩ := q
        cases e1
        cases l1
        exact .cons (k := Sum.inr q1) (.lst (Evl.sq_of l2) (k1 K H)) (g1 K H rs e2 fun t ht => hq t (List.mem_cons_of_mem _ ht))
    · show (PyData.leavesShort 13 (.str z) && PyData.leavesShortAll 13 ds && PyData.leavesShortKv 13 kvs) = true
      rw [nm_short hz, k2, g2]
      rfl
    · show max (max 0 (PyData.depthAll ds + 1)) (PyData.depthKv kvs) ≤ 1
      omega
    · show z.cps.size + PyData.weightAll ds + 2 + PyData.weightKv kvs ≤ 30 * (r.length + 1)
      omega
    · show (true && PyData.showableAll ds && PyData.showableKv kvs) = true
      rw [k5, g5]
      rfl
theorem mix_repr (f : Str → List V) (dots : List Str) (h : ∀ z ∈ dots, Nm z ∧ (∀ v ∈ f z, Spot v) ∧ (f z).length ≤ 2) (few : dots.length ≤ 100) : ∃ d : PyData, (∀ {K : PySem.W.Frag} {H0 H : Hp} {D : Addr}, MixAt H0 H D dots f → Dq K H (.ref D) d) ∧ d.showable = true ∧ d.depth ≤ 64 ∧ d.shown.length ≤ sizeLine := by
  obtain ⟨kvs, g1, g2, g3, g4, g5⟩ := mix_kvs f dots h
  refine ⟨.dict kvs, fun {K H0 H D} M => ?_, g5, ?_, ?_⟩
  · obtain ⟨rs, h1, h2, h3⟩ := M.ex
    refine .dic (.inl h1) (g1 K H rs h2 fun q hq => ?_)
    obtain ⟨l, l1, _, l3⟩ := h3 q hq
    exact ⟨l, l1, l3⟩
  · show PyData.depthKv kvs + 1 ≤ 64
    omega
  · exact PyData.shown_fits (B := 13) (by decide) (by decide) g2 (Nat.le_trans (show PyData.weightKv kvs ≤ 30 * dots.length from g4) (by omega))
theorem spotsOf_ok {dots : List Str} {e z : Str} {o n : List (Str × V)} {zs ys : List Str} (h1 : TabOk dots e o) (h2 : TabOk dots e n) (hz : ∀ y ∈ dots, Nm y) (he : Nm e) (zd : z ∈ dots) : (∀ v ∈ spotsOf o n zs ys z, Spot v) ∧ (spotsOf o n zs ys z).length ≤ 2 := by
  have a := place_spot (look_ok h1 zd).1 hz he
  have b := place_spot (look_ok h2 zd).1 hz he
  unfold spotsOf
  split
  · exact ⟨fun v hv => by rw [List.mem_singleton.mp hv]; exact b, by show 1 ≤ 2; decide⟩
  · split
    · refine ⟨fun v hv => ?_, by show 2 ≤ 2; decide⟩
      rcases List.mem_cons.mp hv with rfl | hv
      · exact a
      · rw [List.mem_singleton.mp hv]; exact b
    · exact ⟨fun v hv => by rw [List.mem_singleton.mp hv]; exact a, by show 1 ≤ 2; decide⟩
end Rw
end T_Y3

section T_K2
set_option Elab.async false
set_option linter.all false
set_option maxRecDepth 100000
set_option maxHeartbeats 4000000
namespace Rw
open PySem L2 PyProof.Rows
/-! ### comprehensions with two for -/
theorem lc2_out {J : It} {n : Nat} {G : Hp → Prop} {Y : Nat → Hp → V → Hp → Prop} (wk : Walk J n G Y) {g g1 : TG} {tt tt1 : TT} {te : TE} {wi1 : TI} {vs vs1 : List Nat} {σ : L2.St} {H1 : Hp} {D : Addr} {Qd : Hp → Prop} (Pv : Nat → Hp → Prop) (start : Pv 0 (upd H1 D (.lst []))) (hG : ∀ i H, i ≤ n → Pv i H → G H)
    (turn : ∀ i x H H', i < n → Pv i H → Y i H x H' → g x (wipe σ vs) H' fun σ2 H2 => wipe σ2 vs = wipe σ vs ∧ tt σ2 H2 fun b H3 => if b = true then wi1 σ2 H3 fun J1 H4 => ∃ W1 : Nat → Nat → Hp → Prop, (∃ m, W1 0 m H4) ∧ ∀ j k H, W1 j k H →
      (J1.stop j H ∧ Pv (i + 1) H) ∨ (J1.go j H ∧ ∃ Nx1 : Hp → Prop, (∀ H', Nx1 H' → ∃ k', k' < k ∧ W1 (j + 1) k' H') ∧ ∀ x H', J1.yld j H x H' → g1 x (wipe σ2 vs1) H' fun σ3 H5 => wipe σ3 vs1 = wipe σ2 vs1 ∧ tt1 σ3 H5 fun b H6 =>
        if b = true then te σ3 H6 fun y H7 => ∃ acc, H7 D = some (.lst acc) ∧ acc.length < sizeLine ∧ Nx1 (upd H7 D (.lst (acc ++ [y]))) else Nx1 H6) else Pv (i + 1) H3) (fin : ∀ H, Pv n H → Qd H) :
    ∃ W : Nat → Nat → Hp → Prop, (∃ m, W 0 m (upd H1 D (.lst []))) ∧ ∀ i m H, W i m H →
      (J.stop i H ∧ Qd H) ∨ (J.go i H ∧ ∃ Nx : Hp → Prop, (∀ H', Nx H' → ∃ m', m' < m ∧ W (i + 1) m' H') ∧ ∀ x H', J.yld i H x H' → g x (wipe σ vs) H' fun σ2 H2 => wipe σ2 vs = wipe σ vs ∧ tt σ2 H2 fun b H3 =>
        if b = true then wi1 σ2 H3 fun J1 H4 => ∃ W1 : Nat → Nat → Hp → Prop, (∃ m, W1 0 m H4) ∧ ∀ j k H, W1 j k H →
          (J1.stop j H ∧ Nx H) ∨ (J1.go j H ∧ ∃ Nx1 : Hp → Prop, (∀ H', Nx1 H' → ∃ k', k' < k ∧ W1 (j + 1) k' H') ∧ ∀ x H', J1.yld j H x H' → g1 x (wipe σ2 vs1) H' fun σ3 H5 => wipe σ3 vs1 = wipe σ2 vs1 ∧ tt1 σ3 H5 fun b H6 =>
            if b = true then te σ3 H6 fun y H7 => ∃ acc, H7 D = some (.lst acc) ∧ acc.length < sizeLine ∧ Nx1 (upd H7 D (.lst (acc ++ [y]))) else Nx1 H6)
        else Nx H3) := by
  refine ⟨fun i m H => m = n - i ∧ i ≤ n ∧ Pv i H, ⟨n, by simp, Nat.zero_le _, start⟩, ?_⟩
  rintro i m H ⟨rfl, hi, p⟩
  by_cases lt : i < n
  · exact .inr ⟨wk.goes i H lt (hG i H hi p), Pv (i + 1), fun H' p' => ⟨n - (i + 1), by omega, rfl, lt, p'⟩, fun x H' y => turn i x H H' lt p (wk.yields i H x H' lt (hG i H hi p) y)⟩
  · have e : i = n := by omega
    subst e
    exact .inl ⟨wk.stops H (hG _ H hi p), fin H p⟩
theorem lc2_in {J : It} {n : Nat} {G : Hp → Prop} {Y : Nat → Hp → V → Hp → Prop} (wk : Walk J n G Y) {g1 : TG} {tt1 : TT} {te : TE} {vs1 : List Nat} {σ : L2.St} {H4 : Hp} {D : Addr} {Nx : Hp → Prop} (Pv : Nat → Hp → Prop) (start : Pv 0 H4) (hG : ∀ i H, i ≤ n → Pv i H → G H)
    (turn : ∀ j x H H', j < n → Pv j H → Y j H x H' → g1 x (wipe σ vs1) H' fun σ3 H5 => wipe σ3 vs1 = wipe σ vs1 ∧ tt1 σ3 H5 fun b H6 =>
      if b = true then te σ3 H6 fun y H7 => ∃ acc, H7 D = some (.lst acc) ∧ acc.length < sizeLine ∧ Pv (j + 1) (upd H7 D (.lst (acc ++ [y]))) else Pv (j + 1) H6) (fin : ∀ H, Pv n H → Nx H) :
    ∃ W1 : Nat → Nat → Hp → Prop, (∃ m, W1 0 m H4) ∧ ∀ j k H, W1 j k H →
      (J.stop j H ∧ Nx H) ∨ (J.go j H ∧ ∃ Nx1 : Hp → Prop, (∀ H', Nx1 H' → ∃ k', k' < k ∧ W1 (j + 1) k' H') ∧ ∀ x H', J.yld j H x H' → g1 x (wipe σ vs1) H' fun σ3 H5 => wipe σ3 vs1 = wipe σ vs1 ∧ tt1 σ3 H5 fun b H6 =>
        if b = true then te σ3 H6 fun y H7 => ∃ acc, H7 D = some (.lst acc) ∧ acc.length < sizeLine ∧ Nx1 (upd H7 D (.lst (acc ++ [y]))) else Nx1 H6) := by
  refine ⟨fun j k H => k = n - j ∧ j ≤ n ∧ Pv j H, ⟨n, by simp, Nat.zero_le _, start⟩, ?_⟩
  rintro j k H ⟨rfl, hj, p⟩
  by_cases lt : j < n
  · exact .inr ⟨wk.goes j H lt (hG j H hj p), Pv (j + 1), fun H' p' => ⟨n - (j + 1), by omega, rfl, lt, p'⟩, fun x H' y => turn j x H H' lt p (wk.yields j H x H' lt (hG j H hj p) y)⟩
  · have e : j = n := by omega
    subst e
    exact .inl ⟨wk.stops H (hG _ H hj p), fin H p⟩
theorem flat_spots : ∀ {l : List V}, (∀ v ∈ l, Spot v) → l.all flatV = true
  | [], _ => rfl
  | v :: l, h => by
    rw [List.all_cons, flat_spots fun u hu => h u (List.mem_cons_of_mem _ hu)]
    rcases h v List.mem_cons_self with rfl | ⟨y, rfl, _⟩ <;> rfl
theorem inV_spots (z : Str) : ∀ {l : List V}, (∀ v ∈ l, Spot v) → inV (.str z) l = decide (V.str z ∈ l)
  | [], _ => rfl
  | v :: l, h => by
    have ih := inV_spots z fun u hu => h u (List.mem_cons_of_mem _ hu)
    show (eqV v (.str z) || inV (.str z) l) = _
    rw [ih]
    rcases h v List.mem_cons_self with rfl | ⟨y, rfl, _⟩
    · show (false || _) = _
      rw [Bool.false_or]
      exact decide_eq_decide.mpr ⟨fun q => List.mem_cons_of_mem _ q, fun q => (List.mem_cons.mp q).resolve_left (fun e => nomatch e)⟩
    · have e : eqV (.str y) (.str z) = decide (y = z) := by
        have := inV_str z [y]
        show eqV (.str y) (.str z) = _
        have t : inV (.str z) ([y].map V.str) = (eqV (.str y) (.str z) || false) := rfl
        rw [this, Bool.or_false] at t
        rw [← t]
        exact decide_eq_decide.mpr ⟨fun q => (List.mem_singleton.mp q).symm, fun q => List.mem_singleton.mpr q.symm⟩
      rw [e, ← Bool.decide_or]
      exact decide_eq_decide.mpr ⟨fun q => q.elim (fun q => by rw [q]; exact List.mem_cons_self) fun q => List.mem_cons_of_mem _ q, fun q => (List.mem_cons.mp q).elim (fun e => .inl (V.str.inj e).symm) .inr⟩
theorem tups_put {H : Hp} {R : Addr} {l l' : List V} {L : List (Addr × List Str)} (h : TupsAt H L) (hR : H R = some (.lst l)) : TupsAt (upd H R (.lst l')) L := fun q hq => by
  rw [upd_ne (ne_of (h q hq) hR (by intro z; cases z))]
  exact h q hq
theorem tups_snoc {H : Hp} {L : List (Addr × List Str)} {t : Addr} {p : List Str} (h : TupsAt H L) (ht : H t = some (.tup (p.map V.str))) : TupsAt H (L ++ [(t, p)]) := fun q hq => by
  rcases List.mem_append.mp hq with hq | hq
  · exact h q hq
  · rw [List.mem_singleton.mp hq]
    exact ht
theorem refs_at {L : List (Addr × List Str)} {i : Nat} {x : V} (h : (L.map fun q => V.ref q.1)[i]? = some x) : ∃ q, L[i]? = some q ∧ x = .ref q.1 := by
  rw [List.getElem?_map] at h
  cases e : L[i]? with
  | none => rw [e] at h; cases h
  | some q => rw [e] at h; exact ⟨q, rfl, (Option.some.inj h).symm⟩
theorem cut_at {α : Type} {L : List α} {i : Nat} {q : α} (h : L[i]? = some q) : L = L.take i ++ q :: L.drop (i + 1) := by
  obtain ⟨hi, e⟩ := List.getElem?_eq_some_iff.mp h
  have z := (List.take_append_drop i L).symm
  rw [List.drop_eq_getElem_cons hi, e] at z
  exact z
/-- what ring gives -/
def RingIs (dots : List Str) (f : Str → List V) (v : V) (H : Hp) : Prop := (v = .non ∧ ∀ p, ¬ IsRing dots f p) ∨ ∃ a p, v = .ref a ∧ H a = some (.tup (p.map V.str)) ∧ Best dots f p
theorem RingIs.to {dots : List Str} {f : Str → List V} {v : V} {H H' : Hp} (h : RingIs dots f v H) (x : Evl.Ex H H') : RingIs dots f v H' := h.elim .inl fun ⟨a, p, e, q, b⟩ => .inr ⟨a, p, e, x _ _ q, b⟩
theorem at_last {x : Str} {r : List Str} : atI ((x :: r).map V.str) (-1) = some (V.str (lastS x r)) := by
  have e : ∀ (r : List Str) (x : Str), ∃ s : List Str, x :: r = s ++ [lastS x r] := fun r => by
    induction r with
    | nil => intro x; exact ⟨[], rfl⟩
    | cons y r ih => intro x; obtain ⟨s, e⟩ := ih y; exact ⟨x :: s, congrArg (x :: ·) e⟩
  obtain ⟨s, e⟩ := e r x
  rw [e, List.map_append]
  exact atI_last _ _
theorem last_in : ∀ (r : List Str) (x : Str), lastS x r ∈ x :: r
  | [], _ => List.mem_cons_self
  | y :: r, _ => List.mem_cons_of_mem _ (last_in r y)
section
variable {P : Program} {w : World} {K : PySem.W.Frag} {mg : Str → Option Value} {base : Heap}
def spRing (C : Addr) : Sp := fun vs H Q _ => ∃ (m a b : Addr) (e : Str) (zs ys ends dots ss ps : List Str) (o n : Str → List (Str × V)), vs = [.ref m, .ref a, .ref b, .str e] ∧ NetAt C H m ends dots ss ps o n ∧ ModelOk ends dots ss ps ∧ e ∈ ends ∧ TabOk dots e (o e) ∧ TabOk dots e (n e) ∧
  LotAt H a zs (moving ends dots o n) ∧ LotAt H b ys (moving ends dots o n) ∧ (∀ y ∈ ys, y ∉ zs) ∧ ∀ v H', Evl.Ex H H' → RingIs dots (spotsOf (o e) (n e) zs ys) v H' → Q v H'
theorem webs_of {ends dots ss ps : List Str} {e : Str} {o n : List (Str × V)} {zs ys : List Str} (ok : ModelOk ends dots ss ps) (he : e ∈ ends) (t1 : TabOk dots e o) (t2 : TabOk dots e n) : Webs dots (spotsOf o n zs ys) :=
  ⟨fun z hz => (spotsOf_ok t1 t2 ok.dm (ok.em e he) hz).1, fun z hz => (spotsOf_ok t1 t2 ok.dm (ok.em e he) hz).2, fun z hz => spotsOf_nd⟩
abbrev nLRing : List Str := ["mixture", "paths", "path", "node", "begun", "place"]
theorem sc_lring : FnScope nLRing ["mixture"] (defScope p_least_ring) := ⟨rfl, rfl, rfl, by decide +kernel, rfl, by decide +kernel, by decide +kernel⟩
abbrev tLastOf (K : PySem.W.Frag) (i : Nat) : TE := tOp (rIxT K) (tVar i) (tUn (rU fun i => .int (-i)) (tC (.int 1)))
structure MixW (H : Hp) (D : Addr) (dots : List Str) (f : Str → List V) : Prop where
  ex : ∃ rs : List (Str × V), H D = some (.dK (tkv rs)) ∧ rs.map (·.1) = dots ∧ ∀ q ∈ rs, ∃ a : Addr, q.2 = .ref a ∧ H a = some (.lst (f q.1))
theorem MixAt.mw {H0 H : Hp} {D : Addr} {dots : List Str} {f : Str → List V} (M : MixAt H0 H D dots f) : MixW H D dots f := by
  obtain ⟨rs, h1, h2, h3⟩ := M.ex
  exact ⟨rs, h1, h2, fun q hq => let ⟨a, e, _, h⟩ := h3 q hq; ⟨a, e, h⟩⟩
theorem MixW.r {H : Hp} {D : Addr} {dots : List Str} {f : Str → List V} (M : MixW H D dots f) : MixR H D dots f := by
  obtain ⟨rs, h1, h2, h3⟩ := M.ex
  exact ⟨rs, .inl h1, h2, h3⟩
def spLRing : Sp := fun vs H Q _ => ∃ (D : Addr) (dots : List Str) (f : Str → List V), vs = [.ref D] ∧ MixW H D dots f ∧ Webs dots f ∧ dots.length ≤ 6 ∧ dots.Nodup ∧ sortedS dots = true ∧ ∀ v H', Evl.Ex H H' → RingIs dots f v H' → Q v H'
theorem ok_lring {f : Addr} {fd : FuncData} (F : Fun K "least_ring" "least_ring" p_least_ring f fd) (C2 : Cal P w K mg base 1 "nodes_behind" ["mixture", "node"] spBehind) (mSorted : mg "sorted" = none) : FnOk P w K mg base CX0 2 f fd ["mixture"] spLRing := by
  obtain ⟨f2, fd2, F2, k2, b2, g2⟩ := C2.ex
  refine F.ok sc_lring (fun vs H Q E h => ?_) (fun cdv A outer s H vs Q E hr h => ?_)
  · obtain ⟨D, dots, f, rfl, _⟩ := h
    rfl
  · obtain ⟨D, dots, f, rfl, M, W, d6, dn, ds, k⟩ := h
    have nd := sc_lring.nd
    have hu := hu_of hr
    refine ⟨_, pss_cons (ps_lock (ps_setLc (i := 1) (own := [("node", 3)]) (g := gName 3) (tt := tYes) (te := tTup (tCons (tVar 3) tNil)) (by rfl) nd rfl rfl (sw_true rfl rfl rfl (by decide +kernel)) (pi_keys (pv 0)) (blkOk_by (own := [("node", 3)]) (N := nLRing) (sc := defScope p_least_ring) (by decide +kernel))
          (fun _ _ _ _ _ => pg_name (i := 3) nd rfl (Or.inl rfl)) (fun _ _ _ _ _ => pts_nil) (fun _ _ _ _ _ => pe_tup (pa_cons (pv 3) pa_nil))))
      (pss_cons (ps_while PassesOwn.never (pt_truth (pv 1) (fun _ => rfl))
        (pss_cons (ps_for PassesOwn.never rfl (pi_list (pv 1)) (pg_name (i := 2) nd rfl (.inl rfl))
          (pss_one (ps_if (pt_cmpR op_in_seq (pe_ix ix_tup (pv 2) pe_int (fun _ _ => rfl)) (pe_dget hu (pv 0) (pe_ix ix_tup (pv 2) (pe_un un_neg pe_int) (fun _ _ => rfl)) (fun _ _ => rfl)) rfl) (pss_one (ps_ret (pv 2))) pss_nil)))
        (pss_one (ps_setLc2 (i := 1) (own := [("begun", 4), ("place", 5)]) (vs1 := [5]) (g := gName 4) (tt := tYes) (g1 := gName 5) (tt1 := tYes) (wi1 := iList K (tCB (rSortedS K) (tCons (tCall spBehind [] E0 (tCons (tVar 0) (tCons (tLastOf K 4) tNil))) tNil))) (te := tTup (StX.tStar K (tVar 4) (tCons (tVar 5) tNil)))
          (by rfl) nd rfl rfl (sw_true rfl rfl rfl (by decide +kernel)) (pi_list (pv 1)) (blkOk_by (own := [("begun", 4), ("place", 5)]) (N := nLRing) (sc := defScope p_least_ring) (by decide +kernel)) (by decide)
          (fun _ _ _ _ _ => pg_name (i := 4) nd rfl (Or.inl rfl)) (fun _ _ _ _ _ => pts_nil)
          (fun _ _ _ _ _ => pi_list (pe_callB cr_sortedS (by rfl) mSorted (by decide +kernel) (pa_cons (pe_call F2 (hr.mono (by decide)) rfl g2 k2 b2 .nil pass0 (pa_cons (pv 0) (pa_cons (pe_ix ix_tup (pv 4) (pe_un un_neg pe_int) (fun _ _ => rfl)) pa_nil))) pa_nil)))
          (fun _ _ _ _ _ => pg_name (i := 5) nd rfl (Or.inl rfl)) (fun _ _ _ _ _ => pts_nil)
          (fun _ _ _ _ _ => pe_tup (StX.pa_star (pv 4) (pa_cons (pv 5) pa_nil)))))))
      (pss_one (ps_ret pe_non))), ?_⟩
    have x1 := Evl.Ex.refl H
    have M1 := M.r
    obtain ⟨rs, r1, r2, r3⟩ := M.ex
    have rl : rs.length = dots.length := by rw [← r2, List.length_map]
    -- paths = [(node,) for node in mixture]
    refine ⟨D, .dK (tkv rs), r1, trivial, fun od => ?_⟩
    have locked : (upd H D (.frz od (.dK (tkv rs)))) D = some (.frz od (.dK (tkv rs))) := upd_same
    have back : ∀ {H4 : Hp}, Evl.Ex (upd H D (.frz od (.dK (tkv rs)))) H4 → Evl.Ex H (upd H4 D (.dK (tkv rs))) := fun {H4} x b u h => by
      by_cases q : b = D
      · subst q
        rw [upd_same, ← r1, h]
      · rw [upd_ne q]
        exact x _ _ (by rw [upd_ne q]; exact h)
    generalize upd H D (.frz od (.dK (tkv rs))) = HL at locked back
    refine ⟨.ref D, rfl, D, od, rfl, .inl ⟨tkv rs, locked, fun R hR => lc_it walk_keys
      (fun i H' => Evl.Ex HL H' ∧ ∃ L : List (Addr × List Str), H' R = some (.lst (L.map fun q => V.ref q.1)) ∧ TupsAt H' L ∧ L.map (·.2) = (dots.take i).map fun z => [z])
      ⟨Evl.Ex.new hR, [], upd_same, (fun q hq => nomatch hq), rfl⟩ (fun i H' _ h => h.1 _ _ locked) ?_ ?_⟩⟩
    · rintro i x H2 H2' hi ⟨x2, L, p1, tu, eL⟩ ⟨rfl, kk, v, hkv, rfl⟩
      rw [tkv_len, rl] at hi
      have gi : dots[i]? = some dots[i] := List.getElem?_eq_getElem hi
      obtain rfl : kk = Sum.inr dots[i] := by
        have z : (rs.map (·.1))[i]? = some dots[i] := by rw [r2]; exact gi
        unfold tkv at hkv
        rw [List.getElem?_map] at hkv z
        cases q : rs[i]? with
        | none => rw [q] at hkv; cases hkv
        | some q' =>
          rw [q] at hkv z
          have e1 := congrArg Prod.fst (Option.some.inj hkv)
          have e2 : q'.1 = dots[i] := Option.some.inj z
          rw [← e2]
          exact e1.symm
      have Ll : L.length ≤ 6 := by
        have := congrArg List.length eL
        rw [List.length_map, List.length_map, List.length_take] at this
        omega
      refine ⟨rfl, ?_⟩
      refine yes_if ?_
      refine ⟨.str dots[i], rfl, by show 1 ≤ sizeLine; decide, fun t ht => ?_⟩
      have y1 : Evl.Ex H2' (upd H2' t (.tup [.str dots[i]])) := Evl.Ex.new ht
      have t1' : (upd H2' t (.tup [.str dots[i]])) t = some (.tup ([dots[i]].map V.str)) := upd_same
      generalize upd H2' t (.tup [.str dots[i]]) = H3 at y1 t1'
      refine ⟨_, y1 _ _ p1, by rw [List.length_map]; exact small1000 (by omega), (x2.trans y1).mut hR, L ++ [(t, [dots[i]])], ?_, tups_put (tups_snoc (tu.to y1) t1') (y1 _ _ p1), ?_⟩
      · rw [upd_same, List.map_append]
        rfl
      · rw [List.map_append, eL, List.take_add_one, gi, List.map_append]
        rfl
    · rintro H2 ⟨x2, L, p1, tu, eL⟩
      rw [tkv_len, rl, List.take_length] at eL
      refine ⟨x2 _ _ locked, ?_⟩
      have nRD : R ≠ D := (ne_of_none locked hR).symm
      have x3 := back x2
      have p3 : (upd H2 D (.dK (tkv rs))) R = some (.lst (L.map fun q => V.ref q.1)) := by rw [upd_ne nRD]; exact p1
      have tu3 : TupsAt (upd H2 D (.dK (tkv rs))) L := fun q hq => by
        rw [upd_ne (ne_of (tu q hq) (x2 _ _ locked) (by intro z; cases z))]
        exact tu q hq
      generalize upd H2 D (.dK (tkv rs)) = H3 at x3 p3 tu3
      have lay0 : Lay dots f 0 (L.map (·.2)) := by rw [eL]; exact lay_start ds dn
      have M3 : MixR H3 D dots f := M1.to x3
      -- while paths
      refine ⟨fun m' σ H' => ∃ (c : Nat) (L : List (Addr × List Str)) (R : Addr) (x6 : Option V), σ = [some (.ref D), some (.ref R), x6, none, none, none] ∧ m' + c = dots.length + 1 ∧ H' R = some (.lst (L.map fun q => V.ref q.1)) ∧ TupsAt H' L ∧
        Lay dots f c (L.map (·.2)) ∧ Evl.Ex H H' ∧ MixR H' D dots f, ⟨dots.length + 1, 0, L, R, none, rfl, rfl, p3, tu3, lay0, x1.trans x3, M3⟩, ?_⟩
      clear lay0 p3 tu3 eL p1 tu nRD hR
      rintro m' σ H4 ⟨c, L, R, x6, rfl, hm, hR, tu, lay, x4, M4⟩
      refine ⟨.ref R, rfl, !(L.map fun q => V.ref q.1).isEmpty, .inl ⟨_, Evl.sq_of hR, rfl⟩, ?_⟩
      cases L with
      | nil => exact iteF (k .non H4 x4 (.inl ⟨rfl, lay_end lay⟩))
      | cons q0 L0 =>
        refine iteT ⟨_, fun _ _ h => h, ?_⟩
        have cl := lay_len lay dn
        generalize hL : q0 :: L0 = L at *
        have few : L.length ≤ 192 := by
          have h1 := lay.few
          rw [List.length_map] at h1
          have h2 : 2 ^ c ≤ 2 ^ 5 := Nat.pow_le_pow_right (by decide) (by omega)
          exact Nat.le_trans h1 (Nat.mul_le_mul d6 h2)
        -- a row's last node
        have row : ∀ q ∈ L, ∃ (x : Str) (r : List Str), q.2 = x :: r ∧ lastS x r ∈ dots := fun q hq => by
          have w := ((lay.all q.2).mp (List.mem_map_of_mem hq)).1
          cases e : q.2 with
          | nil => rw [e] at w; exact w.elim
          | cons x r => rw [e] at w; exact ⟨x, r, rfl, w.2 _ (last_in r x)⟩
        -- for path in paths
        refine ⟨.ref R, rfl, R, rfl, ⟨_, Evl.sq_of hR⟩, for_list (K := K) (a := R) (xs := L.map fun q => V.ref q.1)
          (fun i σ H' => H' = H4 ∧ ∃ x6 : Option V, σ = [some (.ref D), some (.ref R), x6, none, none, none] ∧ ∀ p ∈ (L.take i).map (·.2), ¬ Shut f p)
          ⟨rfl, _, rfl, fun p hp => nomatch hp⟩ (fun i σ H' _ h => by rw [h.1]; exact Evl.sq_of hR) ?_ ?_⟩
        · rintro i v σ H' hi ⟨rfl, x6', rfl, hno⟩
          obtain ⟨q, hq, rfl⟩ := refs_at hi
          have mq := List.mem_of_getElem? hq
          obtain ⟨x, r, eq, ld⟩ := row q mq
          have tq : H' q.1 = some (.tup ((x :: r).map V.str)) := by rw [← eq]; exact tu q mq
          obtain ⟨l, gl, hl⟩ := M4.get ld
          refine ⟨.ref q.1, rfl, q.1, _, 0, .str x, rfl, rfl, Evl.st_of tq, atI_nat (j := 0) rfl, .ref D, rfl, .ref q.1, rfl, 1, rfl, q.1, _, -1, _, rfl, rfl, Evl.st_of tq, at_last, D, .ref l, rfl, gl, l, f (lastS x r), rfl, .inl (Evl.sq_of hl), rfl, flat_spots (W.sp _ ld), ?_⟩
          rw [inV_spots x (W.sp _ ld)]
          by_cases sh : V.str x ∈ f (lastS x r)
          · rw [decide_eq_true sh]
            refine ⟨true, rfl, iteT ?_⟩
            refine ⟨.ref q.1, rfl, k _ H' x4 (.inr ⟨q.1, q.2, rfl, tu q mq, ?_⟩)⟩
            have cut : L.map (·.2) = (L.take i).map (·.2) ++ q.2 :: (L.drop (i + 1)).map (·.2) := by
              conv => lhs; rw [cut_at hq]
              rw [List.map_append]
              rfl
            rw [cut] at lay
            exact lay_hit lay hno (by rw [eq]; exact sh)
          · rw [decide_eq_false sh]
            refine ⟨false, rfl, iteF ?_⟩
            refine ⟨rfl, _, rfl, fun p hp => ?_⟩
            rw [List.take_add_one, hq, List.map_append] at hp
            rcases List.mem_append.mp hp with hp | hp
            · exact hno p hp
            · have e' : p = q.2 := List.mem_singleton.mp hp
              rw [e', eq]
              exact sh
        · rintro σ H' ⟨rfl, x6', rfl, hno⟩
          rw [List.length_map, List.take_length] at hno
          -- the next paths
          refine ⟨.ref R, rfl, R, rfl, ⟨_, Evl.sq_of hR⟩, fun R2 hR2 => lc2_out (walk_list (xs := L.map fun q => V.ref q.1))
            (fun i H5 => Evl.Ex H' H5 ∧ ∃ L2 : List (Addr × List Str), H5 R2 = some (.lst (L2.map fun q => V.ref q.1)) ∧ TupsAt H5 L2 ∧ L2.map (·.2) = ((L.take i).map (·.2)).flatMap (nexts dots f) ∧ L2.length ≤ 2 * i ∧
              ∀ p ∈ (L.take i).map (·.2), ∃ ys : List Str, ys.Perm (behind dots f (lastP p)) ∧ sortedS ys = true)
            ⟨Evl.Ex.new hR2, [], upd_same, (fun q hq => nomatch hq), rfl, Nat.le_refl _, fun p hp => nomatch hp⟩ (fun i H5 _ h => Evl.sq_of (h.1 _ _ hR)) ?_ ?_⟩
          · rintro i v H5 H5' hi ⟨x5, L2, p2, tu2, eL2, l2, srtd⟩ ⟨rfl, hv⟩
            rw [List.length_map] at hi
            obtain ⟨q, hq, rfl⟩ := refs_at hv
            have mq := List.mem_of_getElem? hq
            obtain ⟨x, r, eq, ld⟩ := row q mq
            have tq : H5' q.1 = some (.tup ((x :: r).map V.str)) := by rw [← eq]; exact x5 _ _ (tu q mq)
            refine ⟨rfl, ?_⟩
            refine yes_if ?_
            refine ⟨.ref D, rfl, .ref q.1, rfl, 1, rfl, q.1, _, -1, _, rfl, rfl, Evl.st_of tq, at_last, D, lastS x r, dots, f, rfl, M4.to x5, ld, W, fun bl H6 x6 hbl b6 => ?_⟩
            have bl2 : (behind dots f (lastS x r)).length ≤ 2 := Nat.le_trans (List.length_filterMap_le _ _) (W.two _ ld)
            refine ⟨bl, behind dots f (lastS x r), rfl, Evl.sq_of b6, by omega, fun us sl perm srd hsl => ?_⟩
            have y6 : Evl.Ex H6 (upd H6 sl (.lst (us.map V.str))) := Evl.Ex.new hsl
            have s6 : (upd H6 sl (.lst (us.map V.str))) sl = some (.lst (us.map V.str)) := upd_same
            have nSR : sl ≠ R2 := (ne_of_none (x6 _ _ p2) hsl).symm
            generalize upd H6 sl (.lst (us.map V.str)) = H7 at y6 s6
            have x57 := x6.trans y6
            have ul : us.length ≤ 2 := by rw [perm.length_eq]; exact bl2
            refine ⟨sl, rfl, ⟨_, Evl.sq_of s6⟩, lc2_in (walk_list (xs := us.map V.str))
              (fun j H8 => Evl.Ex H' H8 ∧ H8 sl = some (.lst (us.map V.str)) ∧ ∃ L3 : List (Addr × List Str), H8 R2 = some (.lst (L3.map fun q => V.ref q.1)) ∧ TupsAt H8 L3 ∧ L3.map (·.2) = L2.map (·.2) ++ (us.take j).map (fun y => q.2 ++ [y]) ∧ L3.length ≤ 2 * i + j)
              ⟨x5.trans x57, s6, L2, x57 _ _ p2, tu2.to x57, by rw [List.take_zero]; exact (List.append_nil _).symm, l2⟩ (fun j H8 _ h => Evl.sq_of h.2.1) ?_ ?_⟩
            · rintro j v H8 H8' hj ⟨x8, s8, L3, p3, tu3, eL3, l3⟩ ⟨rfl, hv8⟩
              obtain ⟨y, hy, rfl⟩ := str_at hv8
              rw [List.length_map] at hj
              refine ⟨rfl, ?_⟩
              refine yes_if ?_
              have tq8 := x8 _ _ (tu q mq)
              refine ⟨.ref q.1, rfl, q.1, _, rfl, .inl (Evl.st_of tq8), .str y, rfl, ?_, fun t ht => ?_⟩
              · have e1 : q.2.length ≤ 6 := by
                  have := ((lay.all q.2).mp (List.mem_map_of_mem mq)).2
                  omega
                rw [List.length_append, List.length_map]
                exact Nat.le_of_lt (small1000 (by show q.2.length + 1 ≤ 1000; omega))
              · have y9 : Evl.Ex H8' (upd H8' t (.tup (q.2.map V.str ++ [.str y]))) := Evl.Ex.new ht
                have t9 : (upd H8' t (.tup (q.2.map V.str ++ [.str y]))) t = some (.tup ((q.2 ++ [y]).map V.str)) := by rw [upd_same, List.map_append]; rfl
                generalize upd H8' t (.tup (q.2.map V.str ++ [.str y])) = H9 at y9 t9
                refine ⟨_, y9 _ _ p3, by rw [List.length_map]; exact small1000 (by omega), (x8.trans y9).mut hR2, by rw [upd_ne nSR]; exact y9 _ _ s8, L3 ++ [(t, q.2 ++ [y])], ?_, tups_put (tups_snoc (tu3.to y9) t9) (y9 _ _ p3), ?_, ?_⟩
                · rw [upd_same, List.map_append]
                  rfl
                · rw [List.map_append, eL3, List.take_add_one, hy, List.map_append, List.append_assoc]
                  rfl
                · rw [List.length_append]
                  show L3.length + 1 ≤ _
                  omega
            · rintro H8 ⟨x8, s8, L3, p3, tu3, eL3, l3⟩
              rw [List.length_map, List.take_length] at eL3
              rw [List.length_map] at l3
              refine ⟨x8, L3, p3, tu3, ?_, by omega, fun p hp => ?_⟩
              · rw [List.take_add_one, hq, List.map_append, List.flatMap_append, eL3, eL2]
                show _ = _ ++ (nexts dots f q.2 ++ [])
                rw [List.append_nil]
                unfold nexts
                rw [eq, show lastP (x :: r) = lastS x r from rfl, srt_is perm srd]
              · rw [List.take_add_one, hq, List.map_append] at hp
                rcases List.mem_append.mp hp with hp | hp
                · exact srtd p hp
                · have e' : p = q.2 := List.mem_singleton.mp hp
                  rw [e', eq]
                  exact ⟨us, perm, srd⟩
          · rintro H5 ⟨x5, L2, p2, tu2, eL2, l2, srtd⟩
            rw [List.length_map, List.take_length] at eL2 srtd
            refine ⟨m' - 1, by omega, c + 1, L2, R2, _, rfl, by omega, p2, tu2, ?_, x4.trans x5, M4.to x5⟩
            rw [eL2]
            exact lay_next lay hno (fun z hz => ⟨W.nd z hz, W.two z hz⟩) srtd
theorem sc_ring : FnScope ["net", "done", "lot", "goal"] ["net", "done", "lot", "goal"] (defScope p_ring) := ⟨rfl, rfl, rfl, by decide +kernel, rfl, by decide +kernel, by decide +kernel⟩
theorem ok_ring {f C : Addr} {fd : FuncData} (F : Fun K "ring" "ring" p_ring f fd) (C1 : Cal P w K mg base 6 "ways" ["net", "done", "lot", "goal"] (spMix C)) (C2 : Cal P w K mg base 2 "least_ring" ["mixture"] spLRing) : FnOk P w K mg base CX0 7 f fd ["net", "done", "lot", "goal"] (spRing C) := by
  obtain ⟨f1, fd1, F1, k1, b1, g1⟩ := C1.ex
  obtain ⟨f2, fd2, F2, k2, b2, g2⟩ := C2.ex
  refine F.ok sc_ring (fun vs H Q E h => ?_) (fun cdv A outer s H vs Q E hr h => ?_)
  · obtain ⟨m, a, b, e, zs, ys, ends, dots, ss, ps, o, n, rfl, _⟩ := h
    rfl
  · obtain ⟨m, a, b, e, zs, ys, ends, dots, ss, ps, o, n, rfl, N, ok, he, t1, t2, La, Lb, dis, k⟩ := h
    refine ⟨_, pss_one (ps_ret (pe_call F2 (hr.mono (by decide)) rfl g2 k2 b2 .nil pass0 (pa_cons (pe_call F1 hr rfl g1 k1 b1 .nil pass0 (pa_cons (pv 0) (pa_cons (pv 1) (pa_cons (pv 2) (pa_cons (pv 3) pa_nil))))) pa_nil))), ?_⟩
    refine ⟨.ref m, rfl, .ref a, rfl, .ref b, rfl, .str e, rfl, m, a, b, e, zs, ys, ends, dots, ss, ps, o, n, rfl, N, ok, he, La, Lb, dis, fun D H1 x1 hD M => ?_⟩
    exact ⟨D, dots, _, rfl, M.mw, webs_of ok he t1 t2, ok.d6, ok.dn, ok.ds, fun v H' x h => k v H' (x1.trans x) h⟩
end
end Rw
end T_K2

section T_S5
set_option Elab.async false
set_option linter.all false
set_option maxRecDepth 100000
set_option maxHeartbeats 4000000
namespace Rw
open PySem PySem.Spec PyProof.Rows L2
/-! ### max(xs, default=d) of ints -/
theorem args_maxD (a d : Value) : argsOk "max" ⟨[a], [(Str.ofString "default", d)]⟩ := by
  unfold argsOk; kernel_rfl
section
variable {prog : Program} {w : World} {A : Around} {R : Result → Shared → Prop} {I : Addr} {fp wr : List Addr} {n : Nat} {P : Nat → Value → Prop} {St : Nat → Heap → Prop}
/-- what the loop holds: nothing yet, or the greatest so far, at j -/
def BestSo (P : Nat → Value → Prop) (val : Nat → Int) (i : Nat) (old : List Value) : Prop := (i = 0 ∧ old = []) ∨ ∃ (j : Nat) (v : Value), j < i ∧ old = [v, v] ∧ P j v ∧ ∀ k, k < i → val k ≤ val j
theorem maxD_loop (W : Walks prog w A.in1 I fp wr n P St) (val : Nat → Int) (nums : ∀ i v, P i v → ∃ t, v = .int (val i) t) (B : Addr) (apart : B ∉ fp) (d : Value) :
    ∀ (left i : Nat) (s : Shared) (old : List Value) (c : Nat), n - i = left → i ≤ n → St i s.heap → BestSo P val i old →
      s.heap.get? B = some { cls := .type "list", dict := none, data := .seq old.toArray c, slots := #[] } →
      (∀ h' tk, n = 0 → (∀ b o, b ∉ wr → b ≠ B → s.heap.get? b = some o → h'.get? b = some o) → R (.ok (.ret d)) { s with heap := h', toks := tk }) →
      (∀ j v h' tk, j < n → P j v → (∀ k, k < n → val k ≤ val j) → (∀ b o, b ∉ wr → b ≠ B → s.heap.get? b = some o → h'.get? b = some o) → R (.ok (.ret v)) { s with heap := h', toks := tk }) →
      codeAny (model prog w) A (.builtin "max.loop" ⟨[.ref I, .none, .ref B], [("default", d)]⟩) R s := by
  have apart2 : B ∉ wr := fun m => apart (W.sub _ m)
  have nm : (toString "max" ++ toString ".loop" : String) = "max.loop" := by decide
  intro left
  induction left with
  | zero =>
    intro i s old c hl hi here best at_B none_ some_
    have at_end : i = n := by omega
    subst at_end
    refine codeAny_builtin PySem.F.entry_max_loop ?_
    rw [Around.under_plainId PySem.F.plain_max_loop]
    show wpAny (model prog w) A.in1 (seqItems? (.ref B) >>= _) _ _ s
    refine wpAny_bind (wpAny_seqItems at_B rfl ?_); show wpAny _ A.in1 (tryCatch (pyNext (.ref I)) _ >>= _) _ _ s
    refine wpAny_bind (wpAny_tryCatch (W.done s _ _ here fun h' tk keep => ?_))
    rcases best with ⟨e, rfl⟩ | ⟨j, v, hj, rfl, hp, top⟩
    · show wpAny _ A.in1 (rule _ >>= _) _ _ _
      exact wpAny_bind (wpAny_rule (wpAny_pure (none_ h' tk e fun b o n1 _ q => keep b o n1 q)))
    · have at_B2 := keep B _ apart2 at_B
      show wpAny _ A.in1 (updateSeq B (fun _ => #[]) >>= _) _ _ _
      refine wpAny_bind (wpAny_updateSeq at_B2 rfl (wpAny_bind (wpAny_letGo (wpAny_pure (some_ j v _ tk hj hp top fun b o n1 n2 q => ?_)))))
      rw [Heap.get?_update_other _ _ (Ne.symm n2)]
      exact keep b o n1 q
  | succ left ih =>
    intro i s old c hl hi here best at_B none_ some_
    have more : i < n := by omega
    refine codeAny_builtin PySem.F.entry_max_loop ?_
    rw [Around.under_plainId PySem.F.plain_max_loop]
    show wpAny (model prog w) A.in1 (seqItems? (.ref B) >>= _) _ _ s
    refine wpAny_bind (wpAny_seqItems at_B rfl ?_); show wpAny _ A.in1 (tryCatch (pyNext (.ref I)) _ >>= _) _ _ s
    refine wpAny_bind (wpAny_tryCatch (W.item i s _ _ more here fun u h' tk hu here' keep => ?_))
    have at_B2 := keep B _ apart2 at_B
    have upd_keep : ∀ (g : Obj → Obj) (b : Addr) (o : Obj), b ∉ wr → b ≠ B → s.heap.get? b = some o → (h'.update B g).get? b = some o := fun g b o n1 n2 q => by
      rw [Heap.get?_update_other _ _ (Ne.symm n2)]
      exact keep b o n1 q
    have upd_st : ∀ g : Obj → Obj, St (i + 1) (h'.update B g) := fun g => W.frame _ _ _ here' fun b hb o q => by
      rw [Heap.get?_update_other _ _ (fun e : B = b => apart (e ▸ hb))]
      exact q
    rcases best with ⟨e, rfl⟩ | ⟨j, v, hj, rfl, hp, top⟩
    · show wpAny _ A.in1 (updateSeq B (fun _ => #[u, u]) >>= _) _ _ _
      refine wpAny_bind (wpAny_updateSeq at_B2 rfl ?_)
      rw [nm]
      refine wpAny_pure (And.intro (plainId_quiet PySem.F.plain_max_loop _) (ih (i + 1) _ [u, u] _ (by omega) more (upd_st _) (.inr ⟨i, u, Nat.lt_succ_self _, rfl, hu, fun k hk => ?_⟩) (Heap.get?_update_self _ at_B2 rfl) (fun h2 tk2 z k2 => absurd z (by omega))
        fun j' v' h2 tk2 hj' hp' top' k2 => some_ j' v' h2 tk2 hj' hp' top' fun b o n1 n2 q => k2 b o n1 n2 (upd_keep _ b o n1 n2 q)))
      have : k = i := by omega
      rw [this]
      exact Int.le_refl _
    · show wpAny _ A.in1 (tryCatch (holding [u, u] (richCompare .Gt u v >>= _)) _ >>= _) _ _ _
      refine wpAny_bind (wpAny_tryCatch (wpAny_holding (wpAny_bind (CmpOf.ints_gt val nums i j u v _ _ _ hu hp ?_))))
      refine wpAny_bind (wpAny_holding (wpAny_truthy_bool (wpAny_bind (wpAny_letGo (wpAny_pure ?_)))))
      by_cases gt : val i > val j
      · rw [show (fun i j => decide (val i > val j)) i j = true from decide_eq_true gt]
        simp only [if_true]
        refine wpAny_bind (wpAny_updateSeq at_B2 rfl (wpAny_bind (wpAny_letGo ?_)))
        rw [nm]
        refine wpAny_pure (And.intro (plainId_quiet PySem.F.plain_max_loop _) (ih (i + 1) _ [u, u] _ (by omega) more (upd_st _) (.inr ⟨i, u, Nat.lt_succ_self _, rfl, hu, fun k hk => ?_⟩) (Heap.get?_update_self _ at_B2 rfl) (fun h2 tk2 z k2 => absurd z (by omega))
          fun j' v' h2 tk2 hj' hp' top' k2 => some_ j' v' h2 tk2 hj' hp' top' fun b o n1 n2 q => k2 b o n1 n2 (upd_keep _ b o n1 n2 q)))
        by_cases ki : k = i
        · rw [ki]; exact Int.le_refl _
        · have := top k (by omega)
          omega
      · rw [show (fun i j => decide (val i > val j)) i j = false from decide_eq_false gt]
        simp only [Bool.false_eq_true, if_false]
        refine wpAny_bind (wpAny_letGo ?_)
        rw [nm]
        refine wpAny_pure (And.intro (plainId_quiet PySem.F.plain_max_loop _) (ih (i + 1) _ [v, v] c (by omega) more here' (.inr ⟨j, v, by omega, rfl, hp, fun k hk => ?_⟩) at_B2 (fun h2 tk2 z k2 => absurd z (by omega))
          fun j' v' h2 tk2 hj' hp' top' k2 => some_ j' v' h2 tk2 hj' hp' top' fun b o n1 n2 q => k2 b o n1 n2 (keep b o n1 q)))
        by_cases ki : k = i
        · rw [ki]; omega
        · exact top k (by omega)
end
section
variable {prog : Program} {w : World} {A : Around} {E : Value → Shared → Prop} {s : Shared}
theorem maxD_raw {l : Addr} {vs : List Value} {ns : List Int} {d : Value} {Q : Value → Shared → Prop} (calm : A.handled = none) (hl : s.heap.IsList l vs.toArray) (hi : IntsAre vs ns)
    (none_ : ∀ h' tk, ns = [] → (∀ b o, s.heap.get? b = some o → h'.get? b = some o) → Q d { s with heap := h', toks := tk })
    (some_ : ∀ m t h' tk, m ∈ ns → (∀ y ∈ ns, y ≤ m) → (∀ b o, s.heap.get? b = some o → h'.get? b = some o) → Q (.int m t) { s with heap := h', toks := tk }) :
    wpAny (model prog w) A (call (.builtin "max") [.ref l] [(Str.ofString "default", d)]) Q E s := by
  have nm : (toString "max" ++ toString ".loop" : String) = "max.loop" := by decide
  have at_i : ∀ (i : Nat) (v : Value), vs.toArray[i]? = some v → ∃ t, v = .int (ns.getD i 0) t := by
    intro i v hv
    rw [List.getElem?_toArray] at hv
    have go : ∀ {us : List Value} {ms : List Int}, IntsAre us ms → ∀ i, us[i]? = some v → ∃ t, v = .int (ms.getD i 0) t := by
      intro us ms h
      induction h with
      | nil => intro i h; cases h
      | cons a t _ ih =>
        intro i h
        cases i with
        | zero => cases h; exact ⟨t, rfl⟩
        | succ i => exact ih i h
    exact go hi i hv
  have len : vs.toArray.size = ns.length := by rw [List.size_toArray, hi.length]
  refine wpAny_call (codeAny_call_builtin PySem.F.plain_max PySem.F.entry_max ?_)
  simp only [checkBuiltinCall, PySem.F.kind_max]
  have body : wpAny (model prog w) A.in1 (Builtin.«max» ⟨[.ref l], [(Str.ofString "default", d)]⟩) (fun fin s' => match fin with
      | .done f => (match (Except.ok f : Result) with | .ok (.ret v) => Q v s' | .ok _ => False | .error e => E e s')
      | .again c' => c'.quiet = true ∧ codeAny (model prog w) A c' (fun r s' => match r with | .ok (.ret v) => Q v s' | .ok _ => False | .error e => E e s') s') E s := by
    show wpAny _ A.in1 (Builtin.Builtins.bindParams "max" ["key", "default"] 0 ⟨[], [(Str.ofString "default", d)]⟩ >>= _) _ _ s
    refine wpAny_bind (wpAny_of_eq (show Builtin.Builtins.bindParams "max" ["key", "default"] 0 ⟨[], [(Str.ofString "default", d)]⟩ = pure [none, some d] from rfl) (wpAny_bind (wpAny_pure ?_)))
    have lt : l < s.heap.objs.size := let ⟨_, e, _⟩ := hl; Heap.lt_size e
    refine wpAny_bind (wpAny_pyIter_list hl ?_)
    generalize hs2 : s.heap.push { cls := .type "list_iterator", data := .fields #[.ref l, .int 0 0] } = h2
    have sz : h2.objs.size = s.heap.objs.size + 1 := by rw [← hs2, Heap.size_push]
    have at_I : h2.IsListIter s.heap.objs.size l 0 := by rw [← hs2]; exact ⟨_, Heap.get?_push_size _ rfl, rfl, rfl⟩
    have at_l : h2.IsList l vs.toArray := by rw [← hs2]; exact hl.push _
    have keep2 : ∀ b o, s.heap.get? b = some o → h2.get? b = some o := fun b o e => by rw [← hs2]; exact Heap.get?_push_of_some _ e
    refine wpAny_bind (wpAny_newObj_type ?_)
    rw [nm]
    have W := Walks.list (prog := prog) (w := w) (A := A.in1) calm s.heap.objs.size l (Nat.ne_of_lt lt) vs.toArray
    have apart : h2.objs.size ∉ [s.heap.objs.size, l] := by
      intro m
      rcases List.mem_cons.mp m with e | m
      · rw [sz] at e
        exact Nat.succ_ne_self _ e
      · have e := List.mem_singleton.mp m
        rw [sz] at e
        rw [← e] at lt
        exact absurd lt (Nat.not_lt.mpr (Nat.le_succ _))
    refine wpAny_pure (And.intro (plainId_quiet PySem.F.plain_max_loop _) (maxD_loop W (fun i => ns.getD i 0) at_i h2.objs.size apart d (vs.toArray.size - 0) 0 _ [] _ rfl (Nat.zero_le _)
      (W.frame _ _ _ ⟨at_I, at_l⟩ fun b _ o e => Heap.get?_push_of_some _ e) (.inl ⟨rfl, rfl⟩) (Heap.get?_push_size _ rfl) (fun h' tk z keep => ?_) fun j v h' tk hj hv top keep => ?_))
    · refine none_ h' tk (List.eq_nil_of_length_eq_zero (by rw [← len]; exact z)) fun b o e => keep b o ?_ ?_ (Heap.get?_push_of_some _ (keep2 b o e))
      · exact fun m => absurd (List.mem_singleton.mp m) (Nat.ne_of_lt (Heap.lt_size e))
      · exact Nat.ne_of_lt (Nat.lt_of_lt_of_le (Heap.lt_size e) (by rw [sz]; exact Nat.le_succ _))
    · obtain ⟨t, rfl⟩ := at_i j v hv
      rw [len] at hj
      have gj : ns.getD j 0 = ns[j] := by rw [List.getD_eq_getElem?_getD, List.getElem?_eq_getElem hj]; rfl
      refine some_ _ t h' tk (by rw [gj]; exact List.getElem_mem hj) (fun y hy => ?_) fun b o e => keep b o ?_ ?_ (Heap.get?_push_of_some _ (keep2 b o e))
      · obtain ⟨k, hk, rfl⟩ := List.getElem_of_mem hy
        have := top k (by rw [len]; exact hk)
        have gk : ns.getD k 0 = ns[k] := by rw [List.getD_eq_getElem?_getD, List.getElem?_eq_getElem hk]; rfl
        rw [gk] at this
        exact this
      · exact fun m => absurd (List.mem_singleton.mp m) (Nat.ne_of_lt (Heap.lt_size e))
      · exact Nat.ne_of_lt (Nat.lt_of_lt_of_le (Heap.lt_size e) (by rw [sz]; exact Nat.le_succ _))
  cases hsig : Manifest.signature? "max" with
  | none => exact wpAny_pure body
  | some sig =>
    have ok := args_maxD (.ref l) d
    simp only [argsOk, hsig] at ok
    have ok2 : Bind.checkArgs "max" sig ⟨[.ref l], [(Str.ofString "default", d)]⟩ = pure () := ok
    show wpAny _ A.in1 (Bind.checkArgs "max" sig ⟨[.ref l], [(Str.ofString "default", d)]⟩) _ _ s
    rw [ok2]
    exact wpAny_pure body
end
/-- max(xs, default=d), xs a list of ints -/
def rMaxDf (K : PySem.W.Frag) : List V → List V → Hp → VK → Prop := fun xs zs H Q => ∃ (a : Addr) (ns : List Int) (d : Int), xs = [.ref a] ∧ zs = [.int d] ∧ SqL K H a (ns.map V.int) ∧
  ∀ m : Int, (ns = [] → m = d) → (ns ≠ [] → m ∈ ns ∧ ∀ y ∈ ns, y ≤ m) → Q (.int m) H
theorem cr_maxD {X : Cx} (hc : X.calm = true) : CallRK X (.builtin "max") ["default"] (rMaxDf X.K) := by
  intro pins s σ H xs zs us ws Q I r1 r2 h
  obtain ⟨a, ns, d, rfl, rfl, hs, q⟩ := h
  rw [Vals.ref1 r1]
  obtain ⟨u, rfl, t, rfl⟩ := vals1 r2
  obtain ⟨its, rv, hl, _⟩ := I.list hs
  refine maxD_raw (I.ok.hd hc) hl.isList rv.ints (fun h' tk e keep => ?_) fun m t' h' tk hm top keep => ?_
  · exact ⟨.int d, H, I.kept keep, ⟨_, rfl⟩, q d (fun _ => rfl) fun n => absurd e n⟩
  · exact ⟨.int m, H, I.kept keep, ⟨_, rfl⟩, q m (fun e => by rw [e] at hm; cases hm) fun _ => ⟨hm, top⟩⟩
end Rw
end T_S5

section T_R1
set_option Elab.async false
set_option linter.all false
set_option maxRecDepth 100000
set_option maxHeartbeats 4000000
namespace Rw
open PySem L2 PyProof.Rows
/-- what ranks answers -/
def RanksAt (dots : List Str) (f : Str → List V) (v : V) (H0 H : Hp) : Prop := (v = .non ∧ ∃ p, IsRing dots f p) ∨ ∃ a g, v = .ref a ∧ H0 a = none ∧ H a = some (.dK (tkv (numT dots g))) ∧ Nums dots f dots g
theorem ring_cons {dots : List Str} {f : Str → List V} {p : List Str} (h : IsRing dots f p) : ∃ x r, p = x :: r := by
  cases p with
  | nil => exact h.1.elim
  | cons x r => exact ⟨x, r, rfl⟩
theorem nums_full {dots : List Str} {f : Str → List V} {dom : List Str} {g : Str → Int} (h : Nums dots f dom g) (dn : dots.Nodup) (hl : dots.length ≤ dom.length) : Nums dots f dots g :=
  ⟨dn, fun z hz => hz, fun z _ y hy => (mem_behind.mp hy).2, fun z hz => h.top z (nums_all h dn hl hz)⟩
section
variable {P : Program} {w : World} {K : PySem.W.Frag} {mg : Str → Option Value} {base : Heap}
def spRanks (C : Addr) : Sp := fun vs H Q _ => ∃ (m a b : Addr) (e : Str) (zs ys ends dots ss ps : List Str) (o n : Str → List (Str × V)), vs = [.ref m, .ref a, .ref b, .str e] ∧ NetAt C H m ends dots ss ps o n ∧ ModelOk ends dots ss ps ∧ e ∈ ends ∧ TabOk dots e (o e) ∧ TabOk dots e (n e) ∧
  LotAt H a zs (moving ends dots o n) ∧ LotAt H b ys (moving ends dots o n) ∧ (∀ y ∈ ys, y ∉ zs) ∧ ∀ v H', Evl.Ex H H' → RanksAt dots (spotsOf (o e) (n e) zs ys) v H H' → Q v H'
abbrev nLRanks : List Str := ["mixture", "found", "_", "node", "below", "place"]
theorem sc_lranks : FnScope nLRanks ["mixture"] (defScope p_least_ranks) := ⟨rfl, rfl, rfl, by decide +kernel, rfl, by decide +kernel, by decide +kernel⟩
def spLRanks : Sp := fun vs H Q _ => ∃ (D : Addr) (dots : List Str) (f : Str → List V), vs = [.ref D] ∧ MixW H D dots f ∧ Webs dots f ∧ dots.length ≤ 6 ∧ dots.Nodup ∧ ∀ v H', Evl.Ex H H' → RanksAt dots f v H H' → Q v H'
theorem ok_lranks {f : Addr} {fd : FuncData} (F : Fun K "least_ranks" "least_ranks" p_least_ranks f fd) (C2 : Cal P w K mg base 1 "nodes_behind" ["mixture", "node"] spBehind) (mAll : mg "all" = none) (mMax : mg "max" = none) (mLen : mg "len" = none) : FnOk P w K mg base CX0 2 f fd ["mixture"] spLRanks := by
  obtain ⟨f2, fd2, F2, k2, b2, g2⟩ := C2.ex
  refine F.ok sc_lranks (fun vs H Q E h => ?_) (fun cdv A outer s H vs Q E hr h => ?_)
  · obtain ⟨D, dots, f, rfl, _⟩ := h
    rfl
  · obtain ⟨D, dots, f, rfl, M, W, d6, dn, k⟩ := h
    have nd := sc_lranks.nd
    have hu := hu_of hr
    have hr1 : Room 1 _ := hr.mono (by decide)
    refine ⟨_, PSs.nox (pss_cons (ps_set (i := 1) nd rfl (.inr rfl) pe_dnewK)
      (pss_cons (ps_lock (ps_for PassesOwn.never rfl (pi_keys (pv 0)) (pg_name (i := 2) nd rfl (.inl rfl))
        (pss_one (ps_for PassesOwn.never rfl (pi_keys (pv 0)) (pg_name (i := 3) nd rfl (.inl rfl))
          (pss_cons (ps_set (i := 4) nd rfl (.inl rfl) (pe_call F2 hr1 rfl g2 k2 b2 .nil pass0 (pa_cons (pv 0) (pa_cons (pv 3) pa_nil))))
          (pss_one (ps_if (pt_val (pe_callB (cr_all rfl) (by rfl) mAll (by decide +kernel) (pa_cons (pe_lc (own := [("place", 5)]) (g := gName 5) (tt := tYes) (te := tDIn (tVar 5) (tVar 1)) rfl nd (pi_list (pv 4)) (blkOk_by (own := [("place", 5)]) (N := nLRanks) (sc := defScope p_least_ranks) (by decide +kernel))
              (fun _ _ _ _ _ => pg_name (i := 5) nd rfl (Or.inl rfl)) (fun _ _ _ _ _ => pts_nil) (fun _ _ _ _ _ => pe_cmp (pc_din hu (pv 5) (pv 1)) rfl)) pa_nil)))
            (pss_one (ps_dput hu (pv 1) (pv 3) (pe_callBK (cr_maxD rfl) (by rfl) mMax (by decide +kernel) (pa_cons (pe_lc (own := [("place", 5)]) (g := gName 5) (tt := tYes) (te := tOp (rI0 fun i j => V.int (i + j)) (tDGet (tVar 1) (tVar 5)) (tC (.int 1))) rfl nd (pi_list (pv 4)) (blkOk_by (own := [("place", 5)]) (N := nLRanks) (sc := defScope p_least_ranks) (by decide +kernel))
              (fun _ _ _ _ _ => pg_name (i := 5) nd rfl (Or.inl rfl)) (fun _ _ _ _ _ => pts_nil) (fun _ _ _ _ _ => pe_op op_add (pe_dget hu (pv 1) (pv 5) (fun _ _ => rfl)) pe_int)) pa_nil) (pk_cons pe_int pk_nil)) rfl)) pss_nil)))))))
      (pss_cons (ps_if (pt_cmpR op_lt (pe_callB call_lenD (by rfl) mLen PySem.boot_len (pa_cons (pv 1) pa_nil)) (pe_callB call_lenD (by rfl) mLen PySem.boot_len (pa_cons (pv 0) pa_nil)) (nomark _)) (pss_one (ps_ret pe_non)) pss_nil)
      (pss_one (ps_ret (pe_lock (pe_dc (own := [("node", 3)]) (g := gName 3) (tt := tYes) (tk := tVar 3) (tv := tDGet (tVar 1) (tVar 3)) rfl nd (pi_keys (pv 0)) (blkOk_by (own := [("node", 3)]) (N := nLRanks) (sc := defScope p_least_ranks) (by decide +kernel))
        (fun _ _ _ _ _ => pg_name (i := 3) nd rfl (Or.inl rfl)) (fun _ _ _ _ _ => pts_nil) (fun _ _ _ _ _ => pv 3) (fun _ _ _ _ _ => pe_dget hu (pv 1) (pv 3) (fun _ _ => rfl))))))))), ?_⟩
    have x1 := Evl.Ex.refl H
    obtain ⟨rs, r1, r2, r3⟩ := M.ex
    have rl : rs.length = dots.length := by rw [← r2, List.length_map]
    have tl : (tkv rs).length = dots.length := by rw [tkv_len, rl]
    -- found = {}
    refine fun Fd hF => ?_
    have FD : Fd ≠ D := (ne_of_none r1 hF).symm
    have d0 : (upd H Fd (.dK [])) D = some (.dK (tkv rs)) := by rw [upd_ne FD.symm]; exact r1
    refine ⟨D, .dK (tkv rs), d0, trivial, fun od => ?_⟩
    have hBF : (upd H D (.frz od (.dK (tkv rs)))) Fd = none := by rw [upd_ne FD]; exact hF
    have lockB : (upd H D (.frz od (.dK (tkv rs)))) D = some (.frz od (.dK (tkv rs))) := upd_same
    have back : ∀ {H4 : Hp}, Evl.Ex (upd H D (.frz od (.dK (tkv rs)))) H4 → Evl.Ex H (upd H4 D (.dK (tkv rs))) := fun {H4} x b u h => by
      by_cases q : b = D
      · subst q
        rw [upd_same, ← r1, h]
      · rw [upd_ne q]
        exact x _ _ (by rw [upd_ne q]; exact h)
    have xL : Evl.Ex (upd H D (.frz od (.dK (tkv rs)))) (upd (upd H Fd (.dK [])) D (.frz od (.dK (tkv rs)))) := fun c u h => by
      by_cases q : c = D
      · subst q
        rw [upd_same] at h ⊢
        exact h
      · rw [upd_ne q] at h ⊢
        by_cases q2 : c = Fd
        · subst q2
          rw [hF] at h
          cases h
        · rw [upd_ne q2]
          exact h
    have MB : MixR (upd H D (.frz od (.dK (tkv rs)))) D dots f := ⟨rs, .inr ⟨od, lockB⟩, r2, fun q hq => let ⟨l, e1, e3⟩ := r3 q hq; ⟨l, e1, by rw [upd_ne (ne_of e3 r1 (by intro z; cases z))]; exact e3⟩⟩
    have fL : (upd (upd H Fd (.dK [])) D (.frz od (.dK (tkv rs)))) Fd = some (.dK (tkv (numT [] fun _ => 0))) := by rw [upd_ne FD]; exact upd_same
    generalize upd (upd H Fd (.dK [])) D (.frz od (.dK (tkv rs))) = HL at xL fL
    generalize upd H D (.frz od (.dK (tkv rs))) = HB at hBF lockB back xL MB
    -- for _ in mixture
    refine ⟨.ref D, rfl, D, od, rfl, .inl ⟨tkv rs, xL _ _ lockB, for_it walk_keys
      (fun i σ H' => ∃ (x6 x7 x8 : Option V) (dom : List Str) (g : Str → Int), σ = [some (.ref D), some (.ref Fd), x6, x7, x8, none] ∧ Evl.Ex HB H' ∧ H' Fd = some (.dK (tkv (numT dom g))) ∧ Nums dots f dom g ∧ (i ≤ dom.length ∨ ∃ p, IsRing dots f p))
      ⟨none, none, none, [], _, rfl, xL, fL, nums_nil, .inl (Nat.zero_le _)⟩ (fun i σ H' _ ⟨_, _, _, _, _, _, x, _⟩ => x _ _ lockB) ?_ ?_⟩⟩
    · rintro i x σ H2 H2' hi ⟨x6, x7, x8, dom0, g0, rfl, x2, f2, N2, pr⟩ ⟨rfl, kk, v, hkv, rfl⟩
      rw [tl] at hi
      -- for node in mixture
      refine ⟨.ref D, rfl, D, od, rfl, .inl ⟨tkv rs, x2 _ _ lockB, for_it walk_keys
        (fun j σ H' => ∃ (x7 x8 : Option V) (mo : List Str) (g : Str → Int), σ = [some (.ref D), some (.ref Fd), some (kV kk), x7, x8, none] ∧ Evl.Ex HB H' ∧ H' Fd = some (.dK (tkv (numT (dom0 ++ mo) g))) ∧ Nums dots f (dom0 ++ mo) g ∧
          ∀ z ∈ dots.take j, (∀ y ∈ behind dots f z, y ∈ dom0) → z ∈ dom0 ++ mo)
        ⟨x7, x8, [], g0, rfl, x2, by rw [List.append_nil]; exact f2, by rw [List.append_nil]; exact N2, fun z hz => by cases hz⟩ (fun j σ H' _ ⟨_, _, _, _, _, x, _⟩ => x _ _ lockB) ?_ ?_⟩⟩
      · rintro j y0 σ H4 H4' hj ⟨y7, y8, mo, g, rfl, x4, f4, N4, seen⟩ ⟨rfl, k2, v2, hkv2, rfl⟩
        rw [tl] at hj
        obtain ⟨z, hz, rfl⟩ := key_at r2 hkv2
        have zd := List.mem_of_getElem? hz
        have nl := nums_len N4
        -- below = nodes_behind(mixture, node)
        refine ⟨.ref D, rfl, .str z, rfl, D, z, dots, f, rfl, MB.to x4, zd, W, fun p H5 x5 hp p5 => ?_⟩
        have two : (behind dots f z).length ≤ 2 := Nat.le_trans (List.length_filterMap_le _ _) (W.two z zd)
        have f5 := x5 _ _ f4
        generalize hys : behind dots f z = ys at p5 two
        -- all([place in found for place in below])
        refine ⟨.ref p, rfl, p, rfl, ⟨_, Evl.sq_of p5⟩, fun R hR => lc_list (K := K) (a := p) (xs := ys.map V.str) (fun i H' => Evl.Ex H5 H' ∧ H' R = some (.lst (((ys.take i).map fun y => decide (y ∈ dom0 ++ mo)).map V.bl)))
          ⟨Evl.Ex.new hR, upd_same⟩ (fun i H' _ h => Evl.sq_of (h.1 _ _ p5)) ?_ ?_⟩
        · rintro l y1 H6 hl ⟨x6', h6⟩
          obtain ⟨y, hy, rfl⟩ := str_at hl
          have et : ys.take (l + 1) = ys.take l ++ [y] := by rw [List.take_add_one, hy]; rfl
          refine ⟨rfl, yes_if ?_⟩
          refine ⟨.str y, rfl, .ref Fd, rfl, Fd, _, rfl, DGet.k (k := Sum.inr y) (x6' _ _ f5), _, h6, by rw [List.length_map, List.length_map, List.length_take]; exact small1000 (by omega), x6'.mut hR, ?_⟩
          rw [upd_same, numT_has, et, List.map_append, List.map_append]
          rfl
        · rintro H6 ⟨x6', h6⟩
          rw [List.length_map, List.take_length] at h6
          refine ⟨R, _, rfl, Evl.sq_of h6, _, rfl, ?_⟩
          have x46 := (x4.trans x5).trans x6'
          have f6 := x6' _ _ f5
          have p6 := x6' _ _ p5
          have et : dots.take (j + 1) = dots.take j ++ [z] := by rw [List.take_add_one, hz]; rfl
          by_cases hall : ∀ y ∈ ys, y ∈ dom0 ++ mo
          · have ea : ((ys.map fun y => decide (y ∈ dom0 ++ mo)).all id) = true := by
              rw [List.all_map, List.all_eq_true]
              exact fun y hy => decide_eq_true (hall y hy)
            rw [ea]
            refine iteT ?_
            -- found[node] = max(.., default=0)
            refine ⟨.ref p, rfl, p, rfl, ⟨_, Evl.sq_of p6⟩, fun R2 hR2 => lc_list (K := K) (a := p) (xs := ys.map V.str) (fun i H' => Evl.Ex H6 H' ∧ H' R2 = some (.lst (((ys.take i).map fun y => g y + 1).map V.int)))
              ⟨Evl.Ex.new hR2, upd_same⟩ (fun i H' _ h => Evl.sq_of (h.1 _ _ p6)) ?_ ?_⟩
            · rintro l y1 H7 hl ⟨x7', h7⟩
              obtain ⟨y, hy, rfl⟩ := str_at hl
              have et2 : ys.take (l + 1) = ys.take l ++ [y] := by rw [List.take_add_one, hy]; rfl
              refine ⟨rfl, yes_if ?_⟩
              refine ⟨.ref Fd, rfl, .str y, rfl, Fd, _, rfl, numT_dget (x7' _ _ f6) (hall y (List.mem_of_getElem? hy)), _, _, rfl, rfl, _, h7, by rw [List.length_map, List.length_map, List.length_take]; exact small1000 (by omega), x7'.mut hR2, ?_⟩
              rw [upd_same, et2, List.map_append, List.map_append]
              rfl
            · rintro H7 ⟨x7', h7⟩
              rw [List.length_map, List.take_length] at h7
              refine ⟨R2, ys.map (fun y => g y + 1), 0, rfl, rfl, Evl.sq_of h7, fun mx m1 m2 => ?_⟩
              have tm := isTop_max m1 m2
              have f7 := x7' _ _ f6
              refine ⟨.ref Fd, rfl, .str z, rfl, Fd, _, rfl, DPut.k (k := Sum.inr z) f7 (by rw [tkv_len, numT_len]; exact small1000 (by omega)), ?_⟩
              have x47 := x46.trans x7'
              by_cases zi : z ∈ dom0 ++ mo
              · have e1 := isTop_one (hys ▸ tm) (N4.top z zi)
                subst e1
                refine ⟨_, _, mo, g, rfl, x47.mut hBF, by rw [upd_same, numT_old zi], N4, fun t ht low => ?_⟩
                rw [et] at ht
                rcases List.mem_append.mp ht with ht | ht
                · exact seen t ht low
                · rw [List.mem_singleton.mp ht]; exact zi
              · refine ⟨_, _, mo ++ [z], putN g z mx, rfl, x47.mut hBF, by rw [upd_same, numT_new zi, List.append_assoc], ?_, fun t ht low => ?_⟩
                · rw [← List.append_assoc]
                  exact nums_new N4 zi zd (by rw [hys]; exact hall) (by rw [hys]; exact tm)
                · rw [← List.append_assoc]
                  rw [et] at ht
                  rcases List.mem_append.mp ht with ht | ht
                  · exact List.mem_append_left _ (seen t ht low)
                  · exact List.mem_append_right _ ht
          · have ea : ((ys.map fun y => decide (y ∈ dom0 ++ mo)).all id) = false := by
              rw [← Bool.not_eq_true]
              intro t
              rw [List.all_map, List.all_eq_true] at t
              exact hall fun y hy => of_decide_eq_true (t y hy)
            rw [ea]
            refine iteF ⟨_, _, mo, g, rfl, x46, f6, N4, fun t ht low => ?_⟩
            rw [et] at ht
            rcases List.mem_append.mp ht with ht | ht
            · exact seen t ht low
            · rw [List.mem_singleton.mp ht, hys] at low
              exact (hall fun y hy => List.mem_append_left _ (low y hy)).elim
      · rintro σ H4 ⟨y7, y8, mo, g, rfl, x4, f4, N4, seen⟩
        rw [tl, List.take_length] at seen
        refine ⟨_, y7, y8, dom0 ++ mo, g, rfl, x4, f4, N4, ?_⟩
        rcases pr with pr | pr
        · by_cases big : i + 1 ≤ (dom0 ++ mo).length
          · exact .inl big
          · rw [List.length_append] at big
            have e0 : mo = [] := List.eq_nil_of_length_eq_zero (by omega)
            subst e0
            rw [List.append_nil] at seen N4
            have : ∃ z, z ∈ dots ∧ z ∉ dom0 := by
              by_cases q : ∃ z, z ∈ dots ∧ z ∉ dom0
              · exact q
              · have := nodup_le dots dom0 dn fun z hz => by
                  by_cases q2 : z ∈ dom0
                  · exact q2
                  · exact absurd ⟨z, hz, q2⟩ q
                rw [List.length_nil] at big
                omega
            obtain ⟨z, zd, zn⟩ := this
            refine .inr (ring_of_stop dn (fun t td tn => ?_) zd zn)
            by_cases q : ∃ y ∈ behind dots f t, y ∉ dom0
            · exact q
            · refine absurd (seen t td fun y hy => ?_) tn
              by_cases q2 : y ∈ dom0
              · exact q2
              · exact absurd ⟨y, hy, q2⟩ q
        · exact .inr pr
    · rintro σ H4 ⟨x6, x7, x8, dom, g, rfl, x4, f4, N4, pr⟩
      rw [tl] at pr
      refine ⟨x4 _ _ lockB, ?_⟩
      have x5 := back x4
      have f5 : (upd H4 D (.dK (tkv rs))) Fd = some (.dK (tkv (numT dom g))) := by rw [upd_ne FD]; exact f4
      have d5 : (upd H4 D (.dK (tkv rs))) D = some (.dK (tkv rs)) := upd_same
      generalize upd H4 D (.dK (tkv rs)) = H5 at x5 f5 d5
      have x15 := x1.trans x5
      -- if len(found) < len(mixture)
      refine ⟨.ref Fd, rfl, Fd, _, rfl, f5, .ref D, rfl, D, _, rfl, d5, _, _, rfl, rfl, _, rfl, ?_⟩
      rw [tl, tkv_len, numT_len]
      by_cases sh : dom.length < dots.length
      · rw [decide_eq_true (show (dom.length : Int) < (dots.length : Int) by omega)]
        refine iteT (k .non H5 x15 (.inl ⟨rfl, ?_⟩))
        exact pr.elim (fun q => absurd sh (by omega)) id
      · rw [decide_eq_false (show ¬ (dom.length : Int) < (dots.length : Int) by omega)]
        refine iteF ?_
        have full := nums_full N4 dn (Nat.le_of_not_lt sh)
        have inD : ∀ z ∈ dots, z ∈ dom := fun z hz => nums_all N4 dn (Nat.le_of_not_lt sh) hz
        -- {node: found[node] for node in mixture}
        refine ⟨D, .dK (tkv rs), d5, trivial, fun od2 => ?_⟩
        have lock2 : (upd H5 D (.frz od2 (.dK (tkv rs)))) D = some (.frz od2 (.dK (tkv rs))) := upd_same
        have f6 : (upd H5 D (.frz od2 (.dK (tkv rs)))) Fd = some (.dK (tkv (numT dom g))) := by rw [upd_ne FD]; exact f5
        have back2 : ∀ {H7 : Hp}, Evl.Ex (upd H5 D (.frz od2 (.dK (tkv rs)))) H7 → Evl.Ex H5 (upd H7 D (.dK (tkv rs))) := fun {H7} x b u h => by
          by_cases q : b = D
          · subst q
            rw [upd_same, ← d5, h]
          · rw [upd_ne q]
            exact x _ _ (by rw [upd_ne q]; exact h)
        have hnone : ∀ {q : Addr}, (upd H5 D (.frz od2 (.dK (tkv rs)))) q = none → H q = none := fun {q} h => by
          by_cases e : q = D
          · subst e
            rw [upd_same] at h
            cases h
          · rw [upd_ne e] at h
            exact ex_none x15 h
        generalize upd H5 D (.frz od2 (.dK (tkv rs))) = H6 at lock2 f6 back2 hnone
        refine ⟨.ref D, rfl, D, od2, rfl, .inl ⟨tkv rs, lock2, fun R hR => dc_it walk_keys (fun i H' => Evl.Ex H6 H' ∧ H' R = some (.dK (tkv (numT (dots.take i) g))))
          ⟨Evl.Ex.new hR, upd_same⟩ (fun i H' _ h => h.1 _ _ lock2) ?_ ?_⟩⟩
        · rintro i x H7 H7' hi ⟨x7', h7⟩ ⟨rfl, kk, v, hkv, rfl⟩
          rw [tl] at hi
          obtain ⟨z, hz, rfl⟩ := key_at r2 hkv
          have zd := List.mem_of_getElem? hz
          have et : dots.take (i + 1) = dots.take i ++ [z] := by rw [List.take_add_one, hz]; rfl
          have zn : z ∉ dots.take i := fun hm => by
            have q1 : (dots.take (i + 1)).Nodup := dn.sublist (List.take_sublist _ _)
            rw [et] at q1
            exact (List.nodup_append.mp q1).2.2 z hm z (List.mem_singleton.mpr rfl) rfl
          refine ⟨rfl, yes_if ?_⟩
          refine ⟨.str z, rfl, .ref Fd, rfl, .str z, rfl, Fd, _, rfl, numT_dget (x7' _ _ f6) (inD z zd), _, Sum.inr z, rfl, h7, by rw [tkv_len, numT_len, List.length_take]; exact small1000 (by omega), x7'.mut hR, ?_⟩
          rw [upd_same, numT_snoc zn, et]
        · rintro H7 ⟨x7', h7⟩
          rw [tl, List.take_length] at h7
          refine ⟨x7' _ _ lock2, k (.ref R) _ (x15.trans (back2 x7')) (.inr ⟨R, g, rfl, hnone hR, ?_, full⟩)⟩
          rw [upd_ne (ne_of_none lock2 hR).symm]
          exact h7
theorem sc_ranks : FnScope ["net", "done", "lot", "goal"] ["net", "done", "lot", "goal"] (defScope p_ranks) := ⟨rfl, rfl, rfl, by decide +kernel, rfl, by decide +kernel, by decide +kernel⟩
theorem ok_ranks {f C : Addr} {fd : FuncData} (F : Fun K "ranks" "ranks" p_ranks f fd) (C1 : Cal P w K mg base 6 "ways" ["net", "done", "lot", "goal"] (spMix C)) (C2 : Cal P w K mg base 2 "least_ranks" ["mixture"] spLRanks) : FnOk P w K mg base CX0 7 f fd ["net", "done", "lot", "goal"] (spRanks C) := by
  obtain ⟨f1, fd1, F1, k1, b1, g1⟩ := C1.ex
  obtain ⟨f2, fd2, F2, k2, b2, g2⟩ := C2.ex
  refine F.ok sc_ranks (fun vs H Q E h => ?_) (fun cdv A outer s H vs Q E hr h => ?_)
  · obtain ⟨m, a, b, e, zs, ys, ends, dots, ss, ps, o, n, rfl, _⟩ := h
    rfl
  · obtain ⟨m, a, b, e, zs, ys, ends, dots, ss, ps, o, n, rfl, N, ok, he, t1, t2, La, Lb, dis, k⟩ := h
    refine ⟨_, pss_one (ps_ret (pe_call F2 (hr.mono (by decide)) rfl g2 k2 b2 .nil pass0 (pa_cons (pe_call F1 hr rfl g1 k1 b1 .nil pass0 (pa_cons (pv 0) (pa_cons (pv 1) (pa_cons (pv 2) (pa_cons (pv 3) pa_nil))))) pa_nil))), ?_⟩
    refine ⟨.ref m, rfl, .ref a, rfl, .ref b, rfl, .str e, rfl, m, a, b, e, zs, ys, ends, dots, ss, ps, o, n, rfl, N, ok, he, La, Lb, dis, fun D H1 x1 hD M => ?_⟩
    exact ⟨D, dots, _, rfl, M.mw, webs_of ok he t1 t2, ok.d6, ok.dn, fun v H' x h => k v H' (x1.trans x) (h.imp id fun ⟨p, g, e1, e2, e3⟩ => ⟨p, g, e1, ex_none x1 e2, e3⟩)⟩
end
end Rw
end T_R1

section T_JO
set_option Elab.async false
set_option linter.all false
set_option maxRecDepth 100000
set_option maxHeartbeats 4000000
namespace Rw
open PySem L2 PyProof.Rows
section
variable {P : Program} {w : World} {K : PySem.W.Frag} {mg : Str → Option Value} {base : Heap}
/-! ### joined -/
def spJoined : Sp := fun vs H Q _ => ∃ (a b : Addr) (zs ys : List Str), vs = [.ref a, .ref b] ∧ SqT K H a (zs.map V.str) ∧ SqT K H b (ys.map V.str) ∧ zs.length + ys.length ≤ 60 ∧
  ∀ (p : Addr) (H' : Hp) (js : List Str), Evl.Ex H H' → H p = none → H' p = some (.tup (js.map V.str)) → js.Perm (zs ++ ys) → sortedS js = true → Q (.ref p) H'
abbrev nJoined : List Str := ["lot", "other"]
theorem sc_joined : FnScope nJoined ["lot", "other"] (defScope p_joined) := ⟨rfl, rfl, rfl, by decide +kernel, rfl, by decide +kernel, by decide +kernel⟩
theorem ok_joined {f : Addr} {fd : FuncData} (F : Fun K "joined" "joined" p_joined f fd) (mTup : mg "tuple" = none) (mSorted : mg "sorted" = none) : FnOk P w K mg base CX0 1 f fd ["lot", "other"] (spJoined (K := K)) := by
  refine F.ok sc_joined (fun vs H Q E h => ?_) (fun cdv A outer s H vs Q E hr h => ?_)
  · obtain ⟨a, b, zs, ys, rfl, _⟩ := h
    rfl
  · obtain ⟨a, b, zs, ys, rfl, ha, hb, few, k⟩ := h
    have nd := sc_joined.nd
    refine ⟨_, pss_one (ps_ret (pe_callTy call_tuple_of (by rfl) mTup (by decide +kernel) (pa_cons (pe_callB cr_sortedS (by rfl) mSorted (by decide +kernel) (pa_cons (pe_lst (StX.pa_star (pv 0) (StX.pa_star (pv 1) pa_nil))) pa_nil)) pa_nil))), ?_⟩
    refine ⟨.ref a, rfl, a, _, rfl, .inl ha, .ref b, rfl, b, _, rfl, .inl hb, ?_⟩
    have e0 : zs.map V.str ++ (ys.map V.str ++ []) = (zs ++ ys).map V.str := by rw [List.append_nil, List.map_append]
    refine ⟨by show (zs.map V.str ++ (ys.map V.str ++ [])).length ≤ sizeLine; rw [e0, List.length_map, List.length_append]; exact Nat.le_of_lt (small1000 (by omega)), fun l hl => ?_⟩
    refine ⟨l, zs ++ ys, rfl, Evl.sq_of (by rw [← e0]; exact upd_same), by rw [List.length_append]; omega, fun js r hp hs hr' => ?_⟩
    refine ⟨r, _, rfl, .inl ⟨Evl.sq_of upd_same, fun t ht => ?_⟩⟩
    have x := ((Evl.Ex.new (H := H) hl).trans (Evl.Ex.new (o := HO.lst (js.map V.str)) hr')).trans (Evl.Ex.new (o := HO.tup (js.map V.str)) ht)
    exact k t _ js x (ex_none ((Evl.Ex.new hl).trans (Evl.Ex.new hr')) ht) upd_same hp hs
end
end Rw
end T_JO

section T_R4
set_option Elab.async false
set_option linter.all false
set_option maxRecDepth 100000
set_option maxHeartbeats 4000000
namespace Rw
open PySem L2 PyProof.Rows
/-! ### with_moments: that it answers -/
theorem walk_zipT {K : PySem.W.Frag} {a b : Addr} {xs ys : List V} {n : Nat} (hn : n = min xs.length ys.length) : Walk (RZ.ItzT K a b) n (fun H => SqT K H a xs ∧ SqT K H b ys) (YPair (fun i => xs[i]?) (fun i => ys[i]?)) := by
  subst hn
  exact ⟨fun i H hi hG => ⟨xs, ys, xs[i], ys[i], hG.1, hG.2, List.getElem?_eq_getElem (by omega), List.getElem?_eq_getElem (by omega)⟩, fun H hG => ⟨xs, ys, hG.1, hG.2, by omega⟩,
    fun i H x H' _ hG hy => let ⟨T, x, y, e1, e2, e3, e4, e5⟩ := hy; ⟨T, x, y, e1, e2, e3, e4 xs hG.1, e5 ys hG.2⟩⟩
theorem cut_take (xs : List V) (n : Nat) : cutV xs none (some (n : Int)) = xs.take n := by
  unfold cutV
  rw [show HT.sIx xs.length 0 none = 0 from rfl, HT.sIx_nat, List.drop_zero, Nat.sub_zero]
  by_cases h : n ≤ xs.length
  · rw [Nat.min_eq_left h]
  · rw [Nat.min_eq_right (by omega), List.take_length, List.take_of_length_le (by omega)]
theorem cut_drop (xs : List V) (n : Nat) : cutV xs (some (n : Int)) none = xs.drop n := by
  unfold cutV
  rw [HT.sIx_nat, HT.sIx_none]
  by_cases h : n ≤ xs.length
  · rw [Nat.min_eq_left h]
    exact List.take_of_length_le (by rw [List.length_drop]; exact Nat.le_refl _)
  · rw [Nat.min_eq_right (by omega), Nat.sub_self, List.take_zero, List.drop_of_length_le (by omega)]
/-- pairs of these places, each with some lot -/
def StepsIn (H : Hp) : List (Addr × Addr) → List Str → Prop
  | [], [] => True
  | q :: ts, z :: ws => H q.1 = some (.tup [.str z, .ref q.2]) ∧ StepsIn H ts ws
  | _, _ => False
theorem StepsIn.mono {H H' : Hp} (k : ∀ a xs, H a = some (.tup xs) → H' a = some (.tup xs)) : ∀ {ts : List (Addr × Addr)} {ws : List Str}, StepsIn H ts ws → StepsIn H' ts ws
  | [], [], _ => trivial
  | q :: ts, z :: ws, h => ⟨k _ _ h.1, StepsIn.mono k h.2⟩
  | [], _ :: _, h => h.elim
  | _ :: _, [], h => h.elim
theorem StepsIn.snoc {H : Hp} {q : Addr × Addr} {z : Str} (e : H q.1 = some (.tup [.str z, .ref q.2])) : ∀ {ts : List (Addr × Addr)} {ws : List Str}, StepsIn H ts ws → StepsIn H (ts ++ [q]) (ws ++ [z])
  | [], [], _ => ⟨e, trivial⟩
  | p :: ts, y :: ws, h => ⟨h.1, StepsIn.snoc e h.2⟩
  | [], _ :: _, h => h.elim
  | _ :: _, [], h => h.elim
theorem StepsIn.len {H : Hp} : ∀ {ts : List (Addr × Addr)} {ws : List Str}, StepsIn H ts ws → ts.length = ws.length
  | [], [], _ => rfl
  | p :: ts, y :: ws, h => congrArg (· + 1) (StepsIn.len h.2)
  | [], _ :: _, h => h.elim
  | _ :: _, [], h => h.elim
def StepsAt (H : Hp) (a : Addr) (ws : List Str) : Prop := ∃ ts : List (Addr × Addr), H a = some (.lst (ts.map fun q => V.ref q.1)) ∧ StepsIn H ts ws
section
variable {P : Program} {w : World} {K : PySem.W.Frag} {mg : Str → Option Value} {base : Heap}
def spMoments (C : Addr) : Sp := fun vs H Q _ => ∃ (m b t : Addr) (e : Str) (zs ws ends dots ss ps : List Str) (o n : Str → List (Str × V)), vs = [.ref m, .ref b, .str e, .ref t] ∧ NetAt C H m ends dots ss ps o n ∧ ModelOk ends dots ss ps ∧ e ∈ ends ∧ TabOk dots e (o e) ∧
  H b = some (.tup (zs.map V.str)) ∧ H t = some (.tup (ws.map V.str)) ∧ 0 < ws.length ∧ ws.length ≤ 10 ∧ (∀ z ∈ ws, z ∈ dots) ∧ ∀ a H', Evl.Ex H H' → StepsAt H' a ws → Q (.ref a) H'
abbrev nMoments : List Str := ["net", "lot", "goal", "places", "changed", "pairs", "place", "later"]
theorem sc_moments : FnScope nMoments ["net", "lot", "goal", "places"] (defScope p_with_moments) := ⟨rfl, rfl, rfl, by decide +kernel, rfl, by decide +kernel, by decide +kernel⟩
theorem ok_moments {f C fw : Addr} {fd fdw : FuncData} (F : Fun K "with_moments" "with_moments" p_with_moments f fd) (T : NetTxt K C) (M : Meth K C "way" fw) (W : FnOk P w K mg base CX0 4 fw fdw ["self", "goal", "node", "is_new"] (spWay C)) (bw : Binds K fdw ["self", "goal", "node", "is_new"] [])
    (CJ : Cal P w K mg base 1 "joined" ["lot", "other"] (spJoined (K := K))) (mZip : mg "zip" = none) : FnOk P w K mg base CX0 5 f fd ["net", "lot", "goal", "places"] (spMoments C) := by
  obtain ⟨fJ, fdJ, JN, kJ, bJ, gJ⟩ := CJ.ex
  refine F.ok sc_moments (fun vs H Q E h => ?_) (fun cdv A outer s H vs Q E hr h => ?_)
  · obtain ⟨m, b, t, e, zs, ws, ends, dots, ss, ps, o, n, rfl, _⟩ := h
    rfl
  · obtain ⟨m, b, t, e, zs, ws, ends, dots, ss, ps, o, n, rfl, N, ok, he, t1, hb, ht, wl, wl2, hw, k⟩ := h
    have nd := sc_moments.nd
    have hu := hu_of hr
    refine ⟨_, pss_cons (ps_set (i := 4) nd rfl (.inl rfl) (pe_tup pa_nil))
      (pss_cons (ps_set (i := 5) nd rfl (.inl rfl) (pe_lst pa_nil))
      (pss_cons (ps_for PassesOwn.never rfl (RZ.pi_zipA (by rfl) mZip (pa_cons (pv 3) (pa_cons (pe_slice sl_tup (pv 3) (po_some pe_int) po_none) pa_nil))) (pg_tup rfl (pgs_cons (pg_name (i := 6) nd rfl (.inl rfl)) (pgs_cons (pg_name (i := 7) nd rfl (.inl rfl)) pgs_nil)))
        (C8.pss_cut (ps_if (PW.pt (pw_and (pt_cmpR op_in_seq (pv 6) (pv 1) rfl) (pw_and1 (pt_cmpR op_ne (pe_meth (pv 0) T.cl M W hr bw .nil pass0 (pa_cons (pv 2) (pa_cons (pv 6) (pa_cons pe_bl pa_nil)))) (pv 7) (nomark _)))))
            (pss_one (ps_set (i := 4) nd rfl (.inl rfl) (pe_call JN (hr.mono (by decide)) rfl gJ kJ bJ .nil pass0 (pa_cons (pv 4) (pa_cons (pe_tup (pa_cons (pv 6) pa_nil)) pa_nil))))) pss_nil)
        (pss_one (ps_expr (pe_bm PySem.F.plainAttrs_list PySem.F.slot_list_append PySem.F.type_list_append mt_append (pv 5) (pa_cons (pe_tup (pa_cons (pv 6) (pa_cons (pv 4) pa_nil))) pa_nil))))))
      (pss_one (ps_ret (pe_lst (StX.pa_star (pv 5) (pa_cons (pe_tup (pa_cons (pe_ix ix_tup (pv 3) (pe_un un_neg pe_int) (fun _ _ => rfl)) (pa_cons (pv 4) pa_nil))) pa_nil))))))), ?_⟩
    have d6 := ok.d6
    have e2 := ok.e2
    -- changed = (), pairs = []
    refine ⟨by show 0 ≤ sizeLine; decide, fun c hc => ?_⟩
    have x1 : Evl.Ex H (upd H c (.tup [])) := Evl.Ex.new hc
    have c1 : (upd H c (.tup [])) c = some (.tup (([] : List Str).map V.str)) := upd_same
    generalize upd H c (.tup []) = H1 at x1 c1
    refine ⟨by show 0 ≤ sizeLine; decide, fun pl hp => ?_⟩
    have x2 : Evl.Ex H1 (upd H1 pl (.lst [])) := Evl.Ex.new hp
    have l2 : (upd H1 pl (.lst [])) pl = some (.lst []) := upd_same
    have hpl0 : H pl = none := ex_none x1 hp
    generalize upd H1 pl (.lst []) = H2 at x2 l2
    have x12 := x1.trans x2
    -- for place, later in zip(places, places[1:])
    refine ⟨.ref t, rfl, .ref t, rfl, 1, rfl, t, ws.map V.str, rfl, Evl.st_of (x12 _ _ ht), ?_, fun p hp3 => ?_⟩
    · rintro ⟨q, _⟩
      rw [show (some (1 : Int)) = some ((1 : Nat) : Int) from rfl, HT.sIx_nat, List.length_map] at q
      omega
    have ec : cutV (ws.map V.str) (some 1) none = (ws.drop 1).map V.str := by
      rw [show (some (1 : Int)) = some ((1 : Nat) : Int) from rfl, cut_drop, List.map_drop]
    rw [ec]
    have x3 : Evl.Ex H2 (upd H2 p (.tup ((ws.drop 1).map V.str))) := Evl.Ex.new hp3
    have p3 : (upd H2 p (.tup ((ws.drop 1).map V.str))) p = some (.tup ((ws.drop 1).map V.str)) := upd_same
    generalize upd H2 p (.tup ((ws.drop 1).map V.str)) = H3 at x3 p3
    have x13 := x12.trans x3
    refine ⟨t, p, _, _, rfl, .inr ⟨Evl.st_of (x13 _ _ ht), Evl.st_of p3, for_it (walk_zipT (xs := ws.map V.str) (ys := (ws.drop 1).map V.str) rfl)
      (fun i σ H' => ∃ (c : Addr) (cs : List Str) (ts : List (Addr × Addr)) (x6 x7 : Option V), σ = [some (.ref m), some (.ref b), some (.str e), some (.ref t), some (.ref c), some (.ref pl), x6, x7] ∧ Evl.Ex H H' ∧ H' p = some (.tup ((ws.drop 1).map V.str)) ∧ H' c = some (.tup (cs.map V.str)) ∧ H' pl = some (.lst (ts.map fun q => V.ref q.1)) ∧ cs.length ≤ i ∧ StepsIn H' ts (ws.take i))
      ⟨c, [], [], none, none, rfl, x13, p3, x3 _ _ (x2 _ _ c1), x3 _ _ l2, Nat.le_refl _, trivial⟩ (fun i σ H' _ ⟨_, _, _, _, _, _, x, h, _⟩ => ⟨Evl.st_of (x _ _ ht), Evl.st_of h⟩) ?_ ?_⟩⟩
    · rintro i x σ H4 H4' hi ⟨c, cs, ts, x6, x7, rfl, x4, p4, c4, l4, cl, rl⟩ ⟨T', xa, ya, rfl, hT, rfl, hx, hy⟩
      rw [List.length_map, List.length_map, List.length_drop] at hi
      obtain ⟨z, hz, rfl⟩ := str_at hx
      obtain ⟨y, hy', rfl⟩ := str_at hy
      have zd := hw z (List.mem_of_getElem? hz)
      have y5 : Evl.Ex H4 (upd H4 T' (.tup [.str z, .str y])) := Evl.Ex.new hT
      have t5 : (upd H4 T' (.tup [.str z, .str y])) T' = some (.tup [.str z, .str y]) := upd_same
      generalize upd H4 T' (.tup [.str z, .str y]) = H5 at y5 t5
      refine ⟨T', _, rfl, Evl.st_of t5, rfl, _, _, rfl, _, [], rfl, rfl, ?_⟩
      have x5 := x4.trans y5
      have c5 := y5 _ _ c4
      -- if place in lot and ..: changed = ..
      refine ⟨fun σ' H' => ∃ (c : Addr) (cs : List Str), σ' = [some (.ref m), some (.ref b), some (.str e), some (.ref t), some (.ref c), some (.ref pl), some (.str z), some (.str y)] ∧ Evl.Ex H5 H' ∧ H' c = some (.tup (cs.map V.str)) ∧ cs.length ≤ i + 1, ?_, ?_⟩
      · refine ⟨.str z, rfl, .ref b, rfl, b, zs.map V.str, rfl, .inr (Evl.st_of (x5 _ _ hb)), rfl, flat_strs zs, ?_⟩
        rw [inV_str]
        by_cases mz : z ∈ zs
        · rw [decide_eq_true mz]
          refine ⟨true, rfl, iteT ?_⟩
          obtain ⟨dx, T2, N', S, Po, rows0, h1, _⟩ := N.ex
          refine ⟨.ref m, rfl, m, dx, _, rfl, x5 _ _ h1, by kernel_rfl, .str e, rfl, .str z, rfl, m, e, z, false, ends, dots, ss, ps, o, n, rfl, N.to x5, by omega, he, zd, fun H6 x6' => ?_⟩
          have sc : scal (look (if false = true then n e else o e) z) (.str y) = true := by
            have := place_spot (look_ok t1 zd).1 ok.dm (ok.em e he)
            show scal (look (o e) z) (.str y) = true
            rcases this with q | ⟨y2, q, _⟩ <;> rw [q] <;> rfl
          refine ⟨.str y, rfl, sc, _, rfl, ?_⟩
          by_cases q : look (if false = true then n e else o e) z = .str y
          · rw [decide_eq_true q]
            exact iteF ⟨c, cs, rfl, x6', x6' _ _ c5, by omega⟩
          · rw [decide_eq_false q]
            refine iteT ?_
            have c6 := x6' _ _ c5
            refine ⟨.ref c, rfl, .str z, rfl, by show 1 ≤ sizeLine; decide, fun r hr0 => ?_⟩
            have y7 : Evl.Ex H6 (upd H6 r (.tup [.str z])) := Evl.Ex.new hr0
            have r7 : (upd H6 r (.tup [.str z])) r = some (.tup ([z].map V.str)) := upd_same
            generalize upd H6 r (.tup [.str z]) = H7 at y7 r7
            refine ⟨c, r, cs, [z], rfl, Evl.st_of (y7 _ _ c6), Evl.st_of r7, by show cs.length + 1 ≤ 60; omega, fun c2 H8 us y8 _ hc2 perm srd => ?_⟩
            exact ⟨c2, us, rfl, (x6'.trans y7).trans y8, hc2, by rw [perm.length_eq, List.length_append]; show cs.length + 1 ≤ i + 1; omega⟩
        · rw [decide_eq_false mz]
          exact ⟨false, rfl, iteF (iteF ⟨c, cs, rfl, Evl.Ex.refl _, c5, by omega⟩)⟩
      -- pairs.append((place, changed))
      · rintro σ' H6 ⟨c, cs, rfl, x6', c6, cl'⟩
        have l6 := x6' _ _ (y5 _ _ l4)
        have p6 := x6' _ _ (y5 _ _ p4)
        refine ⟨.ref pl, rfl, .inl ⟨rfl, _, Evl.sq_of l6⟩, .str z, rfl, .ref c, rfl, by show 2 ≤ sizeLine; decide, fun tt htt => ?_⟩
        have y7 : Evl.Ex H6 (upd H6 tt (.tup [.str z, .ref c])) := Evl.Ex.new htt
        have t7 : (upd H6 tt (.tup [.str z, .ref c])) tt = some (.tup [.str z, .ref c]) := upd_same
        generalize upd H6 tt (.tup [.str z, .ref c]) = H7 at y7 t7
        have tl : ts.length = i := by rw [rl.len, List.length_take]; omega
        have l7 := y7 _ _ l6
        refine ⟨pl, _, .ref tt, rfl, rfl, l7, small1000 (by rw [List.length_map]; omega), c, cs, ts ++ [(tt, c)], _, _, rfl, ((x5.trans x6').trans y7).mut hpl0, ?_, ?_, by rw [upd_same, List.map_append]; rfl, cl', ?_⟩
        · rw [upd_ne (ne_of (y7 _ _ p6) l7 (by intro t; cases t))]
          exact y7 _ _ p6
        · rw [upd_ne (ne_of (y7 _ _ c6) l7 (by intro t; cases t))]
          exact y7 _ _ c6
        · have kp : ∀ (Hz : Hp), Evl.Ex Hz H7 → ∀ (a : Addr) (xs : List V), Hz a = some (.tup xs) → (upd H7 pl (.lst (ts.map (fun q => V.ref q.1) ++ [.ref tt]))) a = some (.tup xs) := fun Hz xz a xs h => by
            rw [upd_ne (ne_of (xz _ _ h) l7 (by intro t; cases t))]
            exact xz _ _ h
          rw [List.take_add_one, hz]
          exact (rl.mono (kp H4 ((y5.trans x6').trans y7))).snoc (kp H7 (Evl.Ex.refl _) _ _ t7)
    · rintro σ H4 ⟨c, cs, ts, x6, x7, rfl, x4, p4, c4, l4, cl, rl⟩
      obtain ⟨us, z, rfl⟩ : ∃ us z, ws = us ++ [z] := ⟨_, _, (List.dropLast_concat_getLast (fun q => by rw [q] at wl; exact Nat.lt_irrefl 0 wl)).symm⟩
      have et : (us ++ [z]).take (min ((us ++ [z]).map V.str).length (((us ++ [z]).drop 1).map V.str).length) = us := by
        rw [List.length_map, List.length_map, List.length_drop, List.length_append, List.length_singleton, show min (us.length + 1) (us.length + 1 - 1) = us.length by omega]
        exact List.take_left
      rw [et] at rl
      have tl := rl.len
      rw [List.length_append, List.length_singleton] at wl2
      have t4 := x4 _ _ ht
      rw [List.map_append] at t4
      refine ⟨.ref pl, rfl, pl, _, rfl, .inr (Evl.sq_of l4), .ref t, rfl, 1, rfl, t, _, -1, .str z, rfl, rfl, Evl.st_of t4, atI_last _ _, .ref c, rfl, by show 2 ≤ sizeLine; decide, fun tt htt => ⟨?_, fun r hr0 => ?_⟩⟩
      · rw [List.length_append, List.length_map]
        exact Nat.le_of_lt (small1000 (by show ts.length + 1 ≤ 1000; omega))
      · have y5 : Evl.Ex H4 (upd H4 tt (.tup [.str z, .ref c])) := Evl.Ex.new htt
        have t5 : (upd H4 tt (.tup [.str z, .ref c])) tt = some (.tup [.str z, .ref c]) := upd_same
        generalize upd H4 tt (.tup [.str z, .ref c]) = H5 at y5 t5 hr0
        have y6 : Evl.Ex H5 (upd H5 r (.lst (ts.map (fun q => V.ref q.1) ++ [.ref tt]))) := Evl.Ex.new hr0
        refine k r _ ((x4.trans y5).trans y6) ⟨ts ++ [(tt, c)], by rw [upd_same, List.map_append]; rfl, ?_⟩
        exact (rl.mono fun a xs h => (y5.trans y6) _ _ h).snoc (y6 _ _ t5)
end
end Rw
end T_R4

section T_R5
set_option Elab.async false
set_option linter.all false
set_option maxRecDepth 100000
set_option maxHeartbeats 4000000
namespace Rw
open PySem L2 PyProof.Rows
/-! ### twice -/
/-- from z on a node can come again -/
def Twi (dots : List Str) (f : Str → List V) (z : Str) : Prop := ∃ r, IsWay dots f (z :: r) ∧ ¬ (z :: r).Nodup
structure Beg (dots : List Str) (f : Str → List V) (z : Str) (k : Nat) (L : List (List Str)) : Prop where
  all : ∀ p, p ∈ L ↔ (IsWay dots f p ∧ p.length = k + 1 ∧ ∃ r, p = z :: r)
  nod : ∀ r, IsWay dots f (z :: r) → (z :: r).length ≤ k + 1 → (z :: r).Nodup
  few : L.length ≤ 2 ^ k
section
variable {dots : List Str} {f : Str → List V} {z : Str}
theorem beg_start (hz : z ∈ dots) : Beg dots f z 0 [[z]] := by
  refine ⟨fun p => ⟨fun h => ?_, fun ⟨_, h2, r, e⟩ => ?_⟩, fun r _ hl => ?_, Nat.le_refl _⟩
  · rw [List.mem_singleton.mp h]
    exact ⟨isWay_one hz, rfl, [], rfl⟩
  · subst e
    have : r = [] := List.eq_nil_of_length_eq_zero (by rw [List.length_cons] at h2; omega)
    rw [this]
    exact List.mem_singleton.mpr rfl
  · have : r = [] := List.eq_nil_of_length_eq_zero (by rw [List.length_cons] at hl; omega)
    rw [this]
    exact List.nodup_cons.mpr ⟨by simp, List.nodup_nil⟩
theorem beg_len {k : Nat} {p : List Str} {L : List (List Str)} (h : Beg dots f z k L) (hp : p ∈ L) : k + 1 ≤ dots.length := by
  obtain ⟨h1, h2, r, e⟩ := (h.all p).mp hp
  subst e
  rw [← h2]
  exact nodup_le _ dots (h.nod r h1 (Nat.le_of_eq h2)) (isWay_dots h1)
theorem beg_hit {k : Nat} {p : List Str} {L : List (List Str)} {y : Str} (h : Beg dots f z k L) (hp : p ∈ L) (hy : y ∈ p) (hv : V.str y ∈ f (lastP p)) : Twi dots f z := by
  obtain ⟨h1, h2, r, e⟩ := (h.all p).mp hp
  subst e
  refine ⟨r ++ [y], (isWay_snoc (by simp)).mpr ⟨h1, hv, isWay_dots h1 y hy⟩, fun n => ?_⟩
  rw [← List.cons_append] at n
  exact (List.nodup_append.mp n).2.2 y hy y (List.mem_singleton.mpr rfl) rfl
theorem snoc_cases {r : List Str} : (z :: r) ≠ [z] → ∃ p y, p ≠ [] ∧ z :: r = p ++ [y] ∧ ∃ s, p = z :: s := fun n => by
  have ne : r ≠ [] := fun e => n (by rw [e])
  refine ⟨z :: r.dropLast, r.getLast ne, by simp, ?_, _, rfl⟩
  rw [List.cons_append, List.dropLast_concat_getLast]
theorem beg_end {k : Nat} (h : Beg dots f z k []) : ¬ Twi dots f z := by
  rintro ⟨r, h1, h2⟩
  by_cases q : (z :: r).length ≤ k + 1
  · exact h2 (h.nod r h1 q)
  · have pre : IsWay dots f ((z :: r).take (k + 1)) := by
      have e := (List.take_append_drop (k + 1) (z :: r)).symm
      rw [e] at h1
      exact isWay_pre (fun t => by have := congrArg List.length t; rw [List.length_take, List.length_nil] at this; omega) h1
    have := (h.all ((z :: r).take (k + 1))).mpr ⟨pre, by rw [List.length_take]; omega, r.take k, rfl⟩
    cases this
def onward (dots : List Str) (f : Str → List V) (p : List Str) : List (List Str) := (behind dots f (lastP p)).map fun y => p ++ [y]
theorem flat_few : ∀ {L : List (List Str)}, (∀ p ∈ L, (onward dots f p).length ≤ 2) → (L.flatMap (onward dots f)).length ≤ 2 * L.length
  | [], _ => Nat.le_refl _
  | p :: L, h => by
    have := flat_few fun q hq => h q (List.mem_cons_of_mem _ hq)
    have := h p List.mem_cons_self
    rw [List.flatMap_cons, List.length_append, List.length_cons]
    omega
theorem beg_next {k : Nat} {L : List (List Str)} (h : Beg dots f z k L) (two : ∀ y ∈ dots, (f y).length ≤ 2) (hno : ∀ p ∈ L, ∀ y ∈ p, V.str y ∉ f (lastP p)) : Beg dots f z (k + 1) (L.flatMap (onward dots f)) := by
  have lp : ∀ p ∈ L, p ≠ [] ∧ lastP p ∈ dots := fun p hp => by
    obtain ⟨h1, _, r, e⟩ := (h.all p).mp hp
    subst e
    exact ⟨by simp, isWay_dots h1 _ (last_in r z)⟩
  refine ⟨fun p => ⟨fun hp => ?_, fun ⟨h1, h2, r, e⟩ => ?_⟩, fun r h1 hl => ?_, ?_⟩
  · obtain ⟨q, hq, hp⟩ := List.mem_flatMap.mp hp
    obtain ⟨y, hy, rfl⟩ := List.mem_map.mp hp
    obtain ⟨h1, h2, r, e⟩ := (h.all q).mp hq
    obtain ⟨b1, b2⟩ := mem_behind.mp hy
    refine ⟨(isWay_snoc (lp q hq).1).mpr ⟨h1, b1, b2⟩, by rw [List.length_append, h2]; rfl, r ++ [y], by rw [e]; rfl⟩
  · subst e
    obtain ⟨p, y, ne, e, s, es⟩ := snoc_cases (z := z) (r := r) fun q => by rw [q] at h2; rw [List.length_singleton] at h2; omega
    rw [e] at h1 h2 ⊢
    obtain ⟨w1, w2, w3⟩ := (isWay_snoc ne).mp h1
    rw [List.length_append, List.length_singleton] at h2
    exact List.mem_flatMap.mpr ⟨p, (h.all p).mpr ⟨w1, by omega, s, es⟩, List.mem_map.mpr ⟨y, mem_behind.mpr ⟨w2, w3⟩, rfl⟩⟩
  · by_cases q : (z :: r).length ≤ k + 1
    · exact h.nod r h1 q
    · obtain ⟨p, y, ne, e, s, es⟩ := snoc_cases (z := z) (r := r) fun q2 => by rw [q2] at q; rw [List.length_singleton] at q; omega
      rw [e] at h1 hl q ⊢
      obtain ⟨w1, w2, w3⟩ := (isWay_snoc ne).mp h1
      rw [List.length_append, List.length_singleton] at hl q
      have mp : p ∈ L := (h.all p).mpr ⟨w1, by omega, s, es⟩
      refine List.nodup_append.mpr ⟨?_, List.nodup_cons.mpr ⟨by simp, List.nodup_nil⟩, fun a ha b hb e2 => ?_⟩
      · subst es
        exact h.nod s w1 (by omega)
      · rw [List.mem_singleton.mp hb] at e2
        subst e2
        exact hno p mp a ha w2
  · have fl := flat_few (dots := dots) (f := f) (L := L) fun p hp => by
      unfold onward
      rw [List.length_map]
      exact Nat.le_trans (List.length_filterMap_le _ _) (two _ (lp p hp).2)
    have := h.few
    rw [Nat.pow_succ]
    omega
theorem inV_nonT : ∀ zs : List Str, inV .non (zs.map V.str) = false
  | [] => rfl
  | z :: r => by
    show (eqV (V.str z) .non || inV .non (r.map V.str)) = false
    rw [inV_nonT r]
    rfl
end
section
variable {P : Program} {w : World} {K : PySem.W.Frag} {mg : Str → Option Value} {base : Heap}
def spTwice (C : Addr) : Sp := fun vs H Q _ => ∃ (m a b : Addr) (e z : Str) (zs ys ends dots ss ps : List Str) (o n : Str → List (Str × V)), vs = [.ref m, .ref a, .ref b, .str e, .str z] ∧ NetAt C H m ends dots ss ps o n ∧ ModelOk ends dots ss ps ∧ e ∈ ends ∧ z ∈ dots ∧ TabOk dots e (o e) ∧ TabOk dots e (n e) ∧
  LotAt H a zs (moving ends dots o n) ∧ LotAt H b ys (moving ends dots o n) ∧ (∀ y ∈ ys, y ∉ zs) ∧ ∀ v H', Evl.Ex H H' → ((v = .non ∧ ¬ Twi dots (spotsOf (o e) (n e) zs ys) z) ∨ ∃ (a : Addr) (s : List Str) (y : Str), v = .ref a ∧ IsWay dots (spotsOf (o e) (n e) zs ys) (z :: s) ∧ (z :: s).Nodup ∧ V.str y ∈ spotsOf (o e) (n e) zs ys (lastS z s) ∧ y ∈ z :: s ∧ StepsAt H' a (z :: s ++ [y])) → Q v H'
abbrev nTwice : List Str := ["net", "done", "lot", "goal", "node", "mixture", "paths", "path", "place", "begun", "behind"]
theorem sc_twice : FnScope nTwice ["net", "done", "lot", "goal", "node"] (defScope p_twice) := ⟨rfl, rfl, rfl, by decide +kernel, rfl, by decide +kernel, by decide +kernel⟩
theorem ok_twice {f C : Addr} {fd : FuncData} (F : Fun K "twice" "twice" p_twice f fd) (C1 : Cal P w K mg base 6 "ways" ["net", "done", "lot", "goal"] (spMix C)) (C2 : Cal P w K mg base 1 "nodes_behind" ["mixture", "node"] spBehind) (C3 : Cal P w K mg base 3 "check_node" ["net", "node"] (spCheckDot C))
    (C4 : Cal P w K mg base 5 "with_moments" ["net", "lot", "goal", "places"] (spMoments C)) : FnOk P w K mg base CX0 7 f fd ["net", "done", "lot", "goal", "node"] (spTwice C) := by
  obtain ⟨f1, fd1, F1, k1, b1, g1⟩ := C1.ex
  obtain ⟨f2, fd2, F2, k2, b2, g2⟩ := C2.ex
  obtain ⟨f3, fd3, F3, k3, b3, g3⟩ := C3.ex
  obtain ⟨f4, fd4, F4, k4, b4, g4⟩ := C4.ex
  refine F.ok sc_twice (fun vs H Q E h => ?_) (fun cdv A outer s H vs Q E hr h => ?_)
  · obtain ⟨m, a, b, e, z, zs, ys, ends, dots, ss, ps, o, n, rfl, _⟩ := h
    rfl
  · obtain ⟨m, a, b, e, z, zs, ys, ends, dots, ss, ps, o, n, rfl, N, ok, he, hz, t1, t2, La, Lb, dis, k⟩ := h
    have nd := sc_twice.nd
    have hu := hu_of hr
    have hr1 : Room 1 _ := hr.mono (by decide)
    have hr3 : Room 3 _ := hr.mono (by decide)
    have hr5 : Room 5 _ := hr.mono (by decide)
    refine ⟨_, pss_cons (ps_set (i := 5) nd rfl (.inr rfl) (pe_call F1 hr rfl g1 k1 b1 .nil pass0 (pa_cons (pv 0) (pa_cons (pv 1) (pa_cons (pv 2) (pa_cons (pv 3) pa_nil))))))
      (pss_cons (ps_expr (pe_call F3 hr3 rfl g3 k3 b3 .nil pass0 (pa_cons (pv 0) (pa_cons (pv 4) pa_nil))))
      (pss_cons (ps_set (i := 6) nd rfl (.inl rfl) (pe_lst (pa_cons (pe_tup (pa_cons (pv 4) pa_nil)) pa_nil)))
      (pss_cons (ps_while PassesOwn.never (pt_truth (pv 6) (fun _ => rfl))
        (pss_cons (ps_for PassesOwn.never rfl (pi_list (pv 6)) (pg_name (i := 7) nd rfl (.inl rfl))
          (pss_one (ps_for PassesOwn.never rfl (pi_list (pe_dget hu (pv 5) (pe_ix ix_tup (pv 7) (pe_un un_neg pe_int) (fun _ _ => rfl)) (fun _ _ => rfl))) (pg_name (i := 8) nd rfl (.inl rfl))
            (pss_one (ps_if (pt_cmpR op_in_seq (pv 8) (pv 7) rfl) (pss_one (ps_ret (pe_call F4 hr5 rfl g4 k4 b4 .nil pass0 (pa_cons (pv 0) (pa_cons (pv 2) (pa_cons (pv 3) (pa_cons (pe_tup (StX.pa_star (pv 7) (pa_cons (pv 8) pa_nil))) pa_nil))))))) pss_nil)))))
        (pss_one (ps_setLc2 (i := 6) (own := [("begun", 9), ("behind", 10)]) (vs1 := [10]) (g := gName 9) (tt := tYes) (g1 := gName 10) (tt1 := tYes) (wi1 := iList K (tCall spBehind [] E0 (tCons (tVar 5) (tCons (tLastOf K 9) tNil)))) (te := tTup (StX.tStar K (tVar 9) (tCons (tVar 10) tNil)))
          (by rfl) nd rfl rfl (sw_true rfl rfl rfl (by decide +kernel)) (pi_list (pv 6)) (blkOk_by (own := [("begun", 9), ("behind", 10)]) (N := nTwice) (sc := defScope p_twice) (by decide +kernel)) (by decide)
          (fun _ _ _ _ _ => pg_name (i := 9) nd rfl (Or.inl rfl)) (fun _ _ _ _ _ => pts_nil)
          (fun _ _ _ _ _ => pi_list (pe_call F2 hr1 rfl g2 k2 b2 .nil pass0 (pa_cons (pv 5) (pa_cons (pe_ix ix_tup (pv 9) (pe_un un_neg pe_int) (fun _ _ => rfl)) pa_nil))))
          (fun _ _ _ _ _ => pg_name (i := 10) nd rfl (Or.inl rfl)) (fun _ _ _ _ _ => pts_nil)
          (fun _ _ _ _ _ => pe_tup (StX.pa_star (pv 9) (pa_cons (pv 10) pa_nil)))))))
      (pss_one (ps_ret pe_non))))), ?_⟩
    have d6 := ok.d6
    have e2 := ok.e2
    have W : Webs dots (spotsOf (o e) (n e) zs ys) := webs_of ok he t1 t2
    generalize hf : spotsOf (o e) (n e) zs ys = f at W k
    -- mixture
    refine ⟨.ref m, rfl, .ref a, rfl, .ref b, rfl, .str e, rfl, m, a, b, e, zs, ys, ends, dots, ss, ps, o, n, rfl, N, ok, he, La, Lb, dis, fun D H1 x1 hD M => ?_⟩
    rw [hf] at M
    -- check_node
    refine ⟨.ref m, rfl, .str z, rfl, m, z, ends, dots, ss, ps, o, n, rfl, N.to x1, hz, ?_⟩
    -- paths = [(node,)]
    refine ⟨.str z, rfl, by show 1 ≤ sizeLine; decide, fun t0 ht0 => ⟨by show 1 ≤ sizeLine; decide, fun R0 hR0 => ?_⟩⟩
    have y1 : Evl.Ex H1 (upd H1 t0 (.tup [.str z])) := Evl.Ex.new ht0
    have q1 : (upd H1 t0 (.tup [.str z])) t0 = some (.tup ([z].map V.str)) := upd_same
    generalize upd H1 t0 (.tup [.str z]) = H2 at y1 q1 hR0
    have y2 : Evl.Ex H2 (upd H2 R0 (.lst [.ref t0])) := Evl.Ex.new hR0
    have p2 : (upd H2 R0 (.lst [.ref t0])) R0 = some (.lst ([(t0, [z])].map fun q => V.ref q.1)) := upd_same
    generalize upd H2 R0 (.lst [.ref t0]) = H3 at y2 p2
    have x3 := y1.trans y2
    have M3 : MixR H3 D dots f := M.r.to x3
    have tu3 : TupsAt H3 [(t0, [z])] := fun q hq => by rw [List.mem_singleton.mp hq]; exact y2 _ _ q1
    -- while paths
    refine ⟨fun m' σ H' => ∃ (c : Nat) (L : List (Addr × List Str)) (R : Addr) (x7 x8 : Option V), σ = [some (.ref m), some (.ref a), some (.ref b), some (.str e), some (.str z), some (.ref D), some (.ref R), x7, x8, none, none] ∧ m' + c = dots.length + 1 ∧ H' R = some (.lst (L.map fun q => V.ref q.1)) ∧ TupsAt H' L ∧
      Beg dots f z c (L.map (·.2)) ∧ Evl.Ex H H' ∧ MixR H' D dots f, ⟨dots.length + 1, 0, [(t0, [z])], R0, none, none, rfl, rfl, p2, tu3, beg_start hz, x1.trans x3, M3⟩, ?_⟩
    clear p2 tu3 q1
    rintro m' σ H4 ⟨c, L, R, x7, x8, rfl, hm, hR, tu, lay, x4, M4⟩
    refine ⟨.ref R, rfl, !(L.map fun q => V.ref q.1).isEmpty, .inl ⟨_, Evl.sq_of hR, rfl⟩, ?_⟩
    cases L with
    | nil => exact iteF (k .non H4 x4 (.inl ⟨rfl, beg_end lay⟩))
    | cons q0 L0 =>
      refine iteT ⟨_, fun _ _ h => h, ?_⟩
      have cl := beg_len lay (List.mem_map_of_mem (f := Prod.snd) List.mem_cons_self)
      generalize hL : q0 :: L0 = L at *
      have few : L.length ≤ 32 := by
        have h1 := lay.few
        rw [List.length_map] at h1
        have h2 : 2 ^ c ≤ 2 ^ 5 := Nat.pow_le_pow_right (by decide) (by omega)
        exact Nat.le_trans h1 h2
      -- a row's last node
      have row : ∀ q ∈ L, ∃ (x : Str) (r : List Str), q.2 = x :: r ∧ lastS x r ∈ dots ∧ (∀ y ∈ q.2, y ∈ dots) ∧ q.2.length = c + 1 := fun q hq => by
        obtain ⟨w1, w2, r, e⟩ := (lay.all q.2).mp (List.mem_map_of_mem hq)
        refine ⟨z, r, e, isWay_dots w1 _ (by rw [e]; exact last_in r z), isWay_dots w1, w2⟩
      -- for path in paths
      refine ⟨.ref R, rfl, R, rfl, ⟨_, Evl.sq_of hR⟩, for_list (K := K) (a := R) (xs := L.map fun q => V.ref q.1)
        (fun i σ H' => H' = H4 ∧ ∃ x7 x8 : Option V, σ = [some (.ref m), some (.ref a), some (.ref b), some (.str e), some (.str z), some (.ref D), some (.ref R), x7, x8, none, none] ∧ ∀ p ∈ (L.take i).map (·.2), ∀ y ∈ p, V.str y ∉ f (lastP p))
        ⟨rfl, _, _, rfl, fun p hp => nomatch hp⟩ (fun i σ H' _ h => by rw [h.1]; exact Evl.sq_of hR) ?_ ?_⟩
      · rintro i v σ H' hi ⟨rfl, x7', x8', rfl, hno⟩
        obtain ⟨q, hq, rfl⟩ := refs_at hi
        have mq := List.mem_of_getElem? hq
        obtain ⟨x, r, eq, ld, sub, lq⟩ := row q mq
        have tq : H' q.1 = some (.tup ((x :: r).map V.str)) := by rw [← eq]; exact tu q mq
        obtain ⟨l, gl, hl⟩ := M4.get ld
        -- for place in mixture[path[-1]]
        refine ⟨.ref D, rfl, .ref q.1, rfl, 1, rfl, q.1, _, -1, _, rfl, rfl, Evl.st_of tq, at_last, D, .ref l, rfl, gl, l, rfl, ⟨_, Evl.sq_of hl⟩, for_list (K := K) (a := l) (xs := f (lastS x r))
          (fun j σ H2' => H2' = H' ∧ ∃ x8 : Option V, σ = [some (.ref m), some (.ref a), some (.ref b), some (.str e), some (.str z), some (.ref D), some (.ref R), some (.ref q.1), x8, none, none] ∧ ∀ y ∈ q.2, V.str y ∉ (f (lastS x r)).take j)
          ⟨rfl, _, rfl, fun y _ hy => nomatch hy⟩ (fun j σ H2' _ h => by rw [h.1]; exact Evl.sq_of hl) ?_ ?_⟩
        · rintro j v σ H2' hj ⟨rfl, x8'', rfl, hno2⟩
          have et : (f (lastS x r)).take (j + 1) = (f (lastS x r)).take j ++ [v] := by rw [List.take_add_one, hj]; rfl
          have go : ∀ t : Prop, (∀ y ∈ q.2, V.str y ≠ v) → ∃ x8 : Option V, [some (V.ref m), some (.ref a), some (.ref b), some (.str e), some (.str z), some (.ref D), some (.ref R), some (.ref q.1), some v, none, none] = [some (.ref m), some (.ref a), some (.ref b), some (.str e), some (.str z), some (.ref D), some (.ref R), some (.ref q.1), x8, none, none] ∧ ∀ y ∈ q.2, V.str y ∉ (f (lastS x r)).take (j + 1) := fun _ nv => by
            refine ⟨_, rfl, fun y hy hm => ?_⟩
            rw [et] at hm
            rcases List.mem_append.mp hm with hm | hm
            · exact hno2 y hy hm
            · exact nv y hy (List.mem_singleton.mp hm)
          rcases W.sp _ ld v (List.mem_of_getElem? hj) with rfl | ⟨y, rfl, _⟩
          · refine ⟨.non, rfl, .ref q.1, rfl, q.1, _, rfl, .inr (Evl.st_of tq), rfl, flat_strs _, ?_⟩
            rw [inV_nonT]
            exact ⟨false, rfl, iteF ⟨rfl, go True fun y _ e => nomatch e⟩⟩
          · refine ⟨.str y, rfl, .ref q.1, rfl, q.1, _, rfl, .inr (Evl.st_of tq), rfl, flat_strs _, ?_⟩
            rw [inV_str, ← eq]
            by_cases my : y ∈ q.2
            · rw [decide_eq_true my]
              refine ⟨true, rfl, iteT ?_⟩
              refine ⟨.ref m, rfl, .ref b, rfl, .str e, rfl, .ref q.1, rfl, q.1, _, rfl, .inl (Evl.st_of (tu q mq)), .str y, rfl, ?_, fun t ht => ?_⟩
              · rw [List.length_append, List.length_map]
                exact Nat.le_of_lt (small1000 (by show q.2.length + 1 ≤ 1000; omega))
              have y5 : Evl.Ex H2' (upd H2' t (.tup (q.2.map V.str ++ [.str y]))) := Evl.Ex.new ht
              have t5 : (upd H2' t (.tup (q.2.map V.str ++ [.str y]))) t = some (.tup ((q.2 ++ [y]).map V.str)) := by rw [upd_same, List.map_append]; rfl
              generalize upd H2' t (.tup (q.2.map V.str ++ [.str y])) = H5 at y5 t5
              have x5 := x4.trans y5
              refine ⟨m, b, t, e, ys, q.2 ++ [y], ends, dots, ss, ps, o, n, rfl, N.to x5, ok, he, t1, x5 _ _ Lb.ha, t5, by rw [List.length_append]; show 0 < q.2.length + 1; omega, by rw [List.length_append]; show q.2.length + 1 ≤ 10; omega, fun u hu => ?_, fun A' H6 x6 st => ?_⟩
              · rcases List.mem_append.mp hu with hu | hu
                · exact sub u hu
                · rw [List.mem_singleton.mp hu]; exact sub y my
              · obtain ⟨w1, w2, s', es⟩ := (lay.all q.2).mp (List.mem_map_of_mem mq)
                have e2 := eq.symm.trans es
                injection e2 with e3 e4
                subst e3 e4
                rw [es] at w1 my st w2
                exact k _ H6 (x5.trans x6) (.inr ⟨A', r, y, rfl, w1, lay.nod r w1 (Nat.le_of_eq w2), List.mem_of_getElem? hj, my, st⟩)
            · rw [decide_eq_false my]
              exact ⟨false, rfl, iteF ⟨rfl, go True fun y2 h2 e => my (by rw [← V.str.inj e]; exact h2)⟩⟩
        · rintro σ H2' ⟨rfl, x8'', rfl, hno2⟩
          rw [List.take_length] at hno2
          refine ⟨rfl, _, _, rfl, fun p hp => ?_⟩
          rw [List.take_add_one, hq, List.map_append] at hp
          rcases List.mem_append.mp hp with hp | hp
          · exact hno p hp
          · have e' : p = q.2 := List.mem_singleton.mp hp
            rw [e']
            intro y hy
            have := hno2 y hy
            rw [eq]
            exact this
      · rintro σ H' ⟨rfl, x7', x8', rfl, hno⟩
        rw [List.length_map, List.take_length] at hno
        -- the next paths
        refine ⟨.ref R, rfl, R, rfl, ⟨_, Evl.sq_of hR⟩, fun R2 hR2 => lc2_out (walk_list (xs := L.map fun q => V.ref q.1))
          (fun i H5 => Evl.Ex H' H5 ∧ ∃ L2 : List (Addr × List Str), H5 R2 = some (.lst (L2.map fun q => V.ref q.1)) ∧ TupsAt H5 L2 ∧ L2.map (·.2) = ((L.take i).map (·.2)).flatMap (onward dots f) ∧ L2.length ≤ 2 * i)
          ⟨Evl.Ex.new hR2, [], upd_same, (fun q hq => nomatch hq), rfl, Nat.le_refl _⟩ (fun i H5 _ h => Evl.sq_of (h.1 _ _ hR)) ?_ ?_⟩
        · rintro i v H5 H5' hi ⟨x5, L2, p2, tu2, eL2, l2⟩ ⟨rfl, hv⟩
          rw [List.length_map] at hi
          obtain ⟨q, hq, rfl⟩ := refs_at hv
          have mq := List.mem_of_getElem? hq
          obtain ⟨x, r, eq, ld, sub, lq⟩ := row q mq
          have tq : H5' q.1 = some (.tup ((x :: r).map V.str)) := by rw [← eq]; exact x5 _ _ (tu q mq)
          refine ⟨rfl, ?_⟩
          refine yes_if ?_
          refine ⟨.ref D, rfl, .ref q.1, rfl, 1, rfl, q.1, _, -1, _, rfl, rfl, Evl.st_of tq, at_last, D, lastS x r, dots, f, rfl, M4.to x5, ld, W, fun bl H6 x6 hbl b6 => ?_⟩
          have bl2 : (behind dots f (lastS x r)).length ≤ 2 := Nat.le_trans (List.length_filterMap_le _ _) (W.two _ ld)
          refine ⟨bl, rfl, ⟨_, Evl.sq_of b6⟩, lc2_in (walk_list (xs := (behind dots f (lastS x r)).map V.str))
            (fun j H8 => Evl.Ex H' H8 ∧ H8 bl = some (.lst ((behind dots f (lastS x r)).map V.str)) ∧ ∃ L3 : List (Addr × List Str), H8 R2 = some (.lst (L3.map fun q => V.ref q.1)) ∧ TupsAt H8 L3 ∧ L3.map (·.2) = L2.map (·.2) ++ ((behind dots f (lastS x r)).take j).map (fun y => q.2 ++ [y]) ∧ L3.length ≤ 2 * i + j)
            ⟨x5.trans x6, b6, L2, x6 _ _ p2, tu2.to x6, by rw [List.take_zero]; exact (List.append_nil _).symm, l2⟩ (fun j H8 _ h => Evl.sq_of h.2.1) ?_ ?_⟩
          · rintro j v H8 H8' hj ⟨x8, s8, L3, p3, tu3, eL3, l3⟩ ⟨rfl, hv8⟩
            obtain ⟨y, hy, rfl⟩ := str_at hv8
            rw [List.length_map] at hj
            refine ⟨rfl, ?_⟩
            refine yes_if ?_
            have tq8 := x8 _ _ (tu q mq)
            have nSR : bl ≠ R2 := (ne_of_none p2 hbl).symm
            refine ⟨.ref q.1, rfl, q.1, _, rfl, .inl (Evl.st_of tq8), .str y, rfl, ?_, fun t ht => ?_⟩
            · rw [List.length_append, List.length_map]
              exact Nat.le_of_lt (small1000 (by show q.2.length + 1 ≤ 1000; omega))
            · have y9 : Evl.Ex H8' (upd H8' t (.tup (q.2.map V.str ++ [.str y]))) := Evl.Ex.new ht
              have t9 : (upd H8' t (.tup (q.2.map V.str ++ [.str y]))) t = some (.tup ((q.2 ++ [y]).map V.str)) := by rw [upd_same, List.map_append]; rfl
              generalize upd H8' t (.tup (q.2.map V.str ++ [.str y])) = H9 at y9 t9
              refine ⟨_, y9 _ _ p3, by rw [List.length_map]; exact small1000 (by omega), (x8.trans y9).mut hR2, by rw [upd_ne nSR]; exact y9 _ _ s8, L3 ++ [(t, q.2 ++ [y])], ?_, tups_put (tups_snoc (tu3.to y9) t9) (y9 _ _ p3), ?_, ?_⟩
              · rw [upd_same, List.map_append]
                rfl
              · rw [List.map_append, eL3, List.take_add_one, hy, List.map_append, List.append_assoc]
                rfl
              · rw [List.length_append]
                show L3.length + 1 ≤ _
                omega
          · rintro H8 ⟨x8, s8, L3, p3, tu3, eL3, l3⟩
            rw [List.length_map, List.take_length] at eL3
            rw [List.length_map] at l3
            refine ⟨x8, L3, p3, tu3, ?_, by omega⟩
            rw [List.take_add_one, hq, List.map_append, List.flatMap_append, eL3, eL2]
            show _ = _ ++ (onward dots f q.2 ++ [])
            rw [List.append_nil]
            unfold onward
            rw [eq]
            rfl
        · rintro H5 ⟨x5, L2, p2, tu2, eL2, l2⟩
          rw [List.length_map, List.take_length] at eL2
          refine ⟨m' - 1, by omega, c + 1, L2, R2, _, _, rfl, by omega, p2, tu2, ?_, x4.trans x5, M4.to x5⟩
          rw [eL2]
          exact beg_next lay (fun y hy => W.two y hy) hno
end
end Rw
end T_R5

section T_O0
set_option Elab.async false
set_option linter.all false
set_option maxRecDepth 100000
set_option maxHeartbeats 4000000
namespace Rw
open PySem L2 PyProof.Rows
/-! ### a table with another place -/
theorem tkv_val {tb : List (Str × V)} {z : Str} {v : V} (nd : (tb.map (·.1)).Nodup) (h : (z, v) ∈ tb) : valV (tkv tb) (Sum.inr z) = some v := by
  obtain ⟨u, hu, hm⟩ := tkv_some (tb := tb) (z := z) (List.mem_map_of_mem (f := (·.1)) h)
  obtain ⟨i, hi, ei⟩ := List.getElem_of_mem h
  obtain ⟨j, hj, ej⟩ := List.getElem_of_mem hm
  have a : (tb.map (·.1))[i]? = some z := by rw [List.getElem?_map, List.getElem?_eq_getElem hi, ei]; rfl
  have b : (tb.map (·.1))[j]? = some z := by rw [List.getElem?_map, List.getElem?_eq_getElem hj, ej]; rfl
  have ij : i = j := (List.getElem?_inj (by rw [List.length_map]; exact hi) nd).mp (a.trans b.symm)
  subst ij
  have q := ei.symm.trans ej
  rw [hu, (Prod.mk.inj q).2]
def setV (t : List (Str × V)) (z : Str) (v : V) : List (Str × V) := t.map fun q => if q.1 = z then (q.1, v) else q
theorem setV_keys (t : List (Str × V)) (z : Str) (v : V) : (setV t z v).map (·.1) = t.map (·.1) := by
  unfold setV
  rw [List.map_map]
  refine List.map_congr_left fun q _ => ?_
  show (if q.1 = z then (q.1, v) else q).1 = q.1
  split <;> rfl
theorem setV_put {t : List (Str × V)} {z : Str} (v : V) (h : z ∈ t.map (·.1)) : putK (tkv t) (Sum.inr z) v = tkv (setV t z v) := by
  obtain ⟨u, hu, _⟩ := tkv_some h
  have a : ((tkv t).any fun kv => decide (kv.1 = Sum.inr z)) = true := by rw [valV_any, hu]; rfl
  unfold putK
  rw [if_pos a]
  unfold tkv setV
  rw [List.map_map, List.map_map]
  refine List.map_congr_left fun q _ => ?_
  show (if (Sum.inr q.1 : Key) = Sum.inr z then ((Sum.inr q.1 : Key), v) else (Sum.inr q.1, q.2)) = (Sum.inr (if q.1 = z then (q.1, v) else q).1, (if q.1 = z then (q.1, v) else q).2)
  by_cases e : q.1 = z
  · rw [if_pos e, if_pos (by rw [e])]
  · rw [if_neg e, if_neg (fun w => e (Sum.inr.inj w))]
theorem setV_get {t : List (Str × V)} {z y : Str} {v : V} (h : z ∈ t.map (·.1)) : valV (tkv (setV t z v)) (Sum.inr y) = if y = z then some v else valV (tkv t) (Sum.inr y) := by
  rw [← setV_put v h, valV_put]
  by_cases e : y = z
  · rw [if_pos e, if_pos (by rw [e])]
  · rw [if_neg e, if_neg (fun w => e (Sum.inr.inj w))]
theorem setV_ok {dots : List Str} {e z : Str} {t : List (Str × V)} {v : V} (h : TabOk dots e t) (hv : PlaceOk dots e z v) : TabOk dots e (setV t z v) := by
  refine ⟨by rw [setV_keys]; exact h.ks, fun q hq => ?_⟩
  unfold setV at hq
  obtain ⟨u, hu, rfl⟩ := List.mem_map.mp hq
  by_cases e' : u.1 = z
  · rw [if_pos e', e']
    exact hv
  · rw [if_neg e']
    exact h.ps u hu
theorem canon_setV {dots : List Str} {e z : Str} {t : List (Str × V)} {v : V} (h : TabOk dots e t) (hz : z ∈ dots) : canon dots (setV t z v) = setV (canon dots t) z v := by
  unfold canon setV
  rw [List.map_map]
  refine List.map_congr_left fun y hy => ?_
  have g := setV_get (t := t) (z := z) (y := y) (v := v) (h.ks.mem_iff.mpr hz)
  unfold setV at g
  show (y, _) = if y = z then (y, v) else (y, _)
  rw [g]
  by_cases e' : y = z
  · rw [if_pos e', if_pos e']
    rfl
  · rw [if_neg e', if_neg e']
theorem look_setV {dots : List Str} {e z y : Str} {t : List (Str × V)} {v : V} (h : TabOk dots e t) (hz : z ∈ dots) : look (setV t z v) y = if y = z then v else look t y := by
  unfold look
  rw [setV_get (h.ks.mem_iff.mpr hz)]
  by_cases e' : y = z
  · rw [if_pos e', if_pos e']
    rfl
  · rw [if_neg e', if_neg e']
theorem canon_canon {dots : List Str} {t : List (Str × V)} : canon dots (canon dots t) = canon dots t := by
  unfold canon
  refine List.map_congr_left fun y hy => ?_
  have g := canon_get (dots := dots) (tb := t) hy
  unfold canon at g
  rw [g]
  rfl
/-- tables of which one has another place -/
def updT (g : Str → List (Str × V)) (e z : Str) (v : V) : Str → List (Str × V) := fun e' => if e' = e then setV (g e') z v else g e'
theorem NetAt.same {C : Addr} {H : Hp} {m : Addr} {ends dots ss ps : List Str} {o n o' n' : Str → List (Str × V)} (h : NetAt C H m ends dots ss ps o n) (h1 : ∀ e ∈ ends, canon dots (o e) = canon dots (o' e)) (h2 : ∀ e ∈ ends, canon dots (n e) = canon dots (n' e)) : NetAt C H m ends dots ss ps o' n' := by
  obtain ⟨dx, T, N, S, P, rows, g1, g2, g3, g4, g5, g6, g7⟩ := h.ex
  refine ⟨dx, T, N, S, P, rows, g1, g2, g3, g4, g5, g6, fun e he => ?_⟩
  obtain ⟨p, po, pn, q1, q2⟩ := g7 e he
  refine ⟨p, po, pn, q1, ?_⟩
  show PairAt H dots e p po pn (canon dots (o' e)) (canon dots (n' e))
  rw [← h1 e he, ← h2 e he]
  exact q2
theorem flat_apart {α β : Type} {g : α → List β} : ∀ {L : List α}, (L.flatMap g).Nodup → ∀ {u t : α} {a : β}, u ∈ L → t ∈ L → a ∈ g u → a ∈ g t → u = t ∨ False
  | [], _, _, _, _, h, _, _, _ => nomatch h
  | x :: L, h, u, t, a, hu, ht, h1, h2 => by
    rw [List.flatMap_cons] at h
    obtain ⟨n1, n2, n3⟩ := List.nodup_append.mp h
    rcases List.mem_cons.mp hu with e1 | hu'
    · rcases List.mem_cons.mp ht with e2 | ht'
      · exact .inl (e1.trans e2.symm)
      · exact absurd rfl (n3 a (e1 ▸ h1) a (List.mem_flatMap.mpr ⟨t, ht', h2⟩))
    · rcases List.mem_cons.mp ht with e2 | ht'
      · exact absurd rfl (n3 a (e2 ▸ h2) a (List.mem_flatMap.mpr ⟨u, hu', h1⟩))
      · exact flat_apart n2 hu' ht' h1 h2
theorem flat_own {α β : Type} {g : α → List β} : ∀ {L : List α}, (L.flatMap g).Nodup → ∀ {t : α}, t ∈ L → (g t).Nodup
  | [], _, _, h => nomatch h
  | x :: L, h, t, ht => by
    rw [List.flatMap_cons] at h
    obtain ⟨n1, n2, _⟩ := List.nodup_append.mp h
    rcases List.mem_cons.mp ht with rfl | ht
    · exact n1
    · exact flat_own n2 ht
theorem mem_spots {o n : List (Str × V)} {zs ys : List Str} {z : Str} {u : V} : u ∈ spotsOf o n zs ys z ↔ (z ∉ zs ∧ u = look o z) ∨ ((z ∈ zs ∨ z ∈ ys) ∧ u = look n z) := by
  unfold spotsOf
  by_cases h : z ∈ zs
  · rw [if_pos h, List.mem_singleton]
    exact ⟨fun q => .inr ⟨.inl h, q⟩, fun q => q.elim (fun q => absurd h q.1) (·.2)⟩
  · rw [if_neg h]
    by_cases hy : z ∈ ys
    · by_cases e : look o z = look n z
      · rw [decide_eq_true hy, decide_eq_true e, if_neg (by decide), List.mem_singleton]
        exact ⟨fun q => .inl ⟨h, q⟩, fun q => q.elim (·.2) fun q => by rw [e]; exact q.2⟩
      · rw [decide_eq_true hy, decide_eq_false e, if_pos (by decide), List.mem_cons, List.mem_singleton]
        exact ⟨fun q => q.elim (fun q => .inl ⟨h, q⟩) fun q => .inr ⟨.inr hy, q⟩, fun q => q.elim (fun q => .inl q.2) fun q => .inr q.2⟩
    · rw [decide_eq_false hy, Bool.false_and, if_neg (by decide), List.mem_singleton]
      exact ⟨fun q => .inl ⟨h, q⟩, fun q => q.elim (·.2) fun q => absurd q.1 fun t => t.elim h hy⟩
/-- a new object behind the draws -/
theorem off_new {d g c : Addr} {H H' : Hp} {p : Addr} {o : HO} (D : DrawAt H' d g c) (x : Evl.Ex (off d g H) (off d g H')) (h : H' p = none) : DrawAt (upd H' p o) d g c ∧ Evl.Ex (off d g H) (off d g (upd H' p o)) ∧ off d g (upd H' p o) p = some o ∧ off d g H p = none ∧ Evl.Ex (off d g H') (off d g (upd H' p o)) :=
  ⟨D.new h, x.trans (off_ex (Evl.Ex.new h)), off_of upd_same (D.ned h).1 (D.ned h).2.1, ex_none x (off_free h), off_ex (Evl.Ex.new h)⟩
/-- an object of one's own, changed -/
theorem off_put {d g c : Addr} {H H' : Hp} {p : Addr} {o u : HO} (D : DrawAt H' d g c) (x : Evl.Ex (off d g H) (off d g H')) (h : off d g H p = none) (hp : off d g H' p = some u) (hc : p ≠ c) : DrawAt (upd H' p o) d g c ∧ Evl.Ex (off d g H) (off d g (upd H' p o)) ∧ off d g (upd H' p o) p = some o := by
  have z := off_some hp
  refine ⟨D.mut z.1 z.2.1 hc, fun a v ha => ?_, off_of upd_same z.1 z.2.1⟩
  have y := off_some (x a v ha)
  refine off_of ?_ y.1 y.2.1
  rw [upd_ne (fun e => by rw [e, h] at ha; cases ha)]
  exact y.2.2
theorem off_up {d g : Addr} {H' : Hp} {p a : Addr} {o u : HO} (h : off d g H' a = some u) (ne : a ≠ p) : off d g (upd H' p o) a = some u := by
  have z := off_some h
  exact off_of (by rw [upd_ne ne]; exact z.2.2) z.1 z.2.1
theorem draw_c {d g c : Addr} {H : Hp} {p : Addr} {o : HO} (D : DrawAt H d g c) (h : off d g H p = some o) (no : ∀ xs, o ≠ .lst xs) : p ≠ c := fun e => by
  obtain ⟨cs, hc⟩ := D.cl
  rw [e] at h
  have := (off_some h).2.2
  rw [hc] at this
  cases this
  exact no _ rfl
/-! ### dict([(key, value) ..]) while its pairs are made -/
def PairsTo (H0 : Hp) (Dl : Addr) (tab : List (Str × V)) (j : Nat) (H' : Hp) : Prop := Evl.Ex H0 H' ∧ ∃ ps : List Addr, ps.length = j ∧ H' Dl = some (.lst (ps.map V.ref)) ∧ Paired (fun p kv => H' p = some (.tup [kV kv.1, kv.2])) ps (tkv (tab.take j))
theorem pairs_start {H0 : Hp} {Dl : Addr} {tab : List (Str × V)} (h : H0 Dl = none) : PairsTo H0 Dl tab 0 (upd H0 Dl (.lst [])) := ⟨Evl.Ex.new h, [], rfl, upd_same, .nil⟩
theorem pairs_step {H0 H' Hh : Hp} {Dl : Addr} {tab : List (Str × V)} {j : Nat} {z : Str} {v : V} (h : PairsTo H0 Dl tab j H') (hD : H0 Dl = none) (x : Evl.Ex H' Hh) (hg : tab[j]? = some (z, v)) (few : j < 100) :
    [V.str z, v].length ≤ sizeLine ∧ ∀ t, Hh t = none → ∃ acc, (upd Hh t (.tup [.str z, v])) Dl = some (.lst acc) ∧ acc.length < sizeLine ∧ PairsTo H0 Dl tab (j + 1) (upd (upd Hh t (.tup [.str z, v])) Dl (.lst (acc ++ [.ref t]))) := by
  obtain ⟨x5, ps, hpl, hD5, hp5⟩ := h
  refine ⟨by show 2 ≤ sizeLine; decide, fun t ht => ?_⟩
  have x7 : Evl.Ex H' (upd Hh t (.tup [.str z, v])) := x.trans (Evl.Ex.new ht)
  have htD : t ≠ Dl := (ne_of_none (x _ _ hD5) ht).symm
  refine ⟨_, x7 _ _ hD5, by rw [List.length_map]; exact small1000 (by omega), (x5.trans x7).mut hD, ps ++ [t], by simp [hpl], by rw [upd_same, List.map_append]; rfl, ?_⟩
  have etake : tab.take (j + 1) = tab.take j ++ [(z, v)] := by rw [List.take_add_one, hg]; rfl
  rw [etake]
  unfold tkv
  rw [List.map_append]
  have keep : ∀ (p : Addr) (kv : Key × V), H' p = some (.tup [kV kv.1, kv.2]) → (upd (upd Hh t (.tup [.str z, v])) Dl (.lst (ps.map V.ref ++ [V.ref t]))) p = some (.tup [kV kv.1, kv.2]) := fun p kv hp => by
    rw [upd_ne (ne_of hp hD5 (by intro z; cases z))]
    exact x7 _ _ hp
  have last : (upd (upd Hh t (.tup [.str z, v])) Dl (.lst (ps.map V.ref ++ [V.ref t]))) t = some (.tup [.str z, v]) := by rw [upd_ne htD, upd_same]
  exact Paired.snoc (Paired.mapP hp5 keep) last
end Rw
end T_O0

section T_Q0
set_option Elab.async false
set_option linter.all false
set_option maxRecDepth 100000
set_option maxHeartbeats 8000000
namespace Rw
open PySem L2 PyProof.Rows
/-! ### is_moving, of rows of places and lots -/
def StepV (H : Hp) (p : Addr) (v : V) (us : List Str) : Prop := ∃ c, H p = some (.tup [v, .ref c]) ∧ H c = some (.tup (us.map V.str))
theorem StepV.to {H H' : Hp} {p : Addr} {v : V} {us : List Str} (h : StepV H p v us) (x : Evl.Ex H H') : StepV H' p v us := let ⟨c, h1, h2⟩ := h; ⟨c, x _ _ h1, x _ _ h2⟩
/-- a step that goes on to the next place -/
def goesB (dots : List Str) (o n : List (Str × V)) (zs us us2 : List Str) (v v2 : V) : Bool := match v with
  | .str z => decide (z ∈ dots) && us.all (fun y => decide (y ∈ us2)) && decide (v2 = look (if z ∈ zs ++ us then n else o) z)
  | _ => false
theorem spot_scal {v w : V} (h1 : Spot v) (h2 : Spot w) : scal v w = true := by
  rcases h1 with rfl | ⟨y, rfl, _⟩ <;> rcases h2 with rfl | ⟨z, rfl, _⟩ <;> rfl
section
variable {P : Program} {w : World} {K : PySem.W.Frag} {mg : Str → Option Value} {base : Heap}
def spGoes (C : Addr) : Sp := fun vs H Q _ => ∃ (m a p1 p2 : Addr) (e : Str) (v v2 : V) (us us2 zs ends dots ss ps : List Str) (o n : Str → List (Str × V)), vs = [.ref m, .ref a, .str e, .ref p1, .ref p2] ∧ NetAt C H m ends dots ss ps o n ∧ ModelOk ends dots ss ps ∧ e ∈ ends ∧ TabOk dots e (o e) ∧ TabOk dots e (n e) ∧
  H a = some (.tup (zs.map V.str)) ∧ StepV H p1 v us ∧ StepV H p2 v2 us2 ∧ Spot v ∧ Spot v2 ∧ us.length ≤ 60 ∧ ∀ H', Evl.Ex H H' → Q (.bl (goesB dots (o e) (n e) zs us us2 v v2)) H'
abbrev nGoes : List Str := ["net", "done", "goal", "pair", "later", "place", "changed", "later_place", "later_changed", "node"]
theorem sc_goes : FnScope nGoes ["net", "done", "goal", "pair", "later"] (defScope p_goes_on) := ⟨rfl, rfl, rfl, by decide +kernel, rfl, by decide +kernel, by decide +kernel⟩
theorem ok_goes {f C : Addr} {fd : FuncData} (F : Fun K "goes_on" "goes_on" p_goes_on f fd) (T : NetTxt K C) (Pg : Prp P w K mg base C 1 "nodes" (spDots C)) (CA : Cal P w K mg base 3 "ways_at" ["net", "done", "changed", "goal"] (spWaysAt (K := K) C)) (mAll : mg "all" = none) :
    FnOk P w K mg base CX0 6 f fd ["net", "done", "goal", "pair", "later"] (spGoes C) := by
  obtain ⟨p0, g0, fd0, at0, F0, b0⟩ := Pg.ex
  obtain ⟨f1, fd1, F1, k1, b1, g1⟩ := CA.ex
  refine F.ok sc_goes (fun vs H Q E h => ?_) (fun cdv A outer s H vs Q E hr h => ?_)
  · obtain ⟨m, a, p1, p2, e, v, v2, us, us2, zs, ends, dots, ss, ps, o, n, rfl, _⟩ := h
    rfl
  · obtain ⟨m, a, p1, p2, e, v, v2, us, us2, zs, ends, dots, ss, ps, o, n, rfl, N, ok, he, t1, t2, ha, ⟨c1, s1, l1⟩, ⟨c2, s2, l2⟩, sp1, sp2, few, k⟩ := h
    have nd := sc_goes.nd
    have hu := hu_of hr
    have hr2 : Room 2 _ := hr.mono (by decide)
    refine ⟨_, pss_cons (ps_asg (pv 3) (pg_tup rfl (pgs_cons (pg_name (i := 5) nd rfl (.inl rfl)) (pgs_cons (pg_name (i := 6) nd rfl (.inl rfl)) pgs_nil))))
      (pss_cons (ps_asg (pv 4) (pg_tup rfl (pgs_cons (pg_name (i := 7) nd rfl (.inl rfl)) (pgs_cons (pg_name (i := 8) nd rfl (.inr rfl)) pgs_nil))))
      (pss_cons (ps_if (PW.pt (pw_or (pt_cmpR op_notIn_seq (pv 5) (pe_prop (pv 0) T.cl at0 F0 hr2 b0 .nil pass0 rfl) rfl)
          (pw_or1 (pt_not (pt_val (pe_callB (cr_all rfl) (by rfl) mAll (by decide +kernel) (pa_cons (pe_lc (own := [("node", 9)]) (g := gName 9) (tt := tYes) (te := tOp (rIn K false) (tVar 9) (tVar 8)) rfl nd (pi_tup (pv 6)) (blkOk_by (own := [("node", 9)]) (N := nGoes) (sc := defScope p_goes_on) (by decide +kernel))
            (fun _ _ _ _ _ => pg_name (i := 9) nd rfl (Or.inl rfl)) (fun _ _ _ _ _ => pts_nil) (fun _ _ _ _ _ => pe_cmpR op_in_seq (pv 9) (pv 8) rfl)) pa_nil))))))) (pss_one (ps_ret pe_bl)) pss_nil)
      (pss_one (ps_ret (pe_cmpR op_eq (pv 7) (pe_dget hu (pe_call F1 (hr.mono (by decide)) rfl g1 k1 b1 .nil pass0 (pa_cons (pv 0) (pa_cons (pv 1) (pa_cons (pv 6) (pa_cons (pv 2) pa_nil))))) (pv 5) (fun _ _ => rfl)) (nomark _)))))), ?_⟩
    have d6 := ok.d6
    have e2 := ok.e2
    refine ⟨.ref p1, rfl, p1, _, rfl, Evl.st_of s1, rfl, _, _, rfl, _, [], rfl, rfl, ?_⟩
    refine ⟨.ref p2, rfl, p2, _, rfl, Evl.st_of s2, rfl, _, _, rfl, _, [], rfl, rfl, ?_⟩
    have N2 := N
    obtain ⟨dx, T', N', S, Po, rows, h1, _⟩ := N.ex
    rcases sp1 with rfl | ⟨z, rfl, nz⟩
    · refine ⟨.non, rfl, .ref m, rfl, m, dx, _, rfl, h1, m, ends, dots, ss, ps, o, n, rfl, N2, fun p hp => ⟨p, dots.map V.str, rfl, .inr (Evl.st_of hp), rfl, flat_strs dots, ?_⟩⟩
      rw [inV_nonT]
      exact ⟨true, rfl, k H (Evl.Ex.refl _)⟩
    refine ⟨.str z, rfl, .ref m, rfl, m, dx, _, rfl, h1, m, ends, dots, ss, ps, o, n, rfl, N2, fun p hp => ⟨p, dots.map V.str, rfl, .inr (Evl.st_of hp), rfl, flat_strs dots, ?_⟩⟩
    rw [inV_str]
    by_cases zd : z ∈ dots
    · rw [decide_eq_true zd]
      refine ⟨false, rfl, ?_⟩
      refine ⟨.ref c1, rfl, c1, rfl, ⟨_, Evl.st_of l1⟩, fun D hD => lc_tup (K := K) (a := c1) (xs := us.map V.str)
        (fun i H' => Evl.Ex H H' ∧ H' D = some (.lst (((us.take i).map fun y => decide (y ∈ us2)).map V.bl))) ⟨Evl.Ex.new hD, upd_same⟩ (fun i H' _ h => Evl.st_of (h.1 _ _ l1)) ?_ ?_⟩
      · rintro i x H1 hi ⟨x1, d1⟩
        obtain ⟨y, hy, rfl⟩ := str_at hi
        refine ⟨rfl, ?_⟩
        refine yes_if ?_
        refine ⟨.str y, rfl, .ref c2, rfl, c2, us2.map V.str, rfl, .inr (Evl.st_of (x1 _ _ l2)), rfl, flat_strs us2, _, d1, ?_, x1.mut hD, ?_⟩
        · rw [List.length_map, List.length_map, List.length_take]
          exact small1000 (by omega)
        · rw [inV_str, upd_same, List.take_add_one, hy, List.map_append, List.map_append]
          rfl
      rintro H1 ⟨x1, d1⟩
      rw [List.length_map, List.take_length] at d1
      have eb : goesB dots (o e) (n e) zs us us2 (.str z) v2 = ((us.map fun y => decide (y ∈ us2)).all id && decide (v2 = look (if z ∈ zs ++ us then n e else o e) z)) := by
        show (decide (z ∈ dots) && us.all (fun y => decide (y ∈ us2)) && _) = _
        rw [decide_eq_true zd, List.all_map]
        rfl
      rw [eb] at k
      refine ⟨D, _, rfl, Evl.sq_of d1, ?_⟩
      cases q : (us.map fun y => decide (y ∈ us2)).all id with
      | false =>
        rw [q] at k
        exact ⟨false, rfl, k H1 x1⟩
      | true =>
        rw [q] at k
        refine ⟨true, rfl, ?_⟩
        refine ⟨v2, rfl, .ref m, rfl, .ref a, rfl, .ref c1, rfl, .str e, rfl, m, a, c1, e, zs, us, ends, dots, ss, ps, o, n, rfl, N2.to x1, by omega, ok.en, by omega, ok.dn, he, Evl.st_of (x1 _ _ ha), Evl.st_of (x1 _ _ l1), fun Dw H2 x2 hDw hDw2 => ?_⟩
        have val : valV (tkv (nowTab dots (o e) (n e) (zs ++ us))) (Sum.inr z) = some (look (if z ∈ zs ++ us then n e else o e) z) := tkv_val (by rw [nowTab_keys]; exact ok.dn) (List.mem_map.mpr ⟨z, zd, rfl⟩)
        refine ⟨.str z, rfl, Dw, _, rfl, dget_of (k := Sum.inr z) hDw2 val, ?_⟩
        have sp3 : Spot (look (if z ∈ zs ++ us then n e else o e) z) := by
          by_cases m1 : z ∈ zs ++ us
          · rw [if_pos m1]; exact place_spot (look_ok t2 zd).1 ok.dm (ok.em e he)
          · rw [if_neg m1]; exact place_spot (look_ok t1 zd).1 ok.dm (ok.em e he)
        exact ⟨spot_scal sp2 sp3, k H2 (x1.trans x2)⟩
    · rw [decide_eq_false zd]
      have eb : goesB dots (o e) (n e) zs us us2 (.str z) v2 = false := by
        show (decide (z ∈ dots) && us.all (fun y => decide (y ∈ us2)) && _) = _
        rw [decide_eq_false zd]
        rfl
      rw [eb] at k
      exact ⟨true, rfl, k H (Evl.Ex.refl _)⟩
end
end Rw
end T_Q0

section T_Q1
set_option Elab.async false
set_option linter.all false
set_option maxRecDepth 100000
set_option maxHeartbeats 8000000
namespace Rw
open PySem L2 PyProof.Rows
section
variable {P : Program} {w : World} {K : PySem.W.Frag} {mg : Str → Option Value} {base : Heap}
/-! ### a place with a moment -/
def spMoment : Sp := fun vs H Q _ => ∃ (p c b : Addr) (v : V) (us ys : List Str), vs = [.ref p, .ref b] ∧ H p = some (.tup [v, .ref c]) ∧ LotAt H c us ys ∧ H b = some (.tup (ys.map V.str)) ∧ ∀ H', Evl.Ex H H' → Q (.bl true) H'
theorem sc_moment : FnScope ["value", "lot"] ["value", "lot"] (defScope p_is_place_with_moment) := ⟨rfl, rfl, rfl, by decide +kernel, rfl, by decide +kernel, by decide +kernel⟩
theorem ok_moment {f : Addr} {fd : FuncData} (F : Fun K "is_place_with_moment" "is_place_with_moment" p_is_place_with_moment f fd) (CL : Cal P w K mg base 1 "is_lot_of" ["value", "nodes"] spLotOf) (mIsi : mg "isinstance" = none) (mTup : mg "tuple" = none) (mLen : mg "len" = none) :
    FnOk P w K mg base CX0 2 f fd ["value", "lot"] spMoment := by
  obtain ⟨f1, fd1, F1, k1, b1, g1⟩ := CL.ex
  refine F.ok sc_moment (fun vs H Q E h => ?_) (fun cdv A outer s H vs Q E hr h => ?_)
  · obtain ⟨p, c, b, v, us, ys, rfl, _⟩ := h
    rfl
  · obtain ⟨p, c, b, v, us, ys, rfl, hp, L, hb, k⟩ := h
    refine ⟨_, pss_one (ps_ret (pe_and (pe_callB call_isi (by rfl) mIsi (by decide +kernel) (pa_cons (pv 0) (pa_cons (pe_bltn (v := .ty "tuple") (by rfl) mTup (by decide +kernel) rfl) pa_nil)))
      (pe_and (pe_cmpR op_eq (pe_callB call_len (by rfl) mLen PySem.boot_len (pa_cons (pv 0) pa_nil)) pe_int (nomark _))
      (pe_one (pe_call F1 hr rfl g1 k1 b1 .nil pass0 (pa_cons (pe_ix ix_tup (pv 0) pe_int (fun _ _ => rfl)) (pa_cons (pv 1) pa_nil))))))), ?_⟩
    refine ⟨.ref p, rfl, .ref p, .ty "tuple", _, _, true, rfl, .ty _, .base (.tup hp), kit_ty (by decide +kernel), ?_⟩
    refine ⟨true, rfl, ?_⟩
    refine iteT ?_
    refine ⟨.ref p, rfl, .ref p, _, rfl, .inr ⟨_, Evl.st_of hp, rfl⟩, rfl, true, rfl, ?_⟩
    refine ⟨.ref p, rfl, p, _, 1, .ref c, rfl, rfl, Evl.st_of hp, rfl, .ref b, rfl, c, b, us, ys, rfl, L, hb, fun H1 x1 => ?_⟩
    exact k H1 x1
/-! ### is_moving -/
theorem refs_atG {α : Type} {L : List (Addr × α)} {i : Nat} {v : V} (h : (L.map fun q => V.ref q.1)[i]? = some v) : ∃ q, L[i]? = some q ∧ v = .ref q.1 := by
  rw [List.getElem?_map] at h
  cases q : L[i]? with
  | none => rw [q] at h; cases h
  | some p => rw [q] at h; exact ⟨p, rfl, (Option.some.inj h).symm⟩
/-- a row of steps, each with some lot within ys -/
def StepsV (H : Hp) (ys : List Str) : List (Addr × Addr × V × List Str) → Prop
  | [] => True
  | q :: qs => (H q.1 = some (.tup [q.2.2.1, .ref q.2.1]) ∧ LotAt H q.2.1 q.2.2.2 ys ∧ Spot q.2.2.1) ∧ StepsV H ys qs
theorem StepsV.at {H : Hp} {ys : List Str} : ∀ {qs : List (Addr × Addr × V × List Str)}, StepsV H ys qs → ∀ q ∈ qs, H q.1 = some (.tup [q.2.2.1, .ref q.2.1]) ∧ LotAt H q.2.1 q.2.2.2 ys ∧ Spot q.2.2.1
  | [], _, q, hq => nomatch hq
  | q :: qs, h, p, hp => by
    rcases List.mem_cons.mp hp with rfl | hp
    · exact h.1
    · exact StepsV.at h.2 p hp
/-- each step goes on to the one behind it -/
def goesAll (dots : List Str) (o n : List (Str × V)) (zs : List Str) : List (V × List Str) → List Bool
  | p :: q :: r => goesB dots o n zs p.2 q.2 p.1 q.1 :: goesAll dots o n zs (q :: r)
  | _ => []
theorem goesAll_at {dots : List Str} {o n : List (Str × V)} {zs : List Str} : ∀ {l : List (V × List Str)} {i : Nat} {p q : V × List Str}, l[i]? = some p → l[i + 1]? = some q → (goesAll dots o n zs l)[i]? = some (goesB dots o n zs p.2 q.2 p.1 q.1)
  | p :: q :: r, 0, _, _, h1, h2 => by
    cases h1
    cases h2
    rfl
  | p :: q :: r, i + 1, p', q', h1, h2 => by
    show (goesAll dots o n zs (q :: r))[i]? = _
    exact goesAll_at (l := q :: r) h1 h2
  | [p], 0, _, _, _, h2 => nomatch h2
  | [p], i + 1, _, _, h1, _ => nomatch h1
  | [], i, _, _, h1, _ => nomatch h1
theorem goesAll_len {dots : List Str} {o n : List (Str × V)} {zs : List Str} : ∀ l : List (V × List Str), (goesAll dots o n zs l).length = l.length - 1
  | p :: q :: r => by
    show (goesAll dots o n zs (q :: r)).length + 1 = _
    rw [goesAll_len (q :: r)]
    rfl
  | [p] => rfl
  | [] => rfl
def spMoving (C : Addr) : Sp := fun vs H Q _ => ∃ (m a b t : Addr) (e z : Str) (qs : List (Addr × Addr × V × List Str)) (q0 : Addr × Addr × V × List Str) (zs ys ends dots ss ps : List Str) (o n : Str → List (Str × V)), vs = [.ref m, .ref a, .ref b, .str e, .str z, .ref t] ∧ NetAt C H m ends dots ss ps o n ∧ ModelOk ends dots ss ps ∧ e ∈ ends ∧ z ∈ dots ∧ TabOk dots e (o e) ∧ TabOk dots e (n e) ∧
  LotAt H a zs (moving ends dots o n) ∧ LotAt H b ys (moving ends dots o n) ∧ (∀ y ∈ ys, y ∉ zs) ∧ H t = some (.lst ((q0 :: qs).map fun q => V.ref q.1)) ∧ qs.length ≤ 100 ∧ StepsV H ys (q0 :: qs) ∧
  ∀ H', Evl.Ex H H' → Q (.bl (decide (q0.2.2.1 = .str z) && (goesAll dots (o e) (n e) zs ((q0 :: qs).map fun q => (q.2.2.1, q.2.2.2))).all id)) H'
abbrev nMoving : List Str := ["net", "done", "lot", "goal", "node", "thing", "first_place", "_", "pair", "later"]
theorem sc_moving : FnScope nMoving ["net", "done", "lot", "goal", "node", "thing"] (defScope p_is_moving) := ⟨rfl, rfl, rfl, by decide +kernel, rfl, by decide +kernel, by decide +kernel⟩
theorem ok_moving {f C : Addr} {fd : FuncData} (F : Fun K "is_moving" "is_moving" p_is_moving f fd) (C1 : Cal P w K mg base 5 "check_round" ["net", "done", "lot", "part"] (spRound C)) (C2 : Cal P w K mg base 3 "check_goal" ["net", "goal"] (spCheckGoal C)) (C3 : Cal P w K mg base 3 "check_node" ["net", "node"] (spCheckDot C))
    (C4 : Cal P w K mg base 1 "is_list" ["value"] (spIsList K)) (C5 : Cal P w K mg base 2 "is_place_with_moment" ["value", "lot"] spMoment) (C6 : Cal P w K mg base 6 "goes_on" ["net", "done", "goal", "pair", "later"] (spGoes C))
    (mAll : mg "all" = none) (mLen : mg "len" = none) (mZip : mg "zip" = none) : FnOk P w K mg base CX0 7 f fd ["net", "done", "lot", "goal", "node", "thing"] (spMoving C) := by
  obtain ⟨f1, fd1, F1, k1, b1, g1⟩ := C1.ex
  obtain ⟨f2, fd2, F2, k2, b2, g2⟩ := C2.ex
  obtain ⟨f3, fd3, F3, k3, b3, g3⟩ := C3.ex
  obtain ⟨f4, fd4, F4, k4, b4, g4⟩ := C4.ex
  obtain ⟨f5, fd5, F5, k5, b5, g5⟩ := C5.ex
  obtain ⟨f6, fd6, F6, k6, b6, g6⟩ := C6.ex
  refine F.ok sc_moving (fun vs H Q E h => ?_) (fun cdv A outer s H vs Q E hr h => ?_)
  · obtain ⟨m, a, b, t, e, z, qs, q0, zs, ys, ends, dots, ss, ps, o, n, rfl, _⟩ := h
    rfl
  · obtain ⟨m, a, b, t, e, z, qs, q0, zs, ys, ends, dots, ss, ps, o, n, rfl, N, ok, he, hz, t1, t2, La, Lb, dis, ht, few, SV, k⟩ := h
    have nd := sc_moving.nd
    have hu := hu_of hr
    have hr1 : Room 1 _ := hr.mono (by decide)
    have hr2 : Room 2 _ := hr.mono (by decide)
    have hr3 : Room 3 _ := hr.mono (by decide)
    have hr5 : Room 5 _ := hr.mono (by decide)
    refine ⟨_, pss_cons (ps_expr (pe_call F1 hr5 rfl g1 k1 b1 .nil pass0 (pa_cons (pv 0) (pa_cons (pv 1) (pa_cons (pv 2) (pa_cons pe_str pa_nil))))))
      (pss_cons (ps_expr (pe_call F2 hr3 rfl g2 k2 b2 .nil pass0 (pa_cons (pv 0) (pa_cons (pv 3) pa_nil))))
      (pss_cons (ps_expr (pe_call F3 hr3 rfl g3 k3 b3 .nil pass0 (pa_cons (pv 0) (pa_cons (pv 4) pa_nil))))
      (pss_cons (ps_if (PW.pt (pw_or (pt_not (pt_val (pe_call F4 hr1 rfl g4 k4 b4 .nil pass0 (pa_cons (pv 5) pa_nil)))) (pw_or1 (pt_cmpR op_eq (pe_callB call_len (by rfl) mLen PySem.boot_len (pa_cons (pv 5) pa_nil)) pe_int (nomark _))))) (pss_one (ps_ret pe_bl)) pss_nil)
      (pss_cons (ps_if (pt_not (pt_val (pe_callB (cr_all rfl) (by rfl) mAll (by decide +kernel) (pa_cons (pe_lc (own := [("pair", 8)]) (g := gName 8) (tt := tYes) (te := tCall spMoment [] E0 (tCons (tVar 8) (tCons (tVar 2) tNil))) rfl nd (pi_list (pv 5)) (blkOk_by (own := [("pair", 8)]) (N := nMoving) (sc := defScope p_is_moving) (by decide +kernel))
            (fun _ _ _ _ _ => pg_name (i := 8) nd rfl (Or.inl rfl)) (fun _ _ _ _ _ => pts_nil) (fun _ _ _ _ _ => pe_call F5 hr2 rfl g5 k5 b5 .nil pass0 (pa_cons (pv 8) (pa_cons (pv 2) pa_nil)))) pa_nil)))) (pss_one (ps_ret pe_bl)) pss_nil)
      (pss_cons (ps_asg (pe_ix ix_list (pv 5) pe_int (fun _ _ => rfl)) (pg_tup rfl (pgs_cons (pg_name (i := 6) nd rfl (.inl rfl)) (pgs_cons (pg_name (i := 7) nd rfl (.inl rfl)) pgs_nil))))
      (pss_cons (ps_if (pt_cmpR op_ne (pv 6) (pv 4) (nomark _)) (pss_one (ps_ret pe_bl)) pss_nil)
      (pss_one (ps_ret (pe_callB (cr_all rfl) (by rfl) mAll (by decide +kernel) (pa_cons (pe_lc (own := [("pair", 8), ("later", 9)]) (g := gTup K 2 (gCons (gName 8) (gCons (gName 9) gNil))) (tt := tYes) (te := tCall (spGoes C) [] E0 (tCons (tVar 0) (tCons (tVar 1) (tCons (tVar 3) (tCons (tVar 8) (tCons (tVar 9) tNil)))))) rfl nd
            (RZ.pi_zipA (by rfl) mZip (pa_cons (pv 5) (pa_cons (pe_slice sl_list (pv 5) (po_some pe_int) po_none) pa_nil))) (blkOk_by (own := [("pair", 8), ("later", 9)]) (N := nMoving) (sc := defScope p_is_moving) (by decide +kernel))
            (fun _ _ _ _ _ => pg_tup rfl (pgs_cons (pg_name (i := 8) nd rfl (Or.inl rfl)) (pgs_cons (pg_name (i := 9) nd rfl (Or.inl rfl)) pgs_nil))) (fun _ _ _ _ _ => pts_nil)
            (fun _ _ _ _ _ => pe_call F6 hr rfl g6 k6 b6 .nil pass0 (pa_cons (pv 0) (pa_cons (pv 1) (pa_cons (pv 3) (pa_cons (pv 8) (pa_cons (pv 9) pa_nil))))))) pa_nil)))))))))), ?_⟩
    have d6 := ok.d6
    have e2 := ok.e2
    have qat := SV.at
    obtain ⟨rows, hrows⟩ : ∃ rows, rows = q0 :: qs := ⟨_, rfl⟩
    have rl : rows.length = qs.length + 1 := by rw [hrows]; rfl
    rw [← hrows] at ht qat k
    -- the checks
    refine ⟨.ref m, rfl, .ref a, rfl, .ref b, rfl, m, a, b, _, zs, ys, ends, dots, ss, ps, o, n, rfl, N, by omega, by omega, ok.en, La, Lb, dis, fun H1 x1 => ?_⟩
    refine ⟨.ref m, rfl, .str e, rfl, m, e, ends, dots, ss, ps, o, n, rfl, N.to x1, by omega, he, fun H2 x2 => ?_⟩
    have x12 := x1.trans x2
    refine ⟨.ref m, rfl, .str z, rfl, m, z, ends, dots, ss, ps, o, n, rfl, N.to x12, hz, ?_⟩
    have ht2 := x12 _ _ ht
    refine ⟨.ref t, rfl, t, _, rfl, .inl (Evl.sq_of ht2), fun H3 x3 => ⟨true, rfl, ?_⟩⟩
    have x13 := x12.trans x3
    have ht3 := x13 _ _ ht
    have rlm : (rows.map fun q => V.ref q.1).length = qs.length + 1 := by rw [List.length_map, rl]
    refine ⟨.ref t, rfl, .ref t, _, rfl, .inl ⟨_, Evl.sq_of ht3, rfl⟩, rfl, false, congrArg V.bl (decide_eq_false (fun q => ?_)), ?_⟩
    · have q' := V.int.inj q
      rw [rlm] at q'
      omega
    -- all moments are moments
    refine ⟨.ref t, rfl, t, rfl, ⟨_, Evl.sq_of ht3⟩, fun D hD => lc_trues (Evl.sq_of ht3) hD (by rw [rlm]; omega) (fun i x H4 Q1 R hi e4 go => ?_) (fun H4 e4 d4 => ?_)⟩
    · obtain ⟨q, hq, rfl⟩ := refs_atG hi
      obtain ⟨h1, h2, h3⟩ := qat q (List.mem_of_getElem? hq)
      have x4 := x13.trans e4
      refine ⟨rfl, ?_⟩
      refine yes_if ?_
      exact ⟨.ref q.1, rfl, .ref b, rfl, q.1, q.2.1, b, q.2.2.1, q.2.2.2, ys, rfl, x4 _ _ h1, h2.ex x4, x4 _ _ Lb.ha, fun H5 x5 => go H5 x5⟩
    refine ⟨D, _, rfl, Evl.sq_of d4, ?_⟩
    rw [all_trues]
    refine ⟨true, rfl, ?_⟩
    refine iteF ?_
    have x14 := x13.trans e4
    have ht4 := x14 _ _ ht
    -- first_place, _ = thing[0]
    have m0 : q0 ∈ rows := by rw [hrows]; exact List.mem_cons_self
    obtain ⟨g1', g2', g3'⟩ := qat q0 m0
    refine ⟨.ref t, rfl, t, _, 0, .ref q0.1, rfl, rfl, Evl.sq_of ht4, atI_nat (j := 0) (by rw [hrows]; rfl), q0.1, _, rfl, Evl.st_of (x14 _ _ g1'), rfl, _, _, rfl, _, [], rfl, rfl, ?_⟩
    -- if first_place != node
    refine ⟨q0.2.2.1, rfl, .str z, rfl, spot_scal g3' (.inr ⟨z, rfl, ok.dm z hz⟩), _, rfl, ?_⟩
    by_cases qz : q0.2.2.1 = .str z
    · rw [decide_eq_true qz] at k ⊢
      refine iteF ?_
      -- the steps
      refine ⟨.ref t, rfl, .ref t, rfl, 1, rfl, t, _, rfl, Evl.sq_of ht4, fun p hp => ?_⟩
      have ec : cutV (rows.map fun q => V.ref q.1) (some 1) none = (rows.map fun q => V.ref q.1).drop 1 := by
        rw [show (some (1 : Int)) = some ((1 : Nat) : Int) from rfl, cut_drop]
      rw [ec]
      have y5 : Evl.Ex H4 (upd H4 p (.lst ((rows.map fun q => V.ref q.1).drop 1))) := Evl.Ex.new hp
      have p5 : (upd H4 p (.lst ((rows.map fun q => V.ref q.1).drop 1))) p = some (.lst ((rows.map fun q => V.ref q.1).drop 1)) := upd_same
      generalize upd H4 p (.lst ((rows.map fun q => V.ref q.1).drop 1)) = H5 at y5 p5
      have x15 := x14.trans y5
      obtain ⟨bs, hbs⟩ : ∃ bs, bs = goesAll dots (o e) (n e) zs (rows.map fun q => (q.2.2.1, q.2.2.2)) := ⟨_, rfl⟩
      have bl : bs.length = qs.length := by rw [hbs, goesAll_len, List.length_map, rl]; rfl
      rw [← hbs] at k
      refine ⟨t, p, _, _, rfl, .inl ⟨Evl.sq_of (x15 _ _ ht), Evl.sq_of p5, fun D2 hD2 => lc_it (walk_zip rfl)
        (fun i H' => Evl.Ex H5 H' ∧ H' D2 = some (.lst ((bs.take i).map V.bl))) ⟨Evl.Ex.new hD2, upd_same⟩ (fun i H' _ h => ⟨Evl.sq_of ((x15.trans h.1) _ _ ht), Evl.sq_of (h.1 _ _ p5)⟩) ?_ ?_⟩⟩
      · rintro i x H6 H6' hi ⟨x6, d6'⟩ ⟨T', xa, ya, rfl, hT, rfl, hx, hy⟩
        rw [List.length_drop, rlm] at hi
        have il : i < qs.length := by omega
        obtain ⟨q, hq, rfl⟩ := refs_atG hx
        have hy' : (rows.map fun q => V.ref q.1)[i + 1]? = some ya := by
          have hy2 : ((rows.map fun q => V.ref q.1).drop 1)[i]? = some ya := hy
          rw [List.getElem?_drop, Nat.add_comm] at hy2
          exact hy2
        obtain ⟨q', hq', rfl⟩ := refs_atG hy'
        obtain ⟨a1, a2, a3⟩ := qat q (List.mem_of_getElem? hq)
        obtain ⟨b1', b2', b3'⟩ := qat q' (List.mem_of_getElem? hq')
        have y7 : Evl.Ex H6 (upd H6 T' (.tup [.ref q.1, .ref q'.1])) := Evl.Ex.new hT
        have t7 : (upd H6 T' (.tup [.ref q.1, .ref q'.1])) T' = some (.tup [.ref q.1, .ref q'.1]) := upd_same
        generalize upd H6 T' (.tup [.ref q.1, .ref q'.1]) = H7 at y7 t7
        have x7 := (x15.trans x6).trans y7
        refine ⟨T', _, rfl, Evl.st_of t7, rfl, _, _, rfl, _, [], rfl, rfl, ?_⟩
        refine ⟨rfl, ?_⟩
        refine yes_if ?_
        have at_ : bs[i]? = some (goesB dots (o e) (n e) zs q.2.2.2 q'.2.2.2 q.2.2.1 q'.2.2.1) := by
          rw [hbs]
          exact goesAll_at (p := (q.2.2.1, q.2.2.2)) (q := (q'.2.2.1, q'.2.2.2)) (by rw [List.getElem?_map, hq]; rfl) (by rw [List.getElem?_map, hq']; rfl)
        refine ⟨.ref m, rfl, .ref a, rfl, .str e, rfl, .ref q.1, rfl, .ref q'.1, rfl, m, a, q.1, q'.1, e, q.2.2.1, q'.2.2.1, q.2.2.2, q'.2.2.2, zs, ends, dots, ss, ps, o, n, rfl, N.to x7, ok, he, t1, t2, x7 _ _ La.ha, ⟨_, x7 _ _ a1, x7 _ _ a2.ha⟩, ⟨_, x7 _ _ b1', x7 _ _ b2'.ha⟩, a3, b3', a2.few, fun H8 x8 => ?_⟩
        refine ⟨_, (y7.trans x8) _ _ d6', ?_, ((x6.trans y7).trans x8).mut hD2, ?_⟩
        · rw [List.length_map, List.length_take]
          exact small1000 (by omega)
        · rw [upd_same, List.take_add_one, at_, List.map_append]
          rfl
      · rintro H6 ⟨x6, d6'⟩
        rw [List.take_of_length_le (by rw [List.length_drop, rlm, bl]; omega)] at d6'
        exact ⟨D2, bs, rfl, Evl.sq_of d6', k H6 (x15.trans x6)⟩
    · rw [decide_eq_false qz] at k ⊢
      exact iteT (k _ x14)
end
end Rw
end T_Q1

section T_R8
set_option Elab.async false
set_option linter.all false
set_option maxRecDepth 100000
set_option maxHeartbeats 8000000
namespace Rw
open PySem L2 PyProof.Rows
/-! ### what packets come to -/
/-- y can be reached from z -/
def Reach (dots : List Str) (f : Str → List V) (z y : Str) : Prop := ∃ r, IsWay dots f (z :: r) ∧ lastS z r = y
section
variable {dots : List Str} {f : Str → List V}
theorem way_short : ∀ (r : List Str) (x : Str), IsWay dots f (x :: r) → ∃ r', IsWay dots f (x :: r') ∧ lastS x r' = lastS x r ∧ (x :: r').Nodup
  | [], x, h => ⟨[], h, rfl, List.nodup_cons.mpr ⟨by simp, List.nodup_nil⟩⟩
  | y :: t, x, h => by
    obtain ⟨t', h1, h2, h3⟩ := way_short t y ⟨h.1.2, fun z hz => h.2 z (List.mem_cons_of_mem _ hz)⟩
    have xd := h.2 x List.mem_cons_self
    by_cases m : x ∈ y :: t'
    · obtain ⟨s, u, e⟩ := List.append_of_mem m
      refine ⟨u, ?_, ?_, ?_⟩
      · cases s with
        | nil =>
          have e' : y = x ∧ t' = u := by simpa using e
          rw [← e'.1, ← e'.2]
          exact h1
        | cons a s =>
          have e' : y = a ∧ t' = s ++ x :: u := by simpa using e
          rw [e'.2] at h1
          refine ⟨((way_mid y s x u).mp h1.1).2.2, fun z hz => h1.2 z ?_⟩
          exact List.mem_cons_of_mem _ (List.mem_append_right _ hz)
      · show lastS x u = lastS y t
        rw [← h2]
        cases s with
        | nil =>
          have e' : y = x ∧ t' = u := by simpa using e
          rw [e'.1, e'.2]
        | cons a s =>
          have e' : y = a ∧ t' = s ++ x :: u := by simpa using e
          rw [e'.2, lastS_mid]
      · rw [e] at h3
        exact (List.nodup_append.mp h3).2.1
    · exact ⟨y :: t', ⟨⟨h.1.1, h1.1⟩, fun z hz => by
        rcases List.mem_cons.mp hz with rfl | hz
        · exact xd
        · exact h1.2 z hz⟩, h2, List.nodup_cons.mpr ⟨m, h3⟩⟩
/-- reached by k hops at most -/
def ReachK (dots : List Str) (f : Str → List V) (z : Str) (k : Nat) (y : Str) : Prop := ∃ r, IsWay dots f (z :: r) ∧ lastS z r = y ∧ r.length ≤ k
theorem reachK_all {z y : Str} : ReachK dots f z dots.length y ↔ Reach dots f z y := by
  refine ⟨fun ⟨r, h1, h2, _⟩ => ⟨r, h1, h2⟩, fun ⟨r, h1, h2⟩ => ?_⟩
  obtain ⟨r', g1, g2, g3⟩ := way_short r z h1
  have := nodup_le (z :: r') dots g3 g1.2
  rw [List.length_cons] at this
  exact ⟨r', g1, g2.trans h2, by omega⟩
theorem reachK_zero {z y : Str} (hz : z ∈ dots) : ReachK dots f z 0 y ↔ y = z := by
  refine ⟨fun ⟨r, h1, h2, h3⟩ => ?_, fun e => ⟨[], isWay_one hz, e.symm, Nat.le_refl _⟩⟩
  have e : r = [] := List.eq_nil_of_length_eq_zero (by omega)
  rw [e] at h2
  exact h2.symm
theorem reachK_dots {z y : Str} {k : Nat} (h : ReachK dots f z k y) : y ∈ dots := by
  obtain ⟨r, h1, h2, _⟩ := h
  rw [← h2]
  refine h1.2 _ ?_
  have go : ∀ (r : List Str) (x : Str), lastS x r ∈ x :: r := fun r => by
    induction r with
    | nil => intro x; exact List.mem_cons_self
    | cons y r ih => intro x; exact List.mem_cons_of_mem _ (ih y)
  exact go r z
theorem reachK_next {z y : Str} {k : Nat} : ReachK dots f z (k + 1) y ↔ ReachK dots f z k y ∨ ∃ x, ReachK dots f z k x ∧ y ∈ behind dots f x := by
  constructor
  · rintro ⟨r, h1, h2, h3⟩
    by_cases q : r.length ≤ k
    · exact .inl ⟨r, h1, h2, q⟩
    · right
      have ne : r ≠ [] := fun e => by rw [e] at q; simp at q
      obtain ⟨p, x, e⟩ : ∃ p x, r = p ++ [x] := ⟨r.dropLast, r.getLast ne, (List.dropLast_concat_getLast ne).symm⟩
      subst e
      rw [lastS_mid] at h2
      have h2' : x = y := h2
      subst h2'
      rw [← List.cons_append] at h1
      obtain ⟨g1, g2, g3⟩ := (isWay_snoc (by simp)).mp h1
      rw [List.length_append, List.length_singleton] at h3
      exact ⟨lastS z p, ⟨p, g1, rfl, by omega⟩, mem_behind.mpr ⟨g2, g3⟩⟩
  · rintro (⟨r, h1, h2, h3⟩ | ⟨x, ⟨r, h1, h2, h3⟩, hy⟩)
    · exact ⟨r, h1, h2, by omega⟩
    · obtain ⟨b1, b2⟩ := mem_behind.mp hy
      refine ⟨r ++ [y], ?_, ?_, ?_⟩
      · rw [← List.cons_append]
        refine (isWay_snoc (by simp)).mpr ⟨h1, ?_, b2⟩
        show V.str y ∈ f (lastS z r)
        rw [h2]
        exact b1
      · rw [lastS_mid]
        rfl
      · rw [List.length_append, List.length_singleton]
        omega
end
/-- what reached answers -/
structure ReachedAt (dots : List Str) (f : Str → List V) (e z : Str) (H : Hp) (p a : Addr) (xs : List Str) (b1 b2 : Bool) : Prop where
  hp : H p = some (.tup [.ref a, .bl b1, .bl b2])
  ha : H a = some (.tup (xs.map V.str))
  so : sortedS xs = true
  nd : xs.Nodup
  all : ∀ y, y ∈ xs ↔ Reach dots f z y
  sub : ∀ y ∈ xs, y ∈ dots
  c1 : b1 = true ↔ ∃ y ∈ xs, V.str e ∈ f y
  c2 : b2 = true ↔ ∃ y ∈ xs, V.non ∈ f y
theorem inV_non {l : List V} (h : ∀ v ∈ l, Spot v) : inV .non l = decide (V.non ∈ l) := by
  induction l with
  | nil => rfl
  | cons v l ih =>
    show (eqV v .non || inV .non l) = _
    rw [ih fun u hu => h u (List.mem_cons_of_mem _ hu)]
    rcases h v List.mem_cons_self with rfl | ⟨y, rfl, _⟩
    · exact (decide_eq_true (List.mem_cons_self)).symm
    · show (false || _) = _
      rw [Bool.false_or]
      exact decide_eq_decide.mpr ⟨fun q => List.mem_cons_of_mem _ q, fun q => (List.mem_cons.mp q).resolve_left (fun e => nomatch e)⟩
section
variable {P : Program} {w : World} {K : PySem.W.Frag} {mg : Str → Option Value} {base : Heap}
def spReached (C : Addr) : Sp := fun vs H Q _ => ∃ (m a b : Addr) (e z : Str) (zs ys ends dots ss ps : List Str) (o n : Str → List (Str × V)), vs = [.ref m, .ref a, .ref b, .str e, .str z] ∧ NetAt C H m ends dots ss ps o n ∧ ModelOk ends dots ss ps ∧ e ∈ ends ∧ z ∈ dots ∧ TabOk dots e (o e) ∧ TabOk dots e (n e) ∧
  LotAt H a zs (moving ends dots o n) ∧ LotAt H b ys (moving ends dots o n) ∧ (∀ y ∈ ys, y ∉ zs) ∧ ∀ p t xs b1 b2 H', Evl.Ex H H' → ReachedAt dots (spotsOf (o e) (n e) zs ys) e z H' p t xs b1 b2 → Q (.ref p) H'
abbrev nNodesR : List Str := ["mixture", "starts", "found", "_", "begun", "place"]
theorem sc_nodesR : FnScope nNodesR ["mixture", "starts"] (defScope p_nodes_reached) := ⟨rfl, rfl, rfl, by decide +kernel, rfl, by decide +kernel, by decide +kernel⟩
def spNR (K : PySem.W.Frag) : Sp := fun vs H Q _ => ∃ (D S : Addr) (zs dots : List Str) (f : Str → List V), vs = [.ref D, .ref S] ∧ MixW H D dots f ∧ Webs dots f ∧ dots.length ≤ 6 ∧ SqL K H S (zs.map V.str) ∧ zs.Nodup ∧ (∀ z ∈ zs, z ∈ dots) ∧
  ∀ (p : Addr) (xs : List Str) (H' : Hp), Evl.Ex H H' → H' p = some (.lst (xs.map V.str)) → sortedS xs = true → xs.Nodup → (∀ y, y ∈ xs ↔ ∃ s ∈ zs, Reach dots f s y) → Q (.ref p) H'
theorem ok_nr {f : Addr} {fd : FuncData} (F : Fun K "nodes_reached" "nodes_reached" p_nodes_reached f fd) (C2 : Cal P w K mg base 1 "nodes_behind" ["mixture", "node"] spBehind)
    (mSorted : mg "sorted" = none) (mSet : mg "set" = none) : FnOk P w K mg base CX0 2 f fd ["mixture", "starts"] (spNR K) := by
  obtain ⟨f2, fd2, F2, k2, b2, g2⟩ := C2.ex
  refine F.ok sc_nodesR (fun vs H Q E h => ?_) (fun cdv A outer s H vs Q E hr h => ?_)
  · obtain ⟨D, S, zs, dots, f, rfl, _⟩ := h
    rfl
  · obtain ⟨D, S, zs, dots, f, rfl, M, W, d6, hS, zn, zd, k⟩ := h
    have nd := sc_nodesR.nd
    have hu := hu_of hr
    have hr1 : Room 1 _ := hr.mono (by decide)
    refine ⟨_, PSs.nox (pss_cons (ps_set (i := 2) nd rfl (.inl rfl) (pe_callB cr_sortedS (by rfl) mSorted (by decide +kernel) (pa_cons (pv 1) pa_nil)))
      (pss_cons (ps_lock (ps_for PassesOwn.never rfl (pi_keys (pv 0)) (pg_name (i := 3) nd rfl (.inl rfl))
        (pss_one (ps_set (i := 2) nd rfl (.inl rfl) (pe_callB (cr_sortedX rfl) (by rfl) mSorted (by decide +kernel) (pa_cons (pe_callTy (cr_setX rfl) (by rfl) mSet (by decide +kernel) (pa_cons (pe_op op_cat (pv 2)
          (pe_lc2 (own := [("begun", 4), ("place", 5)]) (vs1 := [5]) (g := gName 4) (tt := tYes) (g1 := gName 5) (tt1 := tYes) (wi1 := iList K (tCall spBehind [] E0 (tCons (tVar 0) (tCons (tVar 4) tNil)))) (te := tVar 5) rfl nd (pi_list (pv 2)) (blkOk_by (own := [("begun", 4), ("place", 5)]) (N := nNodesR) (sc := defScope p_nodes_reached) (by decide +kernel)) (by decide)
            (fun _ _ _ _ _ => pg_name (i := 4) nd rfl (Or.inl rfl)) (fun _ _ _ _ _ => pts_nil) (fun _ _ _ _ _ => pi_list (pe_call F2 hr1 rfl g2 k2 b2 .nil pass0 (pa_cons (pv 0) (pa_cons (pv 4) pa_nil))))
            (fun _ _ _ _ _ => pg_name (i := 5) nd rfl (Or.inl rfl)) (fun _ _ _ _ _ => pts_nil) (fun _ _ _ _ _ => pv 5))) pa_nil)) pa_nil))))))
      (pss_one (ps_ret (pv 2))))), ?_⟩
    have zl : zs.length ≤ 6 := Nat.le_trans (nodup_le zs dots zn zd) d6
    obtain ⟨rs, r1, r2, r3⟩ := M.ex
    have rl : rs.length = dots.length := by rw [← r2, List.length_map]
    have tl : (tkv rs).length = dots.length := by rw [tkv_len, rl]
    -- found = sorted(starts)
    refine ⟨.ref S, rfl, S, zs, rfl, hS, by omega, fun vs0 F0 hvs hso0 hF0 => ?_⟩
    have y1 : Evl.Ex H (upd H F0 (.lst (vs0.map V.str))) := Evl.Ex.new hF0
    have l1 : (upd H F0 (.lst (vs0.map V.str))) F0 = some (.lst (vs0.map V.str)) := upd_same
    generalize upd H F0 (.lst (vs0.map V.str)) = H2 at y1 l1
    have x2 := y1
    have r12 := y1 _ _ r1
    -- for _ in mixture
    refine ⟨D, .dK (tkv rs), r12, trivial, fun od => ?_⟩
    have lockB : (upd H2 D (.frz od (.dK (tkv rs)))) D = some (.frz od (.dK (tkv rs))) := upd_same
    have back : ∀ {H4 : Hp}, Evl.Ex (upd H2 D (.frz od (.dK (tkv rs)))) H4 → Evl.Ex H2 (upd H4 D (.dK (tkv rs))) := fun {H4} x b u h => by
      by_cases q : b = D
      · subst q
        rw [upd_same, ← r12, h]
      · rw [upd_ne q]
        exact x _ _ (by rw [upd_ne q]; exact h)
    have MB : MixR (upd H2 D (.frz od (.dK (tkv rs)))) D dots f := ⟨rs, .inr ⟨od, lockB⟩, r2, fun q hq => let ⟨l, e1, e3⟩ := r3 q hq; ⟨l, e1, by rw [upd_ne (ne_of e3 r1 (by intro z; cases z))]; exact y1 _ _ e3⟩⟩
    have lB : (upd H2 D (.frz od (.dK (tkv rs)))) F0 = some (.lst (vs0.map V.str)) := by rw [upd_ne (ne_of l1 r12 (by intro z; cases z))]; exact l1
    generalize upd H2 D (.frz od (.dK (tkv rs))) = HB at lockB back MB lB
    refine ⟨.ref D, rfl, D, od, rfl, .inl ⟨tkv rs, lockB, for_it walk_keys
      (fun i σ H' => ∃ (x7 : Option V) (Fa : Addr) (xs : List Str), σ = [some (.ref D), some (.ref S), some (.ref Fa), x7, none, none] ∧ Evl.Ex HB H' ∧ H' Fa = some (.lst (xs.map V.str)) ∧ sortedS xs = true ∧ xs.Nodup ∧ (∀ y, y ∈ xs ↔ ∃ s ∈ zs, ReachK dots f s i y))
      ⟨none, F0, vs0, rfl, Evl.Ex.refl _, lB, hso0, hvs.nodup_iff.mpr zn, fun y => by
        rw [hvs.mem_iff]
        exact ⟨fun hy => ⟨y, hy, (reachK_zero (zd y hy)).mpr rfl⟩, fun ⟨s, hs, h⟩ => by rw [(reachK_zero (zd s hs)).mp h]; exact hs⟩⟩ (fun i σ H' _ ⟨_, _, _, _, x, _⟩ => x _ _ lockB) ?_ ?_⟩⟩
    · rintro i x σ H3 H3' hi ⟨x7, Fa, xs, rfl, x3, l3, so3, nd3, all3⟩ ⟨rfl, kk, v, hkv, rfl⟩
      have sub3 : ∀ y ∈ xs, y ∈ dots := fun y hy => let ⟨_, _, h⟩ := (all3 y).mp hy; reachK_dots h
      have few : xs.length ≤ 6 := Nat.le_trans (nodup_le xs dots nd3 sub3) d6
      refine ⟨.ref Fa, rfl, .ref Fa, rfl, Fa, rfl, ⟨_, Evl.sq_of l3⟩, fun R2 hR2 => lc2_out (walk_list (xs := xs.map V.str))
        (fun j H5 => Evl.Ex H3' H5 ∧ ∃ us : List Str, H5 R2 = some (.lst (us.map V.str)) ∧ us = (xs.take j).flatMap (behind dots f) ∧ us.length ≤ 2 * j)
        ⟨Evl.Ex.new hR2, [], upd_same, rfl, Nat.le_refl _⟩ (fun j H5 _ h => Evl.sq_of (h.1 _ _ l3)) ?_ ?_⟩
      · rintro j v H5 H5' hj ⟨x5, us, p5, eus, lus⟩ ⟨rfl, hv⟩
        rw [List.length_map] at hj
        obtain ⟨y, hy, rfl⟩ := str_at hv
        have yd := sub3 y (List.mem_of_getElem? hy)
        refine ⟨rfl, ?_⟩
        refine yes_if ?_
        refine ⟨.ref D, rfl, .str y, rfl, D, y, dots, f, rfl, MB.to (x3.trans x5), yd, W, fun bl H6 x6 hbl b6 => ?_⟩
        have bl2 : (behind dots f y).length ≤ 2 := Nat.le_trans (List.length_filterMap_le _ _) (W.two _ yd)
        refine ⟨bl, rfl, ⟨_, Evl.sq_of b6⟩, lc2_in (walk_list (xs := (behind dots f y).map V.str))
          (fun l H8 => Evl.Ex H3' H8 ∧ H8 bl = some (.lst ((behind dots f y).map V.str)) ∧ ∃ us3 : List Str, H8 R2 = some (.lst (us3.map V.str)) ∧ us3 = us ++ (behind dots f y).take l ∧ us3.length ≤ 2 * j + l)
          ⟨x5.trans x6, b6, us, x6 _ _ p5, by rw [List.take_zero, List.append_nil], lus⟩ (fun l H8 _ h => Evl.sq_of h.2.1) ?_ ?_⟩
        · rintro l v H8 H8' hl ⟨x8, s8, us3, p3, e3, l3'⟩ ⟨rfl, hv8⟩
          obtain ⟨u, hu', rfl⟩ := str_at hv8
          rw [List.length_map] at hl
          refine ⟨rfl, ?_⟩
          refine yes_if ?_
          have nSR : bl ≠ R2 := (ne_of_none p5 hbl).symm
          refine ⟨.str u, rfl, _, p3, by rw [List.length_map]; exact small1000 (by omega), x8.mut hR2, by rw [upd_ne nSR]; exact s8, us3 ++ [u], ?_, ?_, ?_⟩
          · rw [upd_same, List.map_append]
            rfl
          · rw [e3, List.take_add_one, hu', List.append_assoc]
            rfl
          · rw [List.length_append]
            show us3.length + 1 ≤ _
            omega
        · rintro H8 ⟨x8, s8, us3, p3, e3, l3'⟩
          rw [List.length_map, List.take_length] at e3
          rw [List.length_map] at l3'
          refine ⟨x8, us3, p3, ?_, by omega⟩
          rw [e3, eus, List.take_add_one, hy, List.flatMap_append]
          show _ = _ ++ (behind dots f y ++ [])
          rw [List.append_nil]
      · rintro H5 ⟨x5, us, p5, eus, lus⟩
        rw [List.length_map] at lus eus
        rw [List.take_length] at eus
        -- found + [..]
        refine ⟨Fa, R2, xs.map V.str, us.map V.str, rfl, rfl, x5 _ _ l3, p5, by rw [List.length_map, List.length_map]; exact Nat.le_of_lt (small1000 (by omega)), fun c hc => ?_⟩
        have y6 : Evl.Ex H5 (upd H5 c (.lst (xs.map V.str ++ us.map V.str))) := Evl.Ex.new hc
        have c6 : (upd H5 c (.lst (xs.map V.str ++ us.map V.str))) c = some (.lst ((xs ++ us).map V.str)) := by rw [upd_same, List.map_append]
        generalize upd H5 c (.lst (xs.map V.str ++ us.map V.str)) = H6 at y6 c6
        refine ⟨c, xs ++ us, rfl, .inl (Evl.sq_of c6), by rw [List.length_append]; omega, fun q hq => ?_⟩
        have y7 := Evl.Ex.new (o := SetXO w q (seen (xs ++ us))) hq
        obtain ⟨sn, sm, sl⟩ := seen_rev (xs ++ us)
        refine ⟨q, seen (xs ++ us), rfl, upd_same, by rw [List.length_append] at sl; omega, fun ws l hws hso hl => ?_⟩
        have y8 := Evl.Ex.new (o := HO.lst (ws.map V.str)) hl
        refine ⟨_, l, ws, rfl, ((x3.trans x5).trans y6).trans (y7.trans y8), upd_same, hso, hws.nodup_iff.mpr sn, fun y => ?_⟩
        rw [hws.mem_iff, sm y, List.mem_append, all3 y, eus, List.mem_flatMap]
        constructor
        · rintro (⟨s, hs, h⟩ | ⟨x, h1, h2⟩)
          · exact ⟨s, hs, reachK_next.mpr (.inl h)⟩
          · obtain ⟨s, hs, h⟩ := (all3 x).mp h1
            exact ⟨s, hs, reachK_next.mpr (.inr ⟨x, h, h2⟩)⟩
        · rintro ⟨s, hs, h⟩
          rcases reachK_next.mp h with h | ⟨x, h, h2⟩
          · exact .inl ⟨s, hs, h⟩
          · exact .inr ⟨x, (all3 x).mpr ⟨s, hs, h⟩, h2⟩
    · rintro σ H3 ⟨x7, Fa, xs, rfl, x3, l3, so3, nd3, all3⟩
      rw [tl] at all3
      refine ⟨x3 _ _ lockB, ?_⟩
      have yb := back x3
      have l4 : (upd H3 D (.dK (tkv rs))) Fa = some (.lst (xs.map V.str)) := by rw [upd_ne (ne_of l3 (x3 _ _ lockB) (by intro z; cases z))]; exact l3
      generalize upd H3 D (.dK (tkv rs)) = H4 at yb l4
      exact ⟨.ref Fa, rfl, k Fa xs H4 (x2.trans yb) l4 so3 nd3 fun y => (all3 y).trans ⟨fun ⟨s, hs, h⟩ => ⟨s, hs, reachK_all.mp h⟩, fun ⟨s, hs, h⟩ => ⟨s, hs, reachK_all.mpr h⟩⟩⟩
abbrev nReached : List Str := ["net", "done", "lot", "goal", "node", "mixture", "found", "ends", "begun", "place"]
theorem sc_reached : FnScope nReached ["net", "done", "lot", "goal", "node"] (defScope p_reached) := ⟨rfl, rfl, rfl, by decide +kernel, rfl, by decide +kernel, by decide +kernel⟩
theorem ok_reached {f C : Addr} {fd : FuncData} (F : Fun K "reached" "reached" p_reached f fd) (C1 : Cal P w K mg base 6 "ways" ["net", "done", "lot", "goal"] (spMix C)) (C2 : Cal P w K mg base 2 "nodes_reached" ["mixture", "starts"] (spNR K)) (C3 : Cal P w K mg base 3 "check_node" ["net", "node"] (spCheckDot C))
    (mTup : mg "tuple" = none) (mSorted : mg "sorted" = none) (mSet : mg "set" = none) : FnOk P w K mg base CX0 7 f fd ["net", "done", "lot", "goal", "node"] (spReached C) := by
  obtain ⟨f1, fd1, F1, k1, b1, g1⟩ := C1.ex
  obtain ⟨f2, fd2, F2, k2, b2, g2⟩ := C2.ex
  obtain ⟨f3, fd3, F3, k3, b3, g3⟩ := C3.ex
  refine F.ok sc_reached (fun vs H Q E h => ?_) (fun cdv A outer s H vs Q E hr h => ?_)
  · obtain ⟨m, a, b, e, z, zs, ys, ends, dots, ss, ps, o, n, rfl, _⟩ := h
    rfl
  · obtain ⟨m, a, b, e, z, zs, ys, ends, dots, ss, ps, o, n, rfl, N, ok, he, hz, t1, t2, La, Lb, dis, k⟩ := h
    have nd := sc_reached.nd
    have hu := hu_of hr
    have hr3 : Room 3 _ := hr.mono (by decide)
    refine ⟨_, PSs.nox (pss_cons (ps_set (i := 5) nd rfl (.inr rfl) (pe_call F1 hr rfl g1 k1 b1 .nil pass0 (pa_cons (pv 0) (pa_cons (pv 1) (pa_cons (pv 2) (pa_cons (pv 3) pa_nil))))))
      (pss_cons (ps_expr (pe_call F3 hr3 rfl g3 k3 b3 .nil pass0 (pa_cons (pv 0) (pa_cons (pv 4) pa_nil))))
      (pss_cons (ps_set (i := 6) nd rfl (.inl rfl) (pe_call F2 (hr.mono (by decide)) rfl g2 k2 b2 .nil pass0 (pa_cons (pv 5) (pa_cons (pe_lst (pa_cons (pv 4) pa_nil)) pa_nil))))
      (pss_cons (ps_setLc2 (i := 7) (own := [("begun", 8), ("place", 9)]) (vs1 := [9]) (g := gName 8) (tt := tYes) (g1 := gName 9) (tt1 := tYes) (wi1 := iList K (tDGet (tVar 5) (tVar 8))) (te := tVar 9)
          (by rfl) nd rfl rfl (sw_true rfl rfl rfl (by decide +kernel)) (pi_list (pv 6)) (blkOk_by (own := [("begun", 8), ("place", 9)]) (N := nReached) (sc := defScope p_reached) (by decide +kernel)) (by decide)
          (fun _ _ _ _ _ => pg_name (i := 8) nd rfl (Or.inl rfl)) (fun _ _ _ _ _ => pts_nil) (fun _ _ _ _ _ => pi_list (pe_dget hu (pv 5) (pv 8) (fun _ _ => rfl)))
          (fun _ _ _ _ _ => pg_name (i := 9) nd rfl (Or.inl rfl)) (fun _ _ _ _ _ => pts_nil) (fun _ _ _ _ _ => pv 9))
      (pss_one (ps_ret (pe_tup (pa_cons (pe_callTy call_tuple_of (by rfl) mTup (by decide +kernel) (pa_cons (pv 6) pa_nil)) (pa_cons (pe_cmpR op_in_seq (pv 3) (pv 7) rfl) (pa_cons (pe_cmpR op_in_seq pe_non (pv 7) rfl) pa_nil)))))))))), ?_⟩
    have d6 := ok.d6
    have W : Webs dots (spotsOf (o e) (n e) zs ys) := webs_of ok he t1 t2
    generalize hf : spotsOf (o e) (n e) zs ys = f at W k
    refine ⟨.ref m, rfl, .ref a, rfl, .ref b, rfl, .str e, rfl, m, a, b, e, zs, ys, ends, dots, ss, ps, o, n, rfl, N, ok, he, La, Lb, dis, fun D H1 x1 hD M => ?_⟩
    rw [hf] at M
    obtain ⟨rs, r1, r2, r3⟩ := M.ex
    have rl : rs.length = dots.length := by rw [← r2, List.length_map]
    have tl : (tkv rs).length = dots.length := by rw [tkv_len, rl]
    -- check_node
    refine ⟨.ref m, rfl, .str z, rfl, m, z, ends, dots, ss, ps, o, n, rfl, N.to x1, hz, ?_⟩
    -- found
    refine ⟨.ref D, rfl, .str z, rfl, by show 1 ≤ sizeLine; decide, fun F0 hF0 => ?_⟩
    have y1 : Evl.Ex H1 (upd H1 F0 (.lst [.str z])) := Evl.Ex.new hF0
    have l1 : (upd H1 F0 (.lst [.str z])) F0 = some (.lst ([z].map V.str)) := upd_same
    have n01 : F0 ≠ D := (ne_of_none r1 hF0).symm
    generalize upd H1 F0 (.lst [.str z]) = H2 at y1 l1
    have M2 : MixW H2 D dots f := ⟨rs, y1 _ _ r1, r2, fun q hq => let ⟨l, e1, _, e3⟩ := r3 q hq; ⟨l, e1, y1 _ _ e3⟩⟩
    refine ⟨D, F0, [z], dots, f, rfl, M2, W, d6, Evl.sq_of l1, by simp, fun y hy => by rw [List.mem_singleton.mp hy]; exact hz, fun Fa xs H4 yb l4 so3 nd3 all3 => ?_⟩
    have all : ∀ y, y ∈ xs ↔ Reach dots f z y := fun y => (all3 y).trans ⟨fun ⟨s, hs, h⟩ => by rw [List.mem_singleton.mp hs] at h; exact h, fun h => ⟨z, List.mem_singleton.mpr rfl, h⟩⟩
    have sub3 : ∀ y ∈ xs, y ∈ dots := fun y hy => reachK_dots (reachK_all.mpr ((all y).mp hy))
    have few : xs.length ≤ 6 := Nat.le_trans (nodup_le xs dots nd3 sub3) d6
    have x4 := (x1.trans y1).trans yb
    have M4 : MixR H4 D dots f := M2.r.to yb
    -- ends
    refine ⟨.ref Fa, rfl, Fa, rfl, ⟨_, Evl.sq_of l4⟩, fun E0' hE0 => lc2_out (walk_list (xs := xs.map V.str))
      (fun j H5 => Evl.Ex H4 H5 ∧ ∃ us : List V, H5 E0' = some (.lst us) ∧ us = (xs.take j).flatMap f ∧ us.length ≤ 2 * j)
      ⟨Evl.Ex.new hE0, [], upd_same, rfl, Nat.le_refl _⟩ (fun j H5 _ h => Evl.sq_of (h.1 _ _ l4)) ?_ ?_⟩
    · rintro j v H5 H5' hj ⟨x5, us, p5, eus, lus⟩ ⟨rfl, hv⟩
      rw [List.length_map] at hj
      obtain ⟨y, hy, rfl⟩ := str_at hv
      have yd := sub3 y (List.mem_of_getElem? hy)
      obtain ⟨rs4, q1, q2, q3⟩ := M4.ex
      obtain ⟨vv, hv1, hm⟩ := tkv_some (tb := rs4) (z := y) (by rw [q2]; exact yd)
      obtain ⟨l, ea, hl4⟩ := q3 _ hm
      have ea' : vv = .ref l := ea
      subst ea'
      have gl : DGet H5' D (.str y) (some (.ref l)) := dget_rd (k := Sum.inr y) (rd_ex x5 q1) hv1
      have hl := x5 _ _ hl4
      have nlE : l ≠ E0' := ne_of_none hl4 hE0
      have two := W.two y yd
      refine ⟨rfl, ?_⟩
      refine yes_if ?_
      refine ⟨.ref D, rfl, .str y, rfl, D, .ref l, rfl, gl, l, rfl, ⟨_, Evl.sq_of hl⟩, lc2_in (walk_list (xs := f y))
        (fun i H8 => Evl.Ex H4 H8 ∧ H8 l = some (.lst (f y)) ∧ ∃ us3 : List V, H8 E0' = some (.lst us3) ∧ us3 = us ++ (f y).take i ∧ us3.length ≤ 2 * j + i)
        ⟨x5, hl, us, p5, by rw [List.take_zero, List.append_nil], lus⟩ (fun i H8 _ h => Evl.sq_of h.2.1) ?_ ?_⟩
      · rintro i v H8 H8' hi ⟨x8, s8, us3, p3, e3, l3'⟩ ⟨rfl, hv8⟩
        refine ⟨rfl, ?_⟩
        refine yes_if ?_
        refine ⟨v, rfl, _, p3, small1000 (by omega), x8.mut hE0, by rw [upd_ne nlE]; exact s8, us3 ++ [v], upd_same, ?_, ?_⟩
        · rw [e3, List.take_add_one, hv8, List.append_assoc]
          rfl
        · rw [List.length_append]
          show us3.length + 1 ≤ _
          omega
      · rintro H8 ⟨x8, s8, us3, p3, e3, l3'⟩
        rw [List.take_length] at e3
        refine ⟨x8, us3, p3, ?_, by omega⟩
        rw [e3, eus, List.take_add_one, hy, List.flatMap_append]
        show _ = _ ++ (f y ++ [])
        rw [List.append_nil]
    · rintro H5 ⟨x5, us, p5, eus, lus⟩
      rw [List.length_map, List.take_length] at eus
      have spo : ∀ v ∈ us, Spot v := fun v hv => by
        rw [eus] at hv
        obtain ⟨y, hy, hv⟩ := List.mem_flatMap.mp hv
        exact W.sp y (sub3 y hy) v hv
      have has : ∀ v : V, v ∈ us ↔ ∃ y ∈ xs, v ∈ f y := fun v => by rw [eus]; exact List.mem_flatMap
      -- (tuple(found), goal in ends, None in ends)
      refine ⟨.ref Fa, rfl, Fa, _, rfl, .inl ⟨Evl.sq_of (x5 _ _ l4), fun t ht => ?_⟩⟩
      have y6 : Evl.Ex H5 (upd H5 t (.tup (xs.map V.str))) := Evl.Ex.new ht
      have t6 : (upd H5 t (.tup (xs.map V.str))) t = some (.tup (xs.map V.str)) := upd_same
      generalize upd H5 t (.tup (xs.map V.str)) = H6 at y6 t6
      have p6 := y6 _ _ p5
      refine ⟨.str e, rfl, .ref E0', rfl, E0', _, rfl, .inl (Evl.sq_of p6), rfl, flat_spots spo, ?_⟩
      rw [if_neg (by decide), inV_spots e spo]
      refine ⟨.ref E0', rfl, E0', _, rfl, .inl (Evl.sq_of p6), rfl, flat_spots spo, ?_⟩
      rw [if_neg (by decide), inV_non spo]
      refine ⟨by show 3 ≤ sizeLine; decide, fun p hp => ?_⟩
      have y7 : Evl.Ex H6 (upd H6 p (.tup [.ref t, .bl (decide (V.str e ∈ us)), .bl (decide (V.non ∈ us))])) := Evl.Ex.new hp
      exact k p t xs _ _ _ ((x4.trans x5).trans (y6.trans y7)) ⟨upd_same, y7 _ _ t6, so3, nd3, all, sub3, by rw [decide_eq_true_eq]; exact has _, by rw [decide_eq_true_eq]; exact has _⟩
end
end Rw
end T_R8

section T_R2
set_option Elab.async false
set_option linter.all false
set_option maxRecDepth 100000
set_option maxHeartbeats 4000000
namespace Rw
open PySem L2 PyProof.Rows
/-! ### depths -/
def depthV (n : Nat) (e : Str) (tb : List (Str × V)) (z : Str) : V := if (walkOf tb n z).getLast? = some (.str e) then .int ((walkOf tb n z).length - 1) else .non
def depthT (l dots : List Str) (e : Str) (tb : List (Str × V)) : List (Str × V) := l.map fun z => (z, depthV (dots.length + 1) e tb z)
theorem depthT_keys {l dots : List Str} {e : Str} {tb : List (Str × V)} : (depthT l dots e tb).map (·.1) = l := by
  unfold depthT
  rw [List.map_map]
  exact List.map_id' l
theorem depthT_snoc {l dots : List Str} {e z : Str} {tb : List (Str × V)} (h : z ∉ l) : putK (tkv (depthT l dots e tb)) (Sum.inr z) (depthV (dots.length + 1) e tb z) = tkv (depthT (l ++ [z]) dots e tb) := by
  rw [tkv_new (by rw [depthT_keys]; exact h)]
  unfold depthT
  rw [List.map_append]
  rfl
theorem canon_lead {dots : List Str} {e : Str} {tb : List (Str × V)} (h : TabOk dots e (canon dots tb)) (hz : ∀ y ∈ dots, Nm y) (he : Nm e) : LeadOk dots (canon dots tb) :=
  ⟨canon_keys _ _, fun q hq => place_spot (h.ps q hq) hz he, hz⟩
theorem walk_ends {tb : List (Str × V)} {n : Nat} {z : Str} (h : ∀ q ∈ tb, Spot q.2) (hz : Nm z) : ∃ (us : List V) (v : V), walkOf tb n z = us ++ [v] ∧ Spot v := by
  have sp := track_spots h n [] (.str z) (fun y hy => by cases hy) (.inr ⟨z, rfl, hz⟩)
  have ne : walkOf tb n z ≠ [] := by
    have len : ∀ (k : Nat) (zs : List Str) (v : V), track tb k zs v ≠ [] := fun k => by
      induction k with
      | zero => intro zs v; exact fun e => by have := congrArg List.length e; rw [show track tb 0 zs v = zs.map V.str ++ [v] from rfl, List.length_append] at this; simp at this
      | succ k ih =>
        intro zs v
        have b : zs.map V.str ++ [v] ≠ [] := fun e => by have := congrArg List.length e; rw [List.length_append] at this; simp at this
        cases v with
        | str y =>
          cases q : valV (tkv tb) (Sum.inr y) with
          | none => rw [track_out q]; exact b
          | some w =>
            by_cases m : y ∈ zs
            · rw [track_ring m]; exact b
            · rw [track_on q m]; exact ih _ _
        | _ => exact b
    exact len _ _ _
  obtain ⟨us, v, e⟩ : ∃ us v, walkOf tb n z = us ++ [v] := ⟨_, _, (List.dropLast_concat_getLast ne).symm⟩
  exact ⟨us, v, e, sp v (by show v ∈ walkOf tb n z; rw [e]; exact List.mem_append_right _ List.mem_cons_self)⟩
section
variable {P : Program} {w : World} {K : PySem.W.Frag} {mg : Str → Option Value} {base : Heap}
def spDepths (C : Addr) : Sp := fun vs H Q _ => ∃ (m : Addr) (e : Str) (b : Bool) (ends dots ss ps : List Str) (o n : Str → List (Str × V)), vs = [.ref m, .str e, .bl b] ∧ NetAt C H m ends dots ss ps o n ∧ ModelOk ends dots ss ps ∧ e ∈ ends ∧
  ∀ D H', Evl.Ex H H' → H D = none → H' D = some (.dK (tkv (depthT dots dots e (canon dots (if b = true then n e else o e))))) → Q (.ref D) H'
abbrev nDepths : List Str := ["net", "goal", "is_new", "old", "new", "found", "node", "places"]
theorem sc_depths : FnScope nDepths ["net", "goal", "is_new"] (defScope p_depths) := ⟨rfl, rfl, rfl, by decide +kernel, rfl, by decide +kernel, by decide +kernel⟩
theorem ok_depths {f C : Addr} {fd : FuncData} (F : Fun K "depths" "depths" p_depths f fd) (T : NetTxt K C) (C1 : Cal P w K mg base 1 "check_net" ["net"] (spCheckNet C)) (C2 : Cal P w K mg base 3 "check_goal" ["net", "goal"] (spCheckGoal C))
    (P1 : Prp P w K mg base C 1 "tables" (spTabs C)) (P2 : Prp P w K mg base C 1 "nodes" (spDots C)) (C5 : Cal P w K mg base 1 "followed" ["table", "node"] spFollowed) (mLen : mg "len" = none) : FnOk P w K mg base CX0 4 f fd ["net", "goal", "is_new"] (spDepths C) := by
  obtain ⟨f1, fd1, F1, k1, b1, g1⟩ := C1.ex
  obtain ⟨f2, fd2, F2, k2, b2, g2⟩ := C2.ex
  obtain ⟨p3, g3, fd3, at3, F3, b3⟩ := P1.ex
  obtain ⟨p4, g4, fd4, at4, F4, b4⟩ := P2.ex
  obtain ⟨f5, fd5, F5, k5, b5, g5⟩ := C5.ex
  refine F.ok sc_depths (fun vs H Q E h => ?_) (fun cdv A outer s H vs Q E hr h => ?_)
  · obtain ⟨m, e, b, ends, dots, ss, ps, o, n, rfl, _⟩ := h
    rfl
  · obtain ⟨m, e, b, ends, dots, ss, ps, o, n, rfl, N, ok, he, k⟩ := h
    have nd := sc_depths.nd
    have hu := hu_of hr
    have hr1 : Room 1 _ := hr.mono (by decide)
    have hr2 : Room 2 _ := hr.mono (by decide)
    have e2 := ok.e2
    have d6 := ok.d6
    refine ⟨_, PSs.nox (pss_cons (ps_expr (pe_call F1 hr1 rfl g1 k1 b1 .nil pass0 (pa_cons (pv 0) pa_nil)))
      (pss_cons (ps_expr (pe_call F2 hr rfl g2 k2 b2 .nil pass0 (pa_cons (pv 0) (pa_cons (pv 1) pa_nil))))
      (pss_cons (ps_asg (pe_dget hu (pe_prop (pv 0) T.cl at3 F3 hr2 b3 .nil pass0 rfl) (pv 1) (fun _ _ => rfl)) (pg_tup rfl (pgs_cons (pg_name (i := 3) nd rfl (.inl rfl)) (pgs_cons (pg_name (i := 4) nd rfl (.inl rfl)) pgs_nil))))
      (pss_cons (ps_set (i := 5) nd rfl (.inl rfl) pe_dnewK)
      (pss_cons (ps_for PassesOwn.never rfl (pi_tup (pe_prop (pv 0) T.cl at4 F4 hr2 b4 .nil pass0 rfl)) (pg_name (i := 6) nd rfl (.inl rfl))
        (pss_cons (ps_set (i := 7) nd rfl (.inl rfl) (pe_call F5 hr1 rfl g5 k5 b5 .nil pass0 (pa_cons (pe_ifExp (pt_val (pv 2)) (pv 4) (pv 3)) (pa_cons (pv 6) pa_nil))))
        (pss_one (ps_dput hu (pv 5) (pv 6) (pe_ifExp (pt_cmpR op_eq (pe_ix ix_list (pv 7) (pe_un un_neg pe_int) (fun _ _ => rfl)) (pv 1) (nomark _)) (pe_op op_sub (pe_callB call_len (by rfl) mLen PySem.boot_len (pa_cons (pv 7) pa_nil)) pe_int) pe_non) rfl))))
      (pss_one (ps_ret (pv 5)))))))), ?_⟩
    refine ⟨.ref m, rfl, m, ends, dots, ss, ps, o, n, rfl, N, ?_⟩
    refine ⟨.ref m, rfl, .str e, rfl, m, e, ends, dots, ss, ps, o, n, rfl, N, by omega, he, fun H2 x2 => ?_⟩
    have N2 := N.to x2
    obtain ⟨dx, T', N', S, Po, rows0, h1, _⟩ := N2.ex
    refine ⟨.ref m, rfl, m, dx, _, rfl, h1, m, ends, dots, ss, ps, o, n, rfl, N2, ok.e0, by omega, ok.en, fun TD TT H3 x3 _ tabs => ?_⟩
    have hTD := tabs.hd
    obtain ⟨p, po, pn, hv, pa⟩ := tabs.rows ok.en e he
    have x23 := x2.trans x3
    refine ⟨.str e, rfl, TD, .ref p, rfl, dget_of (k := Sum.inr e) hTD hv, p, _, rfl, Evl.st_of pa.hp, rfl, _, _, rfl, _, [], rfl, rfl, ?_⟩
    refine fun D hD => ?_
    have x4 : Evl.Ex H3 (upd H3 D (.dK [])) := Evl.Ex.new hD
    have hD0 : H D = none := ex_none x23 hD
    have d4 : (upd H3 D (.dK [])) D = some (.dK (tkv [])) := upd_same
    generalize upd H3 D (.dK []) = H4 at x4 d4
    have x14 := x23.trans x4
    have pa4 := pa.ex x4
    have N4 := N.to x14
    have nme := ok.em e he
    refine ⟨.ref m, rfl, m, dx, _, rfl, (x3.trans x4) _ _ h1, m, ends, dots, ss, ps, o, n, rfl, N4, fun q hq => ⟨q, rfl, ⟨_, Evl.st_of hq⟩, for_tup (K := K) (a := q) (xs := dots.map V.str)
      (fun i σ H' => ∃ x6 x7 : Option V, σ = [some (.ref m), some (.str e), some (.bl b), some (.ref po), some (.ref pn), some (.ref D), x6, x7] ∧ i ≤ dots.length ∧ Evl.Ex H H' ∧ H' q = some (.tup (dots.map V.str)) ∧ H' po = some (.dK (tkv (canon dots (o e)))) ∧ H' pn = some (.dK (tkv (canon dots (n e)))) ∧ po ≠ D ∧ pn ≠ D ∧
        H' D = some (.dK (tkv (depthT (dots.take i) dots e (canon dots (if b = true then n e else o e))))))
      ⟨_, _, rfl, Nat.zero_le _, x14, hq, pa4.ho, pa4.hn, ne_of_none pa.ho hD, ne_of_none pa.hn hD, d4⟩ (fun i σ H' _ ⟨_, _, _, _, _, h, _⟩ => Evl.st_of h) ?_ ?_⟩⟩
    · rintro i y σ H5 hi ⟨x6, x7, rfl, _, x5, q5, o5, n5, npo, npn, d5⟩
      obtain ⟨z, hz, rfl⟩ := str_at hi
      have hil : i < dots.length := (List.getElem?_eq_some_iff.mp hz).1
      have zd := List.mem_of_getElem? hz
      have et : dots.take (i + 1) = dots.take i ++ [z] := by rw [List.take_add_one, hz]; rfl
      have zn : z ∉ dots.take i := fun hm => by
        have q1 : (dots.take (i + 1)).Nodup := ok.dn.sublist (List.take_sublist _ _)
        rw [et] at q1
        exact (List.nodup_append.mp q1).2.2 z hm z (List.mem_singleton.mpr rfl) rfl
      obtain ⟨pt, ht, ept, lead⟩ : ∃ pt : Addr, H5 pt = some (.dK (tkv (canon dots (if b = true then n e else o e)))) ∧ pt = (if b = true then pn else po) ∧ LeadOk dots (canon dots (if b = true then n e else o e)) := by
        cases b with
        | true => exact ⟨pn, n5, rfl, canon_lead pa.o2 ok.dm nme⟩
        | false => exact ⟨po, o5, rfl, canon_lead pa.o1 ok.dm nme⟩
      have pick : ∀ {R : V → Hp → Prop}, R (.ref pt) H5 → tIf (tB (tVar 2)) (tVar 4) (tVar 3) [some (.ref m), some (.str e), some (.bl b), some (.ref po), some (.ref pn), some (.ref D), some (.str z), x7] H5 R := fun {R} r => by
        subst ept
        cases b with
        | true => exact ⟨.bl true, rfl, true, rfl, iteT ⟨.ref pn, rfl, r⟩⟩
        | false => exact ⟨.bl false, rfl, false, rfl, iteF ⟨.ref po, rfl, r⟩⟩
      generalize htb : canon dots (if b = true then n e else o e) = tb at *
      refine pick ⟨.str z, rfl, pt, z, dots, tb, rfl, ht, lead, by omega, ok.dm z zd, fun pl H6 x6' _ p6 => ?_⟩
      obtain ⟨us, v, ew, sv⟩ := walk_ends (n := dots.length + 1) lead.sp (ok.dm z zd)
      have wl : (walkOf tb (dots.length + 1) z).length ≤ dots.length + 2 := by
        have := track_len (tb := tb) (dots.length + 1) [] (.str z)
        rw [List.length_nil] at this
        exact Nat.le_trans this (by omega)
      have dv : depthV (dots.length + 1) e tb z = if v = .str e then .int (((us ++ [v]).length : Nat) - 1) else .non := by
        unfold depthV
        rw [ew, List.getLast?_concat]
        by_cases q : v = .str e
        · rw [if_pos (by rw [q]), if_pos q]
        · rw [if_neg (fun t => q (Option.some.inj t)), if_neg q]
      rw [ew] at p6 wl
      have scv : scal v (.str e) = true := by rcases sv with rfl | ⟨y, rfl, _⟩ <;> rfl
      have x56 := x5.trans x6'
      have small : (tkv (depthT (dots.take i) dots e tb)).length < sizeLine := by
        rw [tkv_len]
        unfold depthT
        rw [List.length_map, List.length_take]
        exact small1000 (by omega)
      have fin : ∀ u, u = depthV (dots.length + 1) e tb z → ∃ y6 y7 : Option V, [some (V.ref m), some (.str e), some (.bl b), some (.ref po), some (.ref pn), some (.ref D), some (.str z), some (.ref pl)] = [some (.ref m), some (.str e), some (.bl b), some (.ref po), some (.ref pn), some (.ref D), y6, y7] ∧ i + 1 ≤ dots.length ∧
          Evl.Ex H (upd H6 D (.dK (putK (tkv (depthT (dots.take i) dots e tb)) (Sum.inr z) u))) ∧ (upd H6 D (.dK (putK (tkv (depthT (dots.take i) dots e tb)) (Sum.inr z) u))) q = some (.tup (dots.map V.str)) ∧ (upd H6 D (.dK (putK (tkv (depthT (dots.take i) dots e tb)) (Sum.inr z) u))) po = some (.dK (tkv (canon dots (o e)))) ∧
          (upd H6 D (.dK (putK (tkv (depthT (dots.take i) dots e tb)) (Sum.inr z) u))) pn = some (.dK (tkv (canon dots (n e)))) ∧ po ≠ D ∧ pn ≠ D ∧ (upd H6 D (.dK (putK (tkv (depthT (dots.take i) dots e tb)) (Sum.inr z) u))) D = some (.dK (tkv (depthT (dots.take (i + 1)) dots e tb))) := by
        rintro u rfl
        exact ⟨_, _, rfl, hil, x56.mut hD0, by rw [upd_ne (ne_of (x6' _ _ q5) (x6' _ _ d5) (by intro t; cases t))]; exact x6' _ _ q5, by rw [upd_ne npo]; exact x6' _ _ o5, by rw [upd_ne npn]; exact x6' _ _ n5, npo, npn, by rw [upd_same, depthT_snoc zn, et]⟩
      refine ⟨.ref pl, rfl, 1, rfl, pl, _, -1, v, rfl, rfl, Evl.sq_of p6, atI_last _ _, .str e, rfl, scv, _, rfl, ?_⟩
      by_cases q : v = .str e
      · rw [decide_eq_true q]
        rw [if_pos q] at dv
        refine iteT ⟨.ref pl, rfl, .ref pl, (us ++ [v]).length, rfl, .inl ⟨_, Evl.sq_of p6, rfl⟩, _, _, rfl, rfl, .ref D, rfl, .str z, rfl, D, _, rfl, DPut.k (k := Sum.inr z) (x6' _ _ d5) small, fin _ dv.symm⟩
      · rw [decide_eq_false q]
        rw [if_neg q] at dv
        exact iteF ⟨.ref D, rfl, .str z, rfl, D, _, rfl, DPut.k (k := Sum.inr z) (x6' _ _ d5) small, fin _ dv.symm⟩
    · rintro σ H5 ⟨x6, x7, rfl, _, x5, q5, o5, n5, npo, npn, d5⟩
      rw [List.length_map, List.take_length] at d5
      exact ⟨.ref D, rfl, k D H5 x5 hD0 d5⟩
end
end Rw
end T_R2

section T_R3
set_option Elab.async false
set_option linter.all false
set_option maxRecDepth 100000
set_option maxHeartbeats 4000000
namespace Rw
open PySem L2 PyProof.Rows
/-! ### is_sound -/
def Sound (ends dots : List Str) (o n : Str → List (Str × V)) : Prop := ∀ e ∈ ends, ∀ b : Bool, ∀ z ∈ dots, depthV (dots.length + 1) e (canon dots (if b = true then n e else o e)) z ≠ .non
theorem depth_two {n : Nat} {e : Str} {tb : List (Str × V)} {z : Str} : depthV n e tb z = .non ∨ ∃ k, depthV n e tb z = .int k := by
  unfold depthV
  split
  · exact .inr ⟨_, rfl⟩
  · exact .inl rfl
theorem inV_hops : ∀ {l : List V}, (∀ v ∈ l, v = .non ∨ ∃ k, v = .int k) → l.all flatV = true ∧ inV .non l = decide (V.non ∈ l)
  | [], _ => ⟨rfl, rfl⟩
  | v :: l, h => by
    obtain ⟨h1, h2⟩ := inV_hops fun u hu => h u (List.mem_cons_of_mem _ hu)
    refine ⟨?_, ?_⟩
    · rw [List.all_cons, h1]
      rcases h v List.mem_cons_self with rfl | ⟨k, rfl⟩ <;> rfl
    · show (eqV v .non || inV .non l) = _
      rw [h2]
      rcases h v List.mem_cons_self with rfl | ⟨k, rfl⟩
      · show (true || _) = _
        rw [Bool.true_or]
        exact (decide_eq_true List.mem_cons_self).symm
      · show (false || _) = _
        rw [Bool.false_or]
        exact decide_eq_decide.mpr ⟨fun q => List.mem_cons_of_mem _ q, fun q => (List.mem_cons.mp q).resolve_left (fun e => nomatch e)⟩
section
variable {P : Program} {w : World} {K : PySem.W.Frag} {mg : Str → Option Value} {base : Heap}
def spSound (C : Addr) : Sp := fun vs H Q _ => ∃ (m : Addr) (ends dots ss ps : List Str) (o n : Str → List (Str × V)), vs = [.ref m] ∧ NetAt C H m ends dots ss ps o n ∧ ModelOk ends dots ss ps ∧
  ∀ (r : Bool) H', Evl.Ex H H' → (r = true ↔ Sound ends dots o n) → Q (.bl r) H'
abbrev nSound : List Str := ["net", "goal", "is_new"]
theorem sc_sound : FnScope nSound ["net"] (defScope p_is_sound) := ⟨rfl, rfl, rfl, by decide +kernel, rfl, by decide +kernel, by decide +kernel⟩
theorem ok_sound {f C : Addr} {fd : FuncData} (F : Fun K "is_sound" "is_sound" p_is_sound f fd) (T : NetTxt K C) (C1 : Cal P w K mg base 1 "check_net" ["net"] (spCheckNet C)) (C2 : Cal P w K mg base 4 "depths" ["net", "goal", "is_new"] (spDepths C))
    (P1 : Prp P w K mg base C 1 "goals" (spGoals C)) (mList : mg "list" = none) : FnOk P w K mg base CX0 5 f fd ["net"] (spSound C) := by
  obtain ⟨f1, fd1, F1, k1, b1, g1⟩ := C1.ex
  obtain ⟨f2, fd2, F2, k2, b2, g2⟩ := C2.ex
  obtain ⟨p3, g3, fd3, at3, F3, b3⟩ := P1.ex
  refine F.ok sc_sound (fun vs H Q E h => ?_) (fun cdv A outer s H vs Q E hr h => ?_)
  · obtain ⟨m, ends, dots, ss, ps, o, n, rfl, _⟩ := h
    rfl
  · obtain ⟨m, ends, dots, ss, ps, o, n, rfl, N, ok, k⟩ := h
    have nd := sc_sound.nd
    have hu := hu_of hr
    have hr1 : Room 1 _ := hr.mono (by decide)
    have hr2 : Room 2 _ := hr.mono (by decide)
    have e2 := ok.e2
    have d6 := ok.d6
    refine ⟨_, PSs.nox (pss_cons (ps_expr (pe_call F1 hr1 rfl g1 k1 b1 .nil pass0 (pa_cons (pv 0) pa_nil)))
      (pss_cons (ps_for PassesOwn.never rfl (pi_tup (pe_prop (pv 0) T.cl at3 F3 hr2 b3 .nil pass0 rfl)) (pg_name (i := 1) nd rfl (.inl rfl))
        (pss_one (ps_for PassesOwn.never rfl (pi_tup (pe_tup (pa_cons pe_bl (pa_cons pe_bl pa_nil)))) (pg_name (i := 2) nd rfl (.inl rfl))
          (pss_one (ps_if (pt_cmpR op_in_seq pe_non (pe_listVals rfl (pe_call F2 hr rfl g2 k2 b2 .nil pass0 (pa_cons (pv 0) (pa_cons (pv 1) (pa_cons (pv 2) pa_nil)))) (by rfl) mList) rfl) (pss_one (ps_ret pe_bl)) pss_nil)))))
      (pss_one (ps_ret pe_bl)))), ?_⟩
    refine ⟨.ref m, rfl, m, ends, dots, ss, ps, o, n, rfl, N, ?_⟩
    obtain ⟨dx, T', N', S, Po, rows0, h1, _⟩ := N.ex
    refine ⟨.ref m, rfl, m, dx, _, rfl, h1, m, ends, dots, ss, ps, o, n, rfl, N, by omega, fun q hq => ?_⟩
    have x1 : Evl.Ex H (upd H q (.tup (ends.map V.str))) := Evl.Ex.new hq
    have q1 : (upd H q (.tup (ends.map V.str))) q = some (.tup (ends.map V.str)) := upd_same
    generalize upd H q (.tup (ends.map V.str)) = H1 at x1 q1
    refine ⟨q, rfl, ⟨_, Evl.st_of q1⟩, for_tup (K := K) (a := q) (xs := ends.map V.str)
      (fun i σ H' => ∃ x6 x7 : Option V, σ = [some (.ref m), x6, x7] ∧ Evl.Ex H H' ∧ H' q = some (.tup (ends.map V.str)) ∧ ∀ e ∈ ends.take i, ∀ b : Bool, ∀ z ∈ dots, depthV (dots.length + 1) e (canon dots (if b = true then n e else o e)) z ≠ .non)
      ⟨_, _, rfl, x1, q1, fun e he => by cases he⟩ (fun i σ H' _ ⟨_, _, _, _, h, _⟩ => Evl.st_of h) ?_ ?_⟩
    · rintro i y σ H2 hi ⟨x6, x7, rfl, x2, q2, seen⟩
      obtain ⟨e, he, rfl⟩ := str_at hi
      have em := List.mem_of_getElem? he
      have et : ends.take (i + 1) = ends.take i ++ [e] := by rw [List.take_add_one, he]; rfl
      refine ⟨by show 2 ≤ sizeLine; decide, fun t ht => ?_⟩
      have x3 : Evl.Ex H2 (upd H2 t (.tup [.bl false, .bl true])) := Evl.Ex.new ht
      have t3 : (upd H2 t (.tup [.bl false, .bl true])) t = some (.tup [.bl false, .bl true]) := upd_same
      generalize upd H2 t (.tup [.bl false, .bl true]) = H3 at x3 t3
      refine ⟨t, rfl, ⟨_, Evl.st_of t3⟩, for_tup (K := K) (a := t) (xs := [.bl false, .bl true])
        (fun j σ H' => ∃ x7 : Option V, σ = [some (.ref m), some (.str e), x7] ∧ Evl.Ex H H' ∧ H' q = some (.tup (ends.map V.str)) ∧ H' t = some (.tup [.bl false, .bl true]) ∧ ∀ b : Bool, V.bl b ∈ [V.bl false, V.bl true].take j → ∀ z ∈ dots, depthV (dots.length + 1) e (canon dots (if b = true then n e else o e)) z ≠ .non)
        ⟨_, rfl, x2.trans x3, x3 _ _ q2, t3, fun b hb => by cases hb⟩ (fun i σ H' _ ⟨_, _, _, _, h, _⟩ => Evl.st_of h) ?_ ?_⟩
      · rintro j y σ H4 hj ⟨x7', rfl, x4, q4, t4, seen2⟩
        obtain ⟨b, rfl⟩ : ∃ b : Bool, y = .bl b := by
          rcases List.mem_cons.mp (List.mem_of_getElem? hj) with e | h
          · exact ⟨_, e⟩
          · exact ⟨_, List.mem_singleton.mp h⟩
        refine ⟨.ref m, rfl, .str e, rfl, .bl b, rfl, m, e, b, ends, dots, ss, ps, o, n, rfl, N.to x4, ok, em, fun D H5 x5 _ d5 => ?_⟩
        refine ⟨D, _, rfl, .inl d5, fun p hp => ?_⟩
        have x6' : Evl.Ex H5 (upd H5 p (.lst ((tkv (depthT dots dots e (canon dots (if b = true then n e else o e)))).map (·.2)))) := Evl.Ex.new hp
        have p6 : (upd H5 p (.lst ((tkv (depthT dots dots e (canon dots (if b = true then n e else o e)))).map (·.2)))) p = some (.lst ((tkv (depthT dots dots e (canon dots (if b = true then n e else o e)))).map (·.2))) := upd_same
        generalize upd H5 p (.lst ((tkv (depthT dots dots e (canon dots (if b = true then n e else o e)))).map (·.2))) = H6 at x6' p6
        have ev : (tkv (depthT dots dots e (canon dots (if b = true then n e else o e)))).map (·.2) = dots.map (depthV (dots.length + 1) e (canon dots (if b = true then n e else o e))) := by
          unfold tkv depthT
          rw [List.map_map, List.map_map]
          rfl
        rw [ev] at p6
        have hf := inV_hops (l := dots.map (depthV (dots.length + 1) e (canon dots (if b = true then n e else o e)))) fun v hv => by
          obtain ⟨z, _, rfl⟩ := List.mem_map.mp hv
          exact depth_two
        have x46 := (x4.trans x5).trans x6'
        refine ⟨p, _, rfl, .inl (Evl.sq_of p6), rfl, hf.1, ?_⟩
        rw [hf.2]
        by_cases hm : V.non ∈ dots.map (depthV (dots.length + 1) e (canon dots (if b = true then n e else o e)))
        · rw [decide_eq_true hm]
          refine ⟨true, rfl, iteT (k false _ x46 ⟨fun h => (by cases h), fun h => ?_⟩)⟩
          obtain ⟨z, zd, ez⟩ := List.mem_map.mp hm
          exact absurd ez (h e em b z zd)
        · rw [decide_eq_false hm]
          refine ⟨false, rfl, iteF ⟨_, rfl, x46, x6' _ _ (x5 _ _ q4), x6' _ _ (x5 _ _ t4), fun b2 hb2 => ?_⟩⟩
          rw [List.take_add_one, hj] at hb2
          rcases List.mem_append.mp hb2 with hb2 | hb2
          · exact seen2 b2 hb2
          · obtain rfl : b2 = b := V.bl.inj (List.mem_singleton.mp hb2)
            exact fun z zd ez => hm (List.mem_map.mpr ⟨z, zd, ez⟩)
      · rintro σ H4 ⟨x7', rfl, x4, q4, t4, seen2⟩
        refine ⟨_, _, rfl, x4, q4, fun e' he' => ?_⟩
        rw [et] at he'
        rcases List.mem_append.mp he' with he' | he'
        · exact seen e' he'
        · rw [List.mem_singleton.mp he']
          exact fun b => seen2 b (by cases b with | false => exact List.mem_cons_self | true => exact List.mem_cons_of_mem _ List.mem_cons_self)
    · rintro σ H2 ⟨x6, x7, rfl, x2, q2, seen⟩
      rw [List.length_map, List.take_length] at seen
      exact k true H2 x2 ⟨fun _ => seen, fun _ => rfl⟩
end
end Rw
end T_R3

section T_G1
set_option Elab.async false
set_option linter.all false
set_option maxRecDepth 100000
set_option maxHeartbeats 2000000
namespace Rw
open PySem PySem.Spec PySem.Calls L2 PyProof.Rows
/-- the law's own call, its def a FnG -/
theorem law_goes {P : Program} {w : World} {K : PySem.W.Frag} {mg mb : Str → Option Value} {k : Nat} {fa a : Addr} {fd : FuncData} {x : Str} {sp : Sp} {s : Shared} {vs : List Value} {ns : List Int}
    (known : K.In s.heap) (globs : s.heap.Ns mainGlobals mg) (blt : s.heap.Ns builtinsNs mb) (blt_is : ∀ y : Str, y ≠ "__name__" → mb y = bootBuiltins y) (nolim : s.heap.NoLimit) (nogen : s.gens = #[])
    (scr : s.heap.get? a = some { cls := .type "list", data := .seq vs.toArray }) (intsOf : IntsAre vs ns) (few : ns.length ≤ sizeLine) (room : Room k callerA)
    (F : ∀ base : Heap, K.In base → base.Ns mainGlobals mg → FnG P w K mg base CX0 k fa fd [x] sp) (bind : ∀ (s : Shared) (u : Value), BindsTo s fd ⟨[u], []⟩ [(x, u)])
    (prom : ∀ H : Hp, SqL K H a (ns.map V.int) → sp [.ref a] H (fun v _ => v = .bl true) fun _ _ _ => False) :
    codeAny (model P w) callerA (.call (.ref fa) ⟨[.ref a], []⟩) (fun r s' => r = .ok (.ret (.bool true)) ∧ OldK s.heap s'.heap ∧ s'.os = s.os ∧ AllBare s'.gens) s := by
  have items := vals_ints intsOf
  have main : ∀ H : Hp, (∀ b u, H b = some u → b = a ∧ K.lookup a = none ∧ u = .frz { cls := .type "list", data := .seq vs.toArray } (.lst (ns.map V.int))) → SqL K H a (ns.map V.int) →
      codeAny (model P w) callerA (.call (.ref fa) ⟨[.ref a], []⟩) (fun r s' => r = .ok (.ret (.bool true)) ∧ OldK s.heap s'.heap ∧ s'.os = s.os ∧ AllBare s'.gens) s := by
    intro H sole reads
    have held : HOk P w H s.heap := fun b u z => by
      obtain ⟨rfl, _, rfl⟩ := sole b u z
      exact ⟨scr, by rw [List.length_map]; exact few, vs, _, items, scr⟩
    have ns_hid : ∀ {b : Addr} {m : Str → Option Value}, s.heap.Ns b m → (hidT s.heap H).Ns b m := by
      rintro b m ⟨o, es, ep, at_b, isD, rest⟩
      refine ⟨o, es, ep, hidT_get at_b ?_, isD, rest⟩
      cases z : H b with
      | none => rfl
      | some u =>
        obtain ⟨rfl, _, _⟩ := sole b u z
        rw [scr] at at_b
        cases at_b
        cases isD
    have known_hid : K.In (hidT s.heap H) := fun b o at_b => hidT_get (known b o at_b) (by
      cases z : H b with
      | none => rfl
      | some u =>
        obtain ⟨rfl, no, _⟩ := sole b u z
        rw [no] at at_b
        cases at_b)
    have lim_hid : (hidT s.heap H).NoLimit := by
      obtain ⟨mc, q1, q2⟩ := nolim
      exact ⟨mc, ns_hid q1, q2⟩
    have here : Env0 P w K mg (hidT s.heap H) callerA [] s H :=
      { frames := rfl, mod := ⟨known_hid, ns_hid globs, ⟨mb, ns_hid blt, blt_is⟩, lim_hid⟩, bs := fun b o => of_hidT, bsz := Nat.le_of_eq (hidT_size _ _), funs := trivial,
        frf := fun b hb => (by cases hb), hok := held, bare := .of_eq nogen }
    have ran := (F _ known_hid (ns_hid globs)).goes callerA [] s H ⟨[.ref a], []⟩ [.ref a] [.ref a] _ _ rfl room here (bind s (.ref a)) (.cons rfl .nil) (prom H reads)
    refine codeAny_mono ran fun out s' got => ?_
    match out, got with
    | .error _, got => exact got.elim
    | .ok .next, got => exact got.elim
    | .ok .brk, got => exact got.elim
    | .ok .cont, got => exact got.elim
    | .ok (.ret u), got =>
      obtain ⟨v, H', os, bare, un, held', rel, yes⟩ := got
      have yes' : v = .bl true := yes
      subst yes'
      have u_is : u = Value.bool true := rel
      subst u_is
      refine ⟨rfl, OldK.of_keep fun b o at_b => ?_, os, bare⟩
      cases z : H b with
      | none => exact un.keep b o at_b z (fun hb => by cases hb) (fun hb => by cases hb)
      | some u =>
        obtain ⟨rfl, _, rfl⟩ := sole b u z
        obtain ⟨still, _⟩ := held' b _ (un.frzs b _ _ z)
        rw [scr] at at_b
        cases at_b
        exact still
  cases kn : K.lookup a with
  | none =>
    refine main (fun b => if b = a then some (.frz { cls := .type "list", data := .seq vs.toArray } (.lst (ns.map V.int))) else none) (fun b u z => ?_) (.inl (.inr ⟨_, if_pos rfl⟩))
    by_cases e : b = a
    · rw [if_pos e] at z
      exact ⟨e, kn, (Option.some.inj z).symm⟩
    · rw [if_neg e] at z
      cases z
  | some o =>
    have o_is := known a o kn
    rw [scr] at o_is
    cases o_is
    exact main (fun _ => none) (fun b u z => by cases z) (.inr ⟨_, vs.toArray, _, kn, rfl, rfl, rfl, by rw [List.size_toArray, intsOf.length]; exact few, by simpa using items⟩)
/-- the end of a row, its law a FnG -/
theorem walk_ofG {l : PySem.W.OpenLaw} {n k : Nat} {q : Program} {loose : List Str} {XP : (Str → Option Value) → Heap → Prop} {YP : World → Heap → Prop} {d : DefRec} {K : Params → PySem.W.Frag} {sp : World → Sp} {x : Str}
    (most : l.most = some n) (small : n ≤ sizeLine) (nodef : d.params.defaults = []) (room : Room k callerA) (knows : ∀ (w : World) (h : Heap), YP w h → (K w.params).In h)
    (F : ∀ (w : World) (mg : Str → Option Value) (fa : Addr) (h : Heap), (K w.params).In h → h.Ns mainGlobals mg → mg d.name = some (.ref fa) →
      ∃ fd : FuncData, (∀ (s : Shared) (u : Value), BindsTo s fd ⟨[u], []⟩ [(x, u)]) ∧ ∀ base : Heap, (K w.params).In base → base.Ns mainGlobals mg → FnG l.prog w (K w.params) mg base CX0 k fa fd [x] (sp w))
    (prom : ∀ (w : World) (H : Hp) (a : Addr) (ns : List Int), ns.length ≤ n → SqL (K w.params) H a (ns.map V.int) → sp w [.ref a] H (fun v _ => v = .bl true) fun _ _ _ => False) :
    PySem.W.WalkO q loose XP YP l.row.toRowW d [] (fun f vs => PySem.call f vs) := by
  refine Att.attach_call most nodef ?_
  intro w s₀ s₁ mg mb fa o pm cd doc a vs ns G Y _ _ _ at_law scr intsOf few nogen
  obtain ⟨fd, bind, all⟩ := F w mg fa _ (knows w _ Y) G.T.g at_law
  exact law_goes (knows w _ Y) G.T.g G.T.b G.T.builtins G.T.nolimit nogen scr intsOf (Nat.le_trans few small) room all bind fun H reads => prom w H a ns few reads
end Rw
end T_G1

section T_G3
set_option Elab.async false
set_option linter.all false
set_option maxRecDepth 100000
set_option maxHeartbeats 2000000
namespace Rw
open PySem PySem.Spec PySem.Calls L2 PyProof.Rows
/-- the law's own call, its def a FnG, sys.modules a dict -/
theorem law_goesQ {P : Program} {w : World} {K : PySem.W.Frag} {mg mb : Str → Option Value} {k : Nat} {fa a : Addr} {fd : FuncData} {x : Str} {sp : Sp} {s : Shared} {vs : List Value} {ns : List Int}
    (known : K.In s.heap) (globs : s.heap.Ns mainGlobals mg) (blt : s.heap.Ns builtinsNs mb) (blt_is : ∀ y : Str, y ≠ "__name__" → mb y = bootBuiltins y) (nolim : s.heap.NoLimit) (nogen : s.gens = #[])
    (scr : s.heap.get? a = some { cls := .type "list", data := .seq vs.toArray }) (intsOf : IntsAre vs ns) (few : ns.length ≤ sizeLine) (room : Room k callerA)
    (sysd : SysDict s.heap) (F : ∀ base : Heap, K.In base → base.Ns mainGlobals mg → SysDict base → FnG P w K mg base CX0 k fa fd [x] sp) (bind : ∀ (s : Shared) (u : Value), BindsTo s fd ⟨[u], []⟩ [(x, u)])
    (prom : ∀ H : Hp, SqL K H a (ns.map V.int) → sp [.ref a] H (fun v _ => v = .bl true) fun _ _ _ => False) :
    codeAny (model P w) callerA (.call (.ref fa) ⟨[.ref a], []⟩) (fun r s' => r = .ok (.ret (.bool true)) ∧ OldK s.heap s'.heap ∧ s'.os = s.os ∧ AllBare s'.gens) s := by
  have items := vals_ints intsOf
  have main : ∀ H : Hp, (∀ b u, H b = some u → b = a ∧ K.lookup a = none ∧ u = .frz { cls := .type "list", data := .seq vs.toArray } (.lst (ns.map V.int))) → SqL K H a (ns.map V.int) →
      codeAny (model P w) callerA (.call (.ref fa) ⟨[.ref a], []⟩) (fun r s' => r = .ok (.ret (.bool true)) ∧ OldK s.heap s'.heap ∧ s'.os = s.os ∧ AllBare s'.gens) s := by
    intro H sole reads
    have held : HOk P w H s.heap := fun b u z => by
      obtain ⟨rfl, _, rfl⟩ := sole b u z
      exact ⟨scr, by rw [List.length_map]; exact few, vs, _, items, scr⟩
    have ns_hid : ∀ {b : Addr} {m : Str → Option Value}, s.heap.Ns b m → (hidT s.heap H).Ns b m := by
      rintro b m ⟨o, es, ep, at_b, isD, rest⟩
      refine ⟨o, es, ep, hidT_get at_b ?_, isD, rest⟩
      cases z : H b with
      | none => rfl
      | some u =>
        obtain ⟨rfl, _, _⟩ := sole b u z
        rw [scr] at at_b
        cases at_b
        cases isD
    have known_hid : K.In (hidT s.heap H) := fun b o at_b => hidT_get (known b o at_b) (by
      cases z : H b with
      | none => rfl
      | some u =>
        obtain ⟨rfl, no, _⟩ := sole b u z
        rw [no] at at_b
        cases at_b)
    have sys_hid : SysDict (hidT s.heap H) := by
      obtain ⟨o, es, ep, q1, q2⟩ := sysd
      refine ⟨o, es, ep, hidT_get q1 ?_, q2⟩
      cases z : H sysModules with
      | none => rfl
      | some u =>
        obtain ⟨ea, _, _⟩ := sole _ u z
        rw [ea, scr] at q1
        cases q1
        cases q2
    have lim_hid : (hidT s.heap H).NoLimit := by
      obtain ⟨mc, q1, q2⟩ := nolim
      exact ⟨mc, ns_hid q1, q2⟩
    have here : Env0 P w K mg (hidT s.heap H) callerA [] s H :=
      { frames := rfl, mod := ⟨known_hid, ns_hid globs, ⟨mb, ns_hid blt, blt_is⟩, lim_hid⟩, bs := fun b o => of_hidT, bsz := Nat.le_of_eq (hidT_size _ _), funs := trivial,
        frf := fun b hb => (by cases hb), hok := held, bare := .of_eq nogen }
    have ran := (F _ known_hid (ns_hid globs) sys_hid).goes callerA [] s H ⟨[.ref a], []⟩ [.ref a] [.ref a] _ _ rfl room here (bind s (.ref a)) (.cons rfl .nil) (prom H reads)
    refine codeAny_mono ran fun out s' got => ?_
    match out, got with
    | .error _, got => exact got.elim
    | .ok .next, got => exact got.elim
    | .ok .brk, got => exact got.elim
    | .ok .cont, got => exact got.elim
    | .ok (.ret u), got =>
      obtain ⟨v, H', os, bare, un, held', rel, yes⟩ := got
      have yes' : v = .bl true := yes
      subst yes'
      have u_is : u = Value.bool true := rel
      subst u_is
      refine ⟨rfl, OldK.of_keep fun b o at_b => ?_, os, bare⟩
      cases z : H b with
      | none => exact un.keep b o at_b z (fun hb => by cases hb) (fun hb => by cases hb)
      | some u =>
        obtain ⟨rfl, _, rfl⟩ := sole b u z
        obtain ⟨still, _⟩ := held' b _ (un.frzs b _ _ z)
        rw [scr] at at_b
        cases at_b
        exact still
  cases kn : K.lookup a with
  | none =>
    refine main (fun b => if b = a then some (.frz { cls := .type "list", data := .seq vs.toArray } (.lst (ns.map V.int))) else none) (fun b u z => ?_) (.inl (.inr ⟨_, if_pos rfl⟩))
    by_cases e : b = a
    · rw [if_pos e] at z
      exact ⟨e, kn, (Option.some.inj z).symm⟩
    · rw [if_neg e] at z
      cases z
  | some o =>
    have o_is := known a o kn
    rw [scr] at o_is
    cases o_is
    exact main (fun _ => none) (fun b u z => by cases z) (.inr ⟨_, vs.toArray, _, kn, rfl, rfl, rfl, by rw [List.size_toArray, intsOf.length]; exact few, by simpa using items⟩)
/-- the end of a row, its law a FnG -/
theorem walk_ofQ {l : PySem.W.OpenLaw} {n k : Nat} {q : Program} {loose : List Str} {XP : (Str → Option Value) → Heap → Prop} {YP : World → Heap → Prop} {d : DefRec} {K : Params → PySem.W.Frag} {sp : World → Sp} {x : Str}
    (most : l.most = some n) (small : n ≤ sizeLine) (clean : importsNone q = true) (nodef : d.params.defaults = []) (room : Room k callerA) (knows : ∀ (w : World) (h : Heap), YP w h → (K w.params).In h)
    (F : ∀ (w : World) (mg : Str → Option Value) (fa : Addr) (h : Heap), (K w.params).In h → h.Ns mainGlobals mg → mg d.name = some (.ref fa) →
      ∃ fd : FuncData, (∀ (s : Shared) (u : Value), BindsTo s fd ⟨[u], []⟩ [(x, u)]) ∧ ∀ base : Heap, (K w.params).In base → base.Ns mainGlobals mg → SysDict base → FnG l.prog w (K w.params) mg base CX0 k fa fd [x] (sp w))
    (prom : ∀ (w : World) (H : Hp) (a : Addr) (ns : List Int), ns.length ≤ n → SqL (K w.params) H a (ns.map V.int) → sp w [.ref a] H (fun v _ => v = .bl true) fun _ _ _ => False) :
    PySem.W.WalkO q loose XP YP l.row.toRowW d [] (fun f vs => PySem.call f vs) := by
  refine Att.attach_call most nodef ?_
  intro w s₀ s₁ mg mb fa o pm cd doc a vs ns G Y _ _ _ at_law scr intsOf few nogen
  obtain ⟨fd, bind, all⟩ := F w mg fa _ (knows w _ Y) G.T.g at_law
  exact law_goesQ (knows w _ Y) G.T.g G.T.b G.T.builtins G.T.nolimit nogen scr intsOf (Nat.le_trans few small) room (let ⟨_, ⟨o, es, ep, h1, h2, _⟩, _⟩ := (G.T.seer clean).mods; ⟨o, es, ep, h1, h2⟩) all bind fun H reads => prom w H a ns few reads
end Rw
end T_G3

section T_O1
set_option Elab.async false
set_option linter.all false
set_option maxRecDepth 100000
set_option maxHeartbeats 8000000
namespace Rw
open PySem PySem.Spec L2 PyProof.Rows
/-- the number and the row of a pair in the heap -/
def txtOf : V → Str
  | .str z => z
  | _ => Str.empty
def rowOf (H : Hp) (b : Addr) : List Str := match H b with
  | some (.tup vs) => vs.map txtOf
  | _ => []
def keyAt (H : Hp) : V → Int × List Str
  | .ref t => match H t with
    | some (.tup [.int i, .ref b]) => (i, rowOf H b)
    | _ => (0, [])
  | _ => (0, [])
theorem keyAt_of {H : Hp} {t b : Addr} {i : Int} {zs : List Str} (h1 : H t = some (.tup [.int i, .ref b])) (h2 : H b = some (.tup (zs.map V.str))) : keyAt H (.ref t) = (i, zs) := by
  have e : rowOf H b = zs := by
    unfold rowOf
    rw [h2]
    show (zs.map V.str).map txtOf = zs
    rw [List.map_map, show (txtOf ∘ V.str) = id from rfl, List.map_id]
  rw [← e]
  show (match H t with | some (.tup [.int i, .ref b]) => (i, rowOf H b) | _ => (0, [])) = (i, rowOf H b)
  rw [h1]
theorem tups_data {K : PySem.W.Frag} {H : Hp} {L : List (Addr × List Str)} (h : TupsAt H L) (nm : ∀ q ∈ L, ∀ z ∈ q.2, Nm z) : ∀ v ∈ L.map (fun q => V.ref q.1), DataV K H v := fun v hv => by
  obtain ⟨q, hq, rfl⟩ := List.mem_map.mp hv
  obtain ⟨ds, g1, g2, g3, g4⟩ := data_all (K := K) (H := H) (q.2.map V.str) fun u hu => by
    obtain ⟨z, hz, rfl⟩ := List.mem_map.mp hu
    exact strV_data (nm_ok (nm q hq z hz))
  have dep : ∀ (zs : List Str) (ds : List PyData), DpAll K H (zs.map V.str) ds → PyData.depthAll ds = 0 := fun zs => by
    induction zs with
    | nil => intro ds h; cases h; rfl
    | cons z zs ih =>
      intro ds h
      cases h with
      | cons h1 h2 =>
        cases h1
        show max 0 (PyData.depthAll _) = 0
        rw [ih _ h2]
        rfl
  refine ⟨.tuple ds, .tup (Evl.st_of (h q hq)) g1, g2, ?_⟩
  show PyData.depthAll ds + 1 ≤ 60
  rw [dep _ _ g1]
  decide
/-- rows by length, then ascending -/
def InOrder (L : List (List Str)) : Prop := L.Pairwise fun a b => numRow ((b.length : Int), b) ((a.length : Int), a) = false
/-- a ring, or that there is none, as data -/
def ringD (q : Option (List Str)) : PyData := match q with
  | none => .none
  | some p => .tuple (p.map PyData.str)
theorem dq_names {K : PySem.W.Frag} {H : Hp} : ∀ p : List Str, DqAll K H (p.map V.str) (p.map PyData.str)
  | [] => .nil
  | z :: p => .cons (.str z) (dq_names p)
theorem names_short : ∀ p : List Str, (∀ z ∈ p, Nm z) → PyData.leavesShortAll 13 (p.map PyData.str) = true ∧ PyData.weightAll (p.map PyData.str) ≤ 7 * p.length ∧ PyData.depthAll (p.map PyData.str) = 0 ∧ PyData.showableAll (p.map PyData.str) = true
  | [], _ => ⟨rfl, Nat.zero_le _, rfl, rfl⟩
  | z :: p, h => by
    obtain ⟨g1, g2, g3, g4⟩ := names_short p fun y hy => h y (List.mem_cons_of_mem _ hy)
    have hz := h z List.mem_cons_self
    refine ⟨?_, ?_, ?_, ?_⟩
    · show (PyData.leavesShort 13 (.str z) && PyData.leavesShortAll 13 (p.map PyData.str)) = true
      rw [g1, nm_short hz]
      rfl
    · show z.cps.size + 1 + PyData.weightAll (p.map PyData.str) ≤ 7 * (p.length + 1)
      have : z.cps.size ≤ 6 := nm_len hz
      omega
    · show max 0 (PyData.depthAll (p.map PyData.str)) = 0
      rw [g3]
      rfl
    · show (true && PyData.showableAll (p.map PyData.str)) = true
      rw [g4]
      rfl
/-- the best ring of a mixture, if there is one -/
def BestIs (dots : List Str) (f : Str → List V) : Option (List Str) → Prop
  | none => ∀ p, ¬ IsRing dots f p
  | some p => Best dots f p
theorem best_uniq {dots : List Str} {f : Str → List V} {p q : List Str} (h1 : Best dots f p) (h2 : Best dots f q) : p = q := by
  have a := h1.2 q h2.1
  have b := h2.2 p h1.1
  by_cases e : q.length = p.length
  · rw [numRow_even e] at a
    rw [numRow_even e.symm] at b
    exact lexS_tot b a
  · rcases Nat.lt_or_ge q.length p.length with l | l
    · rw [numRow_short l] at a
      cases a
    · rw [numRow_short (by omega)] at b
      cases b
theorem bestIs_uniq {dots : List Str} {f : Str → List V} {a b : Option (List Str)} (h1 : BestIs dots f a) (h2 : BestIs dots f b) : a = b := by
  cases a with
  | none =>
    cases b with
    | none => rfl
    | some q => exact absurd h2.1 (h1 q)
  | some p =>
    cases b with
    | none => exact absurd h1.1 (h2 p)
    | some q => rw [best_uniq h1 h2]
/-- v is the best ring, or None -/
def RingV (dots : List Str) (f : Str → List V) (v : V) (H : Hp) : Prop := ∃ q, BestIs dots f q ∧ match q with
  | none => v = .non
  | some p => ∃ a, v = .ref a ∧ H a = some (.tup (p.map V.str))
theorem RingIs.v {dots : List Str} {f : Str → List V} {v : V} {H : Hp} (h : RingIs dots f v H) : RingV dots f v H := by
  rcases h with ⟨e, h⟩ | ⟨a, p, e, h1, h2⟩
  · exact ⟨none, h, e⟩
  · exact ⟨some p, h2, a, e, h1⟩
theorem RingV.to {dots : List Str} {f : Str → List V} {v : V} {H H' : Hp} (h : RingV dots f v H) (x : Evl.Ex H H') : RingV dots f v H' := by
  obtain ⟨q, h1, h2⟩ := h
  refine ⟨q, h1, ?_⟩
  cases q with
  | none => exact h2
  | some p => obtain ⟨a, e, h⟩ := h2; exact ⟨a, e, x _ _ h⟩
theorem best_names {dots : List Str} {f : Str → List V} (nm : ∀ z ∈ dots, Nm z) (d6 : dots.length ≤ 6) {q : Option (List Str)} (h : BestIs dots f q) : match q with | none => True | some p => (∀ z ∈ p, Nm z) ∧ p.length ≤ 6 := by
  cases q with
  | none => trivial
  | some p => exact ⟨fun z hz => nm z (isWay_dots h.1.1 z hz), Nat.le_trans (nodup_le p dots (best_nodup h) (isWay_dots h.1.1)) d6⟩
/-- data of a ring -/
theorem ringV_data {dots : List Str} {f : Str → List V} (nm : ∀ z ∈ dots, Nm z) (d6 : dots.length ≤ 6) {q : Option (List Str)} (hq : BestIs dots f q) : (∀ {K : PySem.W.Frag} {H : Hp} {v : V}, RingV dots f v H → Dq K H v (ringD q)) ∧ (ringD q).showable = true ∧ (ringD q).depth ≤ 1 ∧ PyData.leavesShort 13 (ringD q) = true ∧ (ringD q).weight ≤ 42 := by
  have nmq := best_names nm d6 hq
  refine ⟨fun {K H v} h => ?_, ?_⟩
  · obtain ⟨q', h1, h2⟩ := h
    have e := bestIs_uniq hq h1
    subst e
    cases q with
    | none =>
      have h2' : v = .non := h2
      rw [h2']
      exact .non
    | some p =>
      obtain ⟨a, rfl, ha⟩ := h2
      exact .tup (Evl.st_of ha) (dq_names p)
  · cases q with
    | none => exact ⟨rfl, Nat.zero_le _, by decide, by decide⟩
    | some p =>
      obtain ⟨g1, g2, g3, g4⟩ := names_short p nmq.1
      have l6 := nmq.2
      refine ⟨g4, ?_, g1, ?_⟩
      · show PyData.depthAll (p.map PyData.str) + 1 ≤ 1
        rw [g3]
        decide
      · show PyData.weightAll (p.map PyData.str) ≤ 42
        omega
/-- [ring, mixture] is shown -/
theorem both_repr (f : Str → List V) (dots : List Str) (h : ∀ z ∈ dots, Nm z ∧ (∀ v ∈ f z, Spot v) ∧ (f z).length ≤ 2) (d6 : dots.length ≤ 6) {q : Option (List Str)} (hq : BestIs dots f q) : ∃ d : PyData,
    (∀ {K : PySem.W.Frag} {H0 H : Hp} {v : V} {D l : Addr}, RingV dots f v H → MixAt H0 H D dots f → H l = some (.lst [v, .ref D]) → Dq K H (.ref l) d) ∧ d.showable = true ∧ d.depth ≤ 64 ∧ d.shown.length ≤ sizeLine := by
  obtain ⟨kvs, g1, g2, g3, g4, g5⟩ := mix_kvs f dots h
  obtain ⟨r1, r2, r3, r4, r5⟩ := ringV_data (f := f) (fun z hz => (h z hz).1) d6 hq
  refine ⟨.list [ringD q, .dict kvs], fun {K H0 H v D l} R M hl => ?_, ?_, ?_, ?_⟩
  · obtain ⟨rs, h1, h2, h3⟩ := M.ex
    refine .lst (Evl.sq_of hl) (.cons (r1 R) (.cons (.dic (.inl h1) (g1 K H rs h2 fun p hp => ?_)) .nil))
    obtain ⟨l, l1, _, l3⟩ := h3 p hp
    exact ⟨l, l1, l3⟩
  · show ((ringD q).showable && (PyData.showableKv kvs && true)) = true
    rw [r2, g5]
    rfl
  · show max (ringD q).depth (max (PyData.depthKv kvs + 1) 0) + 1 ≤ 64
    omega
  · refine PyData.shown_fits (B := 13) (by decide) (by decide) ?_ (Nat.le_trans (show (PyData.list [ringD q, .dict kvs]).weight ≤ 300 from ?_) (by decide))
    · show (PyData.leavesShort 13 (ringD q) && (PyData.leavesShortKv 13 kvs && true)) = true
      rw [r4, g2]
      rfl
    · show (ringD q).weight + 1 + (PyData.weightKv kvs + 1 + 0) ≤ 300
      omega
/-- a + b of tuples that stand in the heap -/
def rCatU : R2 := fun x y H Q => ∃ (a b : Addr) (xs ys : List V), x = .ref a ∧ y = .ref b ∧ H a = some (.tup xs) ∧ H b = some (.tup ys) ∧ xs.length + ys.length ≤ sizeLine ∧ ∀ q H', Evl.Ex H H' → H' q = some (.tup (xs ++ ys)) → Q (.ref q) H'
theorem op_catU {X : Cx} : OpR X (binaryOp .Add) rCatU := by
  intro pins s σ H x y v u Q I rx ry h
  obtain ⟨a, b, xs, ys, rfl, rfl, ha, hb, hz, k⟩ := h
  refine op_catA pins s σ H _ _ v u Q I rx ry ⟨a, b, xs, ys, rfl, rfl, Evl.st_of ha, Evl.st_of hb, hz, fun e => ?_, fun _ e => ?_, fun _ _ p hp => ?_⟩
  · subst e
    exact k b H (Evl.Ex.refl H) hb
  · subst e
    refine k a H (Evl.Ex.refl H) ?_
    rw [List.append_nil]
    exact ha
  · exact k p _ (Evl.Ex.new hp) upd_same
/-- repr of None, or of data -/
def rReprV (K : PySem.W.Frag) : List V → Hp → VK → Prop := fun xs H Q => ∃ (v : V) (d : PyData), xs = [v] ∧ (v = .non ∨ ∃ a, v = .ref a) ∧ Dq K H v d ∧ d.showable = true ∧ d.depth ≤ 64 ∧ d.shown.length ≤ sizeLine ∧ Q (.str d.shown) H
theorem none_shown : PyData.shown .none = "None" := by kernel_rfl
theorem call_reprV {X : Cx} (hg : X.A.guards = some []) (hu : X.A.units + 70 < cLine) (sys : SysDict X.base) : CallR X (.builtin "repr") (rReprV X.K) := by
  intro pins s σ H xs us Q I r h
  obtain ⟨v, d, rfl, hv, hd, h1, h3, h4, q⟩ := h
  rcases hv with rfl | ⟨a, rfl⟩
  · cases hd
    obtain ⟨u, rfl, ru⟩ := vals1 r
    cases ru
    rw [none_shown] at q
    exact PySem.P.repr_of_none ⟨.str "None", H, I.tok _, ⟨_, rfl⟩, q⟩
  · exact call_reprQ hg hu sys pins s σ H [.ref a] us Q I r ⟨a, d, rfl, hd, h1, h3, h4, q⟩
/-- the first of some, or None -/
def firstV : List (Addr × List Str) → V
  | [] => .non
  | q :: _ => .ref q.1
theorem first_or {K : PySem.W.Frag} {H : Hp} {sl : Addr} {i : Nat} {σ : L2.St} {Q : VK} (L : List (Addr × List Str)) (hs : H sl = some (.lst (L.map fun q => V.ref q.1))) (slot : σ[i]? = some (some (.ref sl))) (h : Q (firstV L) H) :
    if (!(L.map fun q => V.ref q.1).isEmpty) = true then tOp (rIxL K) (tVar i) (tC (.int 0)) σ H Q else tC .non σ H Q := by
  cases L with
  | nil => exact iteF h
  | cons q r => exact iteT ⟨.ref sl, slot, sl, _, 0, .ref q.1, rfl, rfl, Evl.sq_of hs, atI_nat (j := 0) rfl, h⟩
theorem first_ring {dots : List Str} {f : Str → List V} {H : Hp} {L : List (Addr × List Str)} (tu : TupsAt H L) (isr : ∀ q ∈ L, IsRing dots f q.2) (hit : ∀ b, Best dots f b → ∃ q ∈ L, q.2 = b) (ord : InOrder (L.map (·.2)))
    (some_ : (∀ p, ¬ IsRing dots f p) ∨ ∃ p, Best dots f p) : RingV dots f (firstV L) H := by
  cases L with
  | nil =>
    rcases some_ with h | ⟨p, h⟩
    · exact ⟨none, h, rfl⟩
    · obtain ⟨q, hq, _⟩ := hit p h
      cases hq
  | cons q0 L =>
    rcases some_ with h | ⟨p, h⟩
    · exact absurd (isr q0 List.mem_cons_self) (h q0.2)
    · refine ⟨some p, h, q0.1, rfl, ?_⟩
      have e : q0.2 = p := by
        obtain ⟨q, hq, e⟩ := hit p h
        have b := h.2 q0.2 (isr q0 List.mem_cons_self)
        have a : numRow ((p.length : Int), p) ((q0.2.length : Int), q0.2) = false := by
          rcases List.mem_cons.mp hq with rfl | hq
          · rw [e]
            unfold numRow
            rw [if_pos rfl]
            exact lexS_self p
          · have o := (List.pairwise_cons.mp ord).1 q.2 (List.mem_map_of_mem hq)
            rw [e] at o
            exact o
        by_cases el : q0.2.length = p.length
        · rw [numRow_even el] at b
          rw [numRow_even el.symm] at a
          exact lexS_tot b a
        · rcases Nat.lt_or_ge q0.2.length p.length with l | l
          · rw [numRow_short l] at b
            cases b
          · rw [numRow_short (by omega)] at a
            cases a
      rw [← e]
      exact tu q0 List.mem_cons_self
theorem RingV.or {dots : List Str} {f : Str → List V} {v : V} {H : Hp} (h : RingV dots f v H) : (∀ p, ¬ IsRing dots f p) ∨ ∃ p, Best dots f p := by
  obtain ⟨q, h1, _⟩ := h
  cases q with
  | none => exact .inl h1
  | some p => exact .inr ⟨p, h1⟩
theorem RingV.kind {dots : List Str} {f : Str → List V} {v : V} {H : Hp} (h : RingV dots f v H) : v = .non ∨ ∃ a, v = .ref a := by
  obtain ⟨q, _, h2⟩ := h
  cases q with
  | none => exact .inl h2
  | some p => exact .inr ⟨_, h2.choose_spec.1⟩
theorem firstV_kind (L : List (Addr × List Str)) : firstV L = .non ∨ ∃ a, firstV L = .ref a := by
  cases L with
  | nil => exact .inl rfl
  | cons q L => exact .inr ⟨_, rfl⟩
/-- the rows of a model with other tables -/
theorem rows_ok {H : Hp} {ends dots : List Str} {rows : List (Str × V)} {o n : Str → List (Str × V)} (h : RowsAt H ends dots rows o n) : ∀ e ∈ ends, TabOk dots e (o e) ∧ TabOk dots e (n e) := fun e he => by
  obtain ⟨_, _, _, _, pa⟩ := h e he
  exact ⟨pa.o1, pa.o2⟩
/-- a pair, or None, that stands in the heap -/
def DueV (q : Option (List Str)) (v : V) (H : Hp) : Prop := match q with
  | none => v = .non
  | some p => ∃ a, v = .ref a ∧ H a = some (.tup (p.map V.str))
theorem DueV.to {q : Option (List Str)} {v : V} {H H' : Hp} (h : DueV q v H) (x : Evl.Ex H H') : DueV q v H' := by
  cases q with
  | none => exact h
  | some p => obtain ⟨a, e, h⟩ := h; exact ⟨a, e, x _ _ h⟩
theorem dp_names {K : PySem.W.Frag} {H : Hp} : ∀ p : List Str, DpAll K H (p.map V.str) (p.map PyData.str)
  | [] => .nil
  | z :: p => .cons (.str z) (dp_names p)
theorem names_lay : ∀ p : List Str, (∀ z ∈ p, Nm z) → PyData.canLayAll0 (p.map PyData.str) = true ∧ PyData.depthAll (p.map PyData.str) = 0
  | [], _ => ⟨rfl, rfl⟩
  | z :: p, h => by
    obtain ⟨g1, g2⟩ := names_lay p fun y hy => h y (List.mem_cons_of_mem _ hy)
    refine ⟨?_, ?_⟩
    · show (PyData.strOk z && PyData.canLayAll0 (p.map PyData.str)) = true
      rw [nm_ok (h z List.mem_cons_self), g1]
      rfl
    · show max 0 (PyData.depthAll (p.map PyData.str)) = 0
      rw [g2]
      rfl
theorem dueV_data {q : Option (List Str)} (nm : ∀ p, q = some p → ∀ z ∈ p, Nm z) : (∀ {K : PySem.W.Frag} {H : Hp} {v : V}, DueV q v H → Dp K H v (ringD q)) ∧ SeqAt.shaped (ringD q) = true ∧ PyData.eqv (ringD q) (ringD q) = true := by
  cases q with
  | none =>
    refine ⟨fun {K H v} h => ?_, rfl, rfl⟩
    have h' : v = .non := h
    rw [h']
    exact .non
  | some p =>
    obtain ⟨l1, l2⟩ := names_lay p (nm p rfl)
    refine ⟨fun {K H v} h => ?_, ?_, SeqAt.eqv_refl _ l1⟩
    · obtain ⟨a, rfl, ha⟩ := h
      exact .tup (Evl.st_of ha) (dp_names p)
    · exact shaped_tup l1 (by rw [l2]; decide)
theorem dueV_kind {q : Option (List Str)} {v : V} {H : Hp} (h : DueV q v H) : decide (v = .non) = q.isNone := by
  cases q with
  | none => rw [show v = .non from h]; rfl
  | some p => obtain ⟨a, e, _⟩ := h; rw [e]; exact decide_eq_false (fun z => nomatch z)
end Rw
end T_O1

section T_V4
set_option Elab.async false
set_option linter.all false
set_option maxRecDepth 100000
set_option maxHeartbeats 4000000
/-! ### == of dicts whose values are data; of dicts of numbers, or None -/
namespace L2
open PySem PySem.Spec PyProof.Rows
section
variable {X : Cx}
theorem hits_data {pins : List (Addr × Obj)} {σ : St} {H : Hp} {s : Shared} (I : Inv X pins σ H s) (hu : X.A.units + 66 < cLine) {kvs : List (Key × V)} {vb : List (Key × Value)} (rb : KV kvs vb) {ks : List (Key × V)} {va : List (Key × Value)} (ra : KV ks va) :
    (∀ p ∈ ks, ∃ v d, valV kvs p.1 = some v ∧ Dp X.K H p.2 d ∧ Dp X.K H v d ∧ SeqAt.shaped d = true ∧ d.canLay0 = true) → PySem.W.KeqHits X.A.in1 s vb va true := by
  unfold KV at ra
  induction ra with
  | nil => intro _; exact .nil
  | @cons p q ps qs h t ih =>
    intro hp
    obtain ⟨h1, h2⟩ := h
    obtain ⟨v0, d, e, g1, g2, sh, cl⟩ := hp p List.mem_cons_self
    have rr : RelO (some v0) (valueAt vb p.1) := by rw [← e]; exact rb.val p.1
    obtain ⟨y, hy, ry⟩ := rr.some_of
    obtain ⟨k, v⟩ := q
    have h1' : p.1 = k := h1
    rw [h1'] at hy
    show PySem.W.KeqHits X.A.in1 s vb ((k, v) :: qs) (true && true)
    obtain ⟨as, r1⟩ := Dp.reads I d p.2 v g1 h2
    obtain ⟨bs, r2⟩ := Dp.reads I d v0 y g2 ry
    have dep : d.depth ≤ 64 := by
      unfold SeqAt.shaped at sh
      rw [Bool.and_eq_true] at sh
      exact of_decide_eq_true sh.2
    have q := SeqAt.eqAt_reads d d X.A.in1 s v y as bs r1 r2 cl cl (by show X.A.units + 1 + min d.depth d.depth < cLine; omega)
    rw [SeqAt.eqv_refl d cl] at q
    exact .hit hy q (ih fun p' hm => hp p' (List.mem_cons_of_mem _ hm))
/-- two dicts with the same keys, and data that is alike -/
def AlikeD (K : PySem.W.Frag) (x y : V) (H : Hp) : Prop := ∃ a b ks ls, x = .ref a ∧ y = .ref b ∧ H a = some (.dK ks) ∧ H b = some (.dK ls) ∧ ks.length = ls.length ∧ ∀ p ∈ ks, ∃ v d, valV ls p.1 = some v ∧ Dp K H p.2 d ∧ Dp K H v d ∧ SeqAt.shaped d = true ∧ d.canLay0 = true
theorem op_neDD (hu : X.A.units + 66 < cLine) : OpR X (compareOp .NotEq) (fun x y H Q => AlikeD X.K x y H ∧ Q (.bl false) H) := by
  intro pins s σ H x y v u Q I rx ry h
  obtain ⟨⟨a, b, ks, ls, rfl, rfl, ea, eb, hlen, hp⟩, q⟩ := h
  obtain rfl : v = Value.ref a := rx
  obtain rfl : u = Value.ref b := ry
  obtain ⟨_, ya, va, ra, da⟩ := (show ObjOk X.prog X.w H s.heap a (.dK ks) from I.hok a _ ea)
  obtain ⟨_, yb, vb, rb, db⟩ := (show ObjOk X.prog X.w H s.heap b (.dK ls) from I.hok b _ eb)
  have hl : va.length = vb.length := by rw [← ra.length, ← rb.length]; exact hlen
  exact PySem.W.keq_ne (knd := mixKind X.prog X.w) (r := true) ya yb da db (by omega) (fun _ => hits_data I hu rb ra hp) (fin_bl I q (by simp [hl]))
/-- None and None, or dicts of flat things that are alike -/
def AlikeN (x y : V) (H : Hp) : Prop := (x = .non ∧ y = .non) ∨ ∃ a b ks ls, x = .ref a ∧ y = .ref b ∧ H a = some (.dK ks) ∧ H b = some (.dK ls) ∧ ks.length = ls.length ∧ ∀ p ∈ ks, valV ls p.1 = some p.2 ∧ flatB p.2 = true
theorem op_eqN (hu : X.A.units + 66 < cLine) : OpR X (compareOp .Eq) (fun x y H Q => AlikeN x y H ∧ Q (.bl true) H) := by
  intro pins s σ H x y v u Q I rx ry h
  obtain ⟨h, q⟩ := h
  rcases h with ⟨rfl, rfl⟩ | ⟨a, b, ks, ls, rfl, rfl, h1, h2, h3, h4⟩
  · exact op_eq pins s σ H _ _ v u Q I rx ry ⟨rfl, q⟩
  · exact op_eq_dictA (by omega) pins s σ H _ _ v u Q I rx ry ⟨a, b, ks, ls, rfl, rfl, h1, h2, h3, h4, q⟩
end
end L2
end T_V4

section T_Q2
set_option Elab.async false
set_option linter.all false
set_option maxRecDepth 100000
set_option maxHeartbeats 8000000
namespace Rw
open PySem PySem.Spec L2 PyProof.Rows
/-! ### known mixtures: what is so of them -/
theorem look_at {tb : List (Str × V)} {z : Str} {v : V} (nd : (tb.map (·.1)).Nodup) (h : (z, v) ∈ tb) : look tb z = v := by
  unfold look
  rw [tkv_val nd h]
  rfl
section
variable {dots : List Str} {f : Str → List V} {o n : List (Str × V)} {zs ys : List Str} {z : Str}
theorem spots_done (h : z ∈ zs) : spotsOf o n zs ys z = [look n z] := if_pos h
theorem spots_lot (h : z ∉ zs) (h2 : z ∈ ys) (h3 : look o z ≠ look n z) : spotsOf o n zs ys z = [look o z, look n z] := by
  unfold spotsOf
  rw [if_neg h, decide_eq_true h2, decide_eq_false h3]
  rfl
theorem spots_old (h : z ∉ zs) (h2 : z ∉ ys) : spotsOf o n zs ys z = [look o z] := by
  unfold spotsOf
  rw [if_neg h, decide_eq_false h2]
  rfl
theorem way_low {g : Str → Nat} (fall : ∀ z ∈ dots, ∀ y ∈ dots, V.str y ∈ f z → g y < g z) : ∀ (r : List Str) (x : Str), Way f x r → (∀ z ∈ x :: r, z ∈ dots) → g (lastS x r) ≤ g x ∧ lastS x r ∈ dots
  | [], x, _, hm => ⟨Nat.le_refl _, hm x List.mem_cons_self⟩
  | y :: r, x, hw, hm => by
    obtain ⟨h1, h2⟩ := way_low fall r y hw.2 fun z hz => hm z (List.mem_cons_of_mem _ hz)
    have := fall x (hm x List.mem_cons_self) y (hm y (List.mem_cons_of_mem _ List.mem_cons_self)) hw.1
    exact ⟨by show g (lastS y r) ≤ g x; omega, h2⟩
theorem no_ring_of {g : Str → Nat} (fall : ∀ z ∈ dots, ∀ y ∈ dots, V.str y ∈ f z → g y < g z) (p : List Str) : ¬ IsRing dots f p := fun h => by
  obtain ⟨x, r, rfl⟩ := ring_cons h
  obtain ⟨h1, h2⟩ := way_low fall r x h.1.1 h.1.2
  have := fall _ h2 x (h.1.2 x List.mem_cons_self) h.2
  omega
theorem numRow_long {p q : List Str} (h : p.length < q.length) : numRow ((q.length : Int), q) ((p.length : Int), p) = false := by
  unfold numRow
  rw [if_neg (by show ¬ ((q.length : Int) = (p.length : Int)); omega)]
  exact decide_eq_false (by show ¬ ((q.length : Int) < (p.length : Int)); omega)
theorem lex_head {p x : Str} {r q : List Str} (h : p.cps.toList < x.cps.toList) : lexS (x :: q) (p :: r) = false := by
  refine lexS_no ?_
  rw [lexS_step, if_neg (fun e => List.lt_irrefl _ (by rw [e] at h; exact h))]
  exact decide_eq_true h
/-- two that lead to one another -/
theorem pair_best {p q : Str} (hd : ∀ z, z ∈ dots ↔ z = p ∨ z = q) (hp : V.str q ∈ f p) (hq : V.str p ∈ f q) (np : V.str p ∉ f p) (nq : V.str q ∉ f q) (lt : p.cps.toList < q.cps.toList) : Best dots f [p, q] := by
  have pd := (hd p).mpr (.inl rfl)
  have qd := (hd q).mpr (.inr rfl)
  refine ⟨⟨⟨⟨hp, trivial⟩, fun z hz => (hd z).mpr (by rcases List.mem_cons.mp hz with e | e; exact .inl e; exact .inr (List.mem_singleton.mp e))⟩, hq⟩, fun Q h => ?_⟩
  match Q, h with
  | [], h => exact h.1.elim
  | [x], h =>
    rcases (hd x).mp (h.1.2 x List.mem_cons_self) with rfl | rfl
    · exact absurd h.2 np
    · exact absurd h.2 nq
  | [x, y], h =>
    rw [numRow_even (q := [x, y]) (p := [p, q]) rfl]
    have w := h.1.1.1
    rcases (hd x).mp (h.1.2 x List.mem_cons_self) with rfl | rfl <;> rcases (hd y).mp (h.1.2 y (List.mem_cons_of_mem _ List.mem_cons_self)) with rfl | rfl
    · exact absurd w np
    · exact lexS_self _
    · exact lex_head lt
    · exact absurd w nq
  | x :: y :: z :: r, h => exact numRow_long (by show 2 < r.length + 1 + 1 + 1; omega)
/-- three in a ring -/
theorem cyc_best {p q r : Str} (hd : ∀ z, z ∈ dots ↔ z = p ∨ z = q ∨ z = r) (hp : ∀ y ∈ dots, V.str y ∈ f p ↔ y = q) (hq : ∀ y ∈ dots, V.str y ∈ f q ↔ y = r) (hr : ∀ y ∈ dots, V.str y ∈ f r ↔ y = p) (lt : p.cps.toList < q.cps.toList) (lt2 : p.cps.toList < r.cps.toList) (ne : q ≠ r) : Best dots f [p, q, r] := by
  have pd := (hd p).mpr (.inl rfl)
  have qd := (hd q).mpr (.inr (.inl rfl))
  have rd := (hd r).mpr (.inr (.inr rfl))
  have pq : p ≠ q := fun e => List.lt_irrefl _ (by rw [e] at lt; exact lt)
  have pr : p ≠ r := fun e => List.lt_irrefl _ (by rw [e] at lt2; exact lt2)
  refine ⟨⟨⟨⟨(hp q qd).mpr rfl, (hq r rd).mpr rfl, trivial⟩, fun z hz => (hd z).mpr (by rcases List.mem_cons.mp hz with e | hz; exact .inl e; rcases List.mem_cons.mp hz with e | hz; exact .inr (.inl e); exact .inr (.inr (List.mem_singleton.mp hz)))⟩, (hr p pd).mpr rfl⟩, fun Q h => ?_⟩
  match Q, h with
  | [], h => exact h.1.elim
  | [x], h =>
    have s : V.str x ∈ f x := h.2
    have xd := h.1.2 x List.mem_cons_self
    rcases (hd x).mp xd with rfl | rfl | rfl
    · exact absurd ((hp _ xd).mp s) pq
    · exact absurd ((hq _ xd).mp s) ne
    · exact absurd ((hr _ xd).mp s) (Ne.symm pr)
  | [x, y], h =>
    have w : V.str y ∈ f x := h.1.1.1
    have s : V.str x ∈ f y := h.2
    have xd := h.1.2 x List.mem_cons_self
    have yd := h.1.2 y (List.mem_cons_of_mem _ List.mem_cons_self)
    rcases (hd x).mp xd with rfl | rfl | rfl
    · rw [(hp _ yd).mp w] at s
      exact absurd ((hq _ xd).mp s) pr
    · rw [(hq _ yd).mp w] at s
      exact absurd ((hr _ xd).mp s) (Ne.symm pq)
    · rw [(hr _ yd).mp w] at s
      exact absurd ((hp _ xd).mp s) (Ne.symm ne)
  | [x, y, z], h =>
    rw [numRow_even (q := [x, y, z]) (p := [p, q, r]) rfl]
    have w : V.str y ∈ f x := h.1.1.1
    have w2 : V.str z ∈ f y := h.1.1.2.1
    have xd := h.1.2 x List.mem_cons_self
    have yd := h.1.2 y (List.mem_cons_of_mem _ List.mem_cons_self)
    have zd := h.1.2 z (List.mem_cons_of_mem _ (List.mem_cons_of_mem _ List.mem_cons_self))
    rcases (hd x).mp xd with rfl | rfl | rfl
    · have ey := (hp _ yd).mp w
      subst ey
      have ez := (hq _ zd).mp w2
      subst ez
      exact lexS_self _
    · exact lex_head lt
    · exact lex_head lt2
  | x :: y :: z :: u :: t, h => exact numRow_long (by show 3 < t.length + 1 + 1 + 1 + 1; omega)
end
/-! ### places as data -/
def spotD : V → PyData
  | .str z => .str z
  | _ => .none
theorem dp_spots {K : PySem.W.Frag} {H : Hp} : ∀ {vs : List V}, (∀ v ∈ vs, Spot v) → DpAll K H vs (vs.map spotD)
  | [], _ => .nil
  | v :: vs, h => by
    rcases h v List.mem_cons_self with rfl | ⟨y, rfl, _⟩
    · exact .cons .non (dp_spots fun u hu => h u (List.mem_cons_of_mem _ hu))
    · exact .cons (.str y) (dp_spots fun u hu => h u (List.mem_cons_of_mem _ hu))
theorem spots_lay : ∀ {vs : List V}, (∀ v ∈ vs, Spot v) → PyData.canLayAll0 (vs.map spotD) = true ∧ PyData.depthAll (vs.map spotD) = 0
  | [], _ => ⟨rfl, rfl⟩
  | v :: vs, h => by
    obtain ⟨g1, g2⟩ := spots_lay fun u hu => h u (List.mem_cons_of_mem _ hu)
    rcases h v List.mem_cons_self with rfl | ⟨y, rfl, hy⟩
    · refine ⟨?_, ?_⟩
      · show (true && PyData.canLayAll0 (vs.map spotD)) = true
        rw [g1]
        rfl
      · show max 0 (PyData.depthAll (vs.map spotD)) = 0
        rw [g2]
        rfl
    · refine ⟨?_, ?_⟩
      · show (PyData.strOk y && PyData.canLayAll0 (vs.map spotD)) = true
        rw [nm_ok hy, g1]
        rfl
      · show max 0 (PyData.depthAll (vs.map spotD)) = 0
        rw [g2]
        rfl
theorem spots_dataL {vs : List V} (h : ∀ v ∈ vs, Spot v) : (PyData.list (vs.map spotD)).canLay0 = true ∧ SeqAt.shaped (.list (vs.map spotD)) = true := by
  obtain ⟨g1, g2⟩ := spots_lay h
  refine ⟨g1, ?_⟩
  unfold SeqAt.shaped
  rw [show PyData.canLay0 (.list (vs.map spotD)) = PyData.canLayAll0 (vs.map spotD) from rfl, g1, show PyData.depth (.list (vs.map spotD)) = PyData.depthAll (vs.map spotD) + 1 from rfl, g2]
  rfl
/-! ### as data -/
theorem alike_mix {K : PySem.W.Frag} {H : Hp} {D B : Addr} {dots : List Str} {f : Str → List V} {rb : List (Str × V)} (M : MixR H D dots f) (un : ∀ o' u, H D ≠ some (.frz o' u)) (hB : H B = some (.dK (tkv rb))) (hk : (rb.map (·.1)).Perm dots) (dn : dots.Nodup) (sp : ∀ z ∈ dots, ∀ v ∈ f z, Spot v)
    (hv : ∀ q ∈ rb, ∃ l, q.2 = .ref l ∧ H l = some (.lst (f q.1))) : AlikeD K (.ref D) (.ref B) H := by
  obtain ⟨rs, h1, h2, h3⟩ := M.ex
  rcases h1 with h1 | ⟨o', h1⟩
  · refine ⟨D, B, _, _, rfl, rfl, h1, hB, ?_, fun p hp => ?_⟩
    · have e1 := congrArg List.length h2
      have e2 := hk.length_eq
      rw [List.length_map] at e1 e2
      rw [tkv_len, tkv_len, e1, e2]
    · obtain ⟨q, hq, rfl⟩ := List.mem_map.mp hp
      obtain ⟨l, el, hl⟩ := h3 q hq
      have zd : q.1 ∈ dots := by rw [← h2]; exact List.mem_map_of_mem hq
      obtain ⟨v, hv1, hv2⟩ := tkv_some (tb := rb) (z := q.1) (hk.mem_iff.mpr zd)
      obtain ⟨l2, e2, hl2⟩ := hv _ hv2
      obtain ⟨g1, g2⟩ := spots_dataL (sp q.1 zd)
      refine ⟨v, .list ((f q.1).map spotD), hv1, ?_, ?_, g2, g1⟩
      · show Dp K H q.2 _
        rw [el]
        exact .lst (Evl.sq_of hl) (dp_spots (sp q.1 zd))
      · have e2' : v = .ref l2 := e2
        rw [e2']
        exact .lst (Evl.sq_of hl2) (dp_spots (sp q.1 zd))
  · exact absurd h1 (un _ _)
end Rw
end T_Q2

section T_R6
set_option Elab.async false
set_option linter.all false
set_option maxRecDepth 100000
set_option maxHeartbeats 4000000
namespace Rw
open PySem L2 PyProof.Rows
/-! ### lines turned about: the ways of a round -/
/-- along row the old ways, and the new ones about -/
structure LineT (row : List Str) (e : Str) (t1 t2 : List (Str × V)) : Prop where
  nd : row.Nodup
  er : e ∉ row
  two : 2 ≤ row.length
  o : ∀ k z, row[k]? = some z → look t1 z = .str ((row[k + 1]?).getD e)
  n : ∀ k z, row[k]? = some z → look t2 z = .str (if k = 0 then (row[row.length - 1]?).getD e else if k = 1 then e else (row[k - 1]?).getD e)
section
variable {row : List Str} {e : Str} {t1 t2 : List (Str × V)} {zs ys dots : List Str}
theorem at_one {k j : Nat} {y : Str} (nd : row.Nodup) (h1 : row[k]? = some y) (h2 : row[j]? = some y) : k = j := by
  have l1 := (List.getElem?_eq_some_iff.mp h1).1
  exact (List.getElem?_inj l1 nd).mp (h1.trans h2.symm)
theorem getD_at {k j : Nat} {y : Str} (L : LineT row e t1 t2) (hj : row[j]? = some y) : y = (row[k]?).getD e ↔ k = j := by
  constructor
  · intro q
    cases h : row[k]? with
    | none =>
      rw [h] at q
      exact absurd (by rw [show e = y from q.symm]; exact List.mem_of_getElem? hj) L.er
    | some u =>
      rw [h] at q
      have q' : y = u := q
      subst q'
      exact at_one L.nd h hj
  · rintro rfl
    rw [hj]
    rfl
/-- the ways within the line -/
theorem line_way (L : LineT row e t1 t2) {k j : Nat} {z y : Str} (hk : row[k]? = some z) (hj : row[j]? = some y) :
    V.str y ∈ spotsOf t1 t2 zs ys z ↔ (z ∉ zs ∧ j = k + 1) ∨ ((z ∈ zs ∨ z ∈ ys) ∧ ((k = 0 ∧ j + 1 = row.length) ∨ (2 ≤ k ∧ j + 1 = k))) := by
  rw [mem_spots, L.o k z hk, L.n k z hk, V.str.injEq, V.str.injEq, getD_at L hj]
  have two := L.two
  refine or_congr (and_congr_right fun _ => ⟨fun q => q.symm, fun q => q.symm⟩) (and_congr_right fun _ => ?_)
  by_cases k0 : k = 0
  · rw [if_pos k0, getD_at L hj]
    omega
  · rw [if_neg k0]
    by_cases k1 : k = 1
    · rw [if_pos k1]
      refine ⟨fun q => absurd (by rw [← q]; exact List.mem_of_getElem? hj) L.er, fun q => by omega⟩
    · rw [if_neg k1, getD_at L hj]
      omega
/-- some node is free to turn back to one that is not done -/
def Turns (row zs ys : List Str) (k : Nat) (x y : Str) : Prop := 1 ≤ k ∧ row[k]? = some x ∧ row[k + 1]? = some y ∧ (y ∈ zs ∨ y ∈ ys) ∧ x ∉ zs
theorem ring_two {x y : Str} (hx : x ∈ dots) (hy : y ∈ dots) {f : Str → List V} (h1 : V.str y ∈ f x) (h2 : V.str x ∈ f y) : IsRing dots f [x, y] :=
  ⟨⟨⟨h1, trivial⟩, fun z hz => by rcases List.mem_cons.mp hz with rfl | hz; exact hx; rw [List.mem_singleton.mp hz]; exact hy⟩, h2⟩
theorem turns_ring (L : LineT row e t1 t2) (hd : dots.Perm row) {k : Nat} {x y : Str} (h : Turns row zs ys k x y) : IsRing dots (spotsOf t1 t2 zs ys) [x, y] ∧ IsRing dots (spotsOf t1 t2 zs ys) [y, x] := by
  obtain ⟨k1, hx, hy, a, b⟩ := h
  have xd := hd.mem_iff.mpr (List.mem_of_getElem? hx)
  have yd := hd.mem_iff.mpr (List.mem_of_getElem? hy)
  have w1 : V.str y ∈ spotsOf t1 t2 zs ys x := (line_way L hx hy).mpr (.inl ⟨b, rfl⟩)
  have w2 : V.str x ∈ spotsOf t1 t2 zs ys y := (line_way L hy hx).mpr (.inr ⟨a, .inr ⟨by omega, rfl⟩⟩)
  exact ⟨ring_two xd yd w1 w2, ring_two yd xd w2 w1⟩
theorem dot_at (hd : dots.Perm row) {z : Str} (hz : z ∈ dots) : ∃ k : Nat, row[k]? = some z := by
  obtain ⟨k, hk, e⟩ := List.getElem_of_mem (hd.mem_iff.mp hz)
  exact ⟨k, by rw [List.getElem?_eq_getElem hk, e]⟩
/-- a row of two nodes that is a ring is such two nodes -/
theorem two_turns (L : LineT row e t1 t2) (hd : dots.Perm row) {x y : Str} (h : IsRing dots (spotsOf t1 t2 zs ys) [x, y]) : ∃ k, Turns row zs ys k x y ∨ Turns row zs ys k y x := by
  obtain ⟨i, hi⟩ := dot_at hd (h.1.2 x List.mem_cons_self)
  obtain ⟨j, hj⟩ := dot_at hd (h.1.2 y (List.mem_cons_of_mem _ List.mem_cons_self))
  have w1 := (line_way L hi hj).mp h.1.1.1
  have w2 := (line_way L hj hi).mp h.2
  rcases w1 with ⟨a1, b1⟩ | ⟨a1, b1⟩ <;> rcases w2 with ⟨a2, b2⟩ | ⟨a2, b2⟩
  · exfalso; omega
  · subst b1
    exact ⟨i, .inl ⟨by omega, hi, hj, a2, a1⟩⟩
  · subst b2
    exact ⟨j, .inr ⟨by omega, hj, hi, a1, a2⟩⟩
  · have two := L.two; exfalso; omega
/-- a ring has two nodes at least -/
theorem ring_more (L : LineT row e t1 t2) (hd : dots.Perm row) {p : List Str} (h : IsRing dots (spotsOf t1 t2 zs ys) p) : 2 ≤ p.length := by
  match p, h with
  | [], h => exact h.1.elim
  | [x], h =>
    obtain ⟨i, hi⟩ := dot_at hd (h.1.2 x List.mem_cons_self)
    have two := L.two
    rcases (line_way L hi hi).mp h.2 with ⟨_, b⟩ | ⟨_, b⟩ <;> omega
  | _ :: _ :: _, _ => show 2 ≤ _ + 1 + 1; omega
/-- a number of each place that falls along each way if no two nodes turn -/
def fallOf (row zs : List Str) (k : Nat) : Nat := if k = 0 then 3 * row.length else match row[k]? with
  | some z => if z ∈ zs then k else 2 * row.length - k
  | none => 0
theorem falls (L : LineT row e t1 t2) (no : ∀ k x y, ¬ Turns row zs ys k x y) {k j : Nat} {z y : Str} (hk : row[k]? = some z) (hj : row[j]? = some y) (h : V.str y ∈ spotsOf t1 t2 zs ys z) : fallOf row zs j < fallOf row zs k := by
  have lk := (List.getElem?_eq_some_iff.mp hk).1
  have lj := (List.getElem?_eq_some_iff.mp hj).1
  have two := L.two
  unfold fallOf
  rw [hk, hj]
  show (if j = 0 then _ else if y ∈ zs then j else 2 * row.length - j) < (if k = 0 then _ else if z ∈ zs then k else 2 * row.length - k)
  rcases (line_way L hk hj).mp h with ⟨a, b⟩ | ⟨a, b⟩
  · rw [if_neg (by omega : ¬ j = 0), if_neg a]
    split <;> split <;> omega
  · by_cases k0 : k = 0
    · rw [if_neg (by omega : ¬ j = 0), if_pos k0]
      split <;> omega
    · have j1 : 1 ≤ j := by omega
      have yz : y ∈ zs := by
        by_cases q : y ∈ zs
        · exact q
        · exact absurd ⟨j1, hj, by rw [show j + 1 = k by omega]; exact hk, a, q⟩ (no j y z)
      rw [if_neg (by omega : ¬ j = 0), if_pos yz, if_neg k0]
      split <;> omega
theorem way_down (L : LineT row e t1 t2) (hd : dots.Perm row) (no : ∀ k x y, ¬ Turns row zs ys k x y) : ∀ (r : List Str) (x : Str) (k : Nat), row[k]? = some x → Way (spotsOf t1 t2 zs ys) x r → (∀ z ∈ x :: r, z ∈ dots) → ∃ j, row[j]? = some (lastS x r) ∧ fallOf row zs j ≤ fallOf row zs k
  | [], x, k, hk, _, _ => ⟨k, hk, Nat.le_refl _⟩
  | y :: r, x, k, hk, hw, hm => by
    obtain ⟨j, hj⟩ := dot_at hd (hm y (List.mem_cons_of_mem _ List.mem_cons_self))
    have f1 := falls L no hk hj hw.1
    obtain ⟨i, hi, f2⟩ := way_down L hd no r y j hj hw.2 fun z hz => hm z (List.mem_cons_of_mem _ hz)
    exact ⟨i, hi, by omega⟩
theorem line_no_ring (L : LineT row e t1 t2) (hd : dots.Perm row) (no : ∀ k x y, ¬ Turns row zs ys k x y) (p : List Str) : ¬ IsRing dots (spotsOf t1 t2 zs ys) p := fun h => by
  obtain ⟨x, r, rfl⟩ := ring_cons h
  obtain ⟨k, hk⟩ := dot_at hd (h.1.2 x List.mem_cons_self)
  obtain ⟨j, hj, f⟩ := way_down L hd no r x k hk h.1.1 h.1.2
  have := falls L no hj hk h.2
  omega
/-- the least of the shortest rings is the least of the sorted two that turn -/
theorem line_best (L : LineT row e t1 t2) (hd : dots.Perm row) {p : List Str} (h : Best dots (spotsOf t1 t2 zs ys) p) : ∃ k x y, (Turns row zs ys k x y ∧ (p = [x, y] ∨ p = [y, x])) ∧ ∀ k' x' y', Turns row zs ys k' x' y' → lexS [x', y'] p = false ∧ lexS [y', x'] p = false := by
  have more := ring_more L hd h.1
  have some_ : ∃ k x y, Turns row zs ys k x y := by
    by_cases q : ∃ k x y, Turns row zs ys k x y
    · exact q
    · exact absurd h.1 (line_no_ring L hd (fun k x y t => q ⟨k, x, y, t⟩) p)
  obtain ⟨k0, x0, y0, t0⟩ := some_
  have len : p.length = 2 := by
    by_cases q : p.length = 2
    · exact q
    · have := h.2 _ (turns_ring L hd t0).1
      rw [numRow_short (q := [x0, y0]) (p := p) (by show 2 < p.length; omega)] at this
      cases this
  match p, len, h with
  | [x, y], _, h =>
    obtain ⟨k, t⟩ := two_turns L hd h.1
    have least : ∀ k' x' y', Turns row zs ys k' x' y' → lexS [x', y'] [x, y] = false ∧ lexS [y', x'] [x, y] = false := fun k' x' y' t' => by
      have r := turns_ring L hd t'
      exact ⟨by rw [← numRow_even (q := [x', y']) (p := [x, y]) rfl]; exact h.2 _ r.1, by rw [← numRow_even (q := [y', x']) (p := [x, y]) rfl]; exact h.2 _ r.2⟩
    rcases t with t | t
    · exact ⟨k, x, y, ⟨t, .inl rfl⟩, least⟩
    · exact ⟨k, y, x, ⟨t, .inr rfl⟩, least⟩
/-- a node from which a node comes again stands before a ring, and a ring's nodes come again -/
theorem twi_ring {f : Str → List V} {z : Str} (h : Twi dots f z) : ∃ p, IsRing dots f p := by
  obtain ⟨r, h1, h2⟩ := h
  obtain ⟨q, hq, _⟩ := ring_of_twice r z h1 h2
  exact ⟨q, hq⟩
theorem ring_twi {f : Str → List V} {x : Str} {r : List Str} (h : IsRing dots f (x :: r)) : Twi dots f x := by
  have hd := h.1.2 x List.mem_cons_self
  refine ⟨r ++ [x], (isWay_snoc (p := x :: r) (by simp)).mpr ⟨h.1, h.2, hd⟩, fun n => ?_⟩
  rw [← List.cons_append] at n
  exact (List.nodup_append.mp n).2.2 x List.mem_cons_self x (List.mem_singleton.mpr rfl) rfl
end
end Rw
end T_R6

section T_Q3
set_option Elab.async false
set_option linter.all false
set_option maxRecDepth 100000
set_option maxHeartbeats 8000000
namespace Rw
open PySem PySem.Spec L2 PyProof.Rows
theorem sort_ex (l : List Str) : ∃ ys : List Str, ys.Perm l ∧ sortedS ys = true := by
  have tr : ∀ a b c : Str, (!decide (b.cps.toList < a.cps.toList)) = true → (!decide (c.cps.toList < b.cps.toList)) = true → (!decide (c.cps.toList < a.cps.toList)) = true := fun a b c h1 h2 => by
    simp only [Bool.not_eq_true', decide_eq_false_iff_not] at h1 h2 ⊢
    exact List.not_lt.mpr (List.le_trans (List.not_lt.mp h1) (List.not_lt.mp h2))
  have tt : ∀ a b : Str, ((!decide (b.cps.toList < a.cps.toList)) || (!decide (a.cps.toList < b.cps.toList))) = true := fun a b => by
    by_cases h : b.cps.toList < a.cps.toList
    · rw [decide_eq_true h, decide_eq_false (List.lt_asymm h)]
      rfl
    · rw [decide_eq_false h]
      rfl
  refine ⟨l.mergeSort fun a b => !decide (b.cps.toList < a.cps.toList), List.mergeSort_perm _ _, sortedS_of_pairwise _ ?_⟩
  refine (List.pairwise_mergeSort tr tt l).imp fun {a b} h => ?_
  rw [ltCps_eq]
  simpa using h
/-! ### two that lead to one another -/
structure PairN (a b e : Str) (dots : List Str) : Prop where
  ab : a ≠ b
  ae : a ≠ e
  be : b ≠ e
  na : Nm a
  nb : Nm b
  ne : Nm e
  hd : dots.Perm [a, b]
  ds : sortedS dots = true
abbrev pairO (a b e : Str) : List (Str × V) := [(a, .str b), (b, .str e)]
abbrev pairT (a b e : Str) : List (Str × V) := [(a, .str e), (b, .str a)]
section
variable {a b e : Str} {dots : List Str}
theorem PairN.mem (h : PairN a b e dots) (z : Str) : z ∈ dots ↔ z = a ∨ z = b := by
  rw [h.hd.mem_iff]
  simp
theorem PairN.ok (h : PairN a b e dots) : ModelOk [e] dots [a] [] := by
  have nd : [a, b].Nodup := List.nodup_cons.mpr ⟨by simp [h.ab], List.nodup_cons.mpr ⟨by simp, List.nodup_nil⟩⟩
  refine ⟨by show 0 < 1; decide, by show 1 ≤ 2; decide, List.nodup_cons.mpr ⟨by simp, List.nodup_nil⟩, rfl, fun z hz => by rw [List.mem_singleton.mp hz]; exact h.ne, by rw [h.hd.length_eq]; show 0 < 2; decide, by rw [h.hd.length_eq]; show 2 ≤ 6; decide, h.hd.nodup_iff.mpr nd, h.ds, fun z hz => ?_, fun z hz hm => ?_, List.nodup_cons.mpr ⟨by simp, List.nodup_nil⟩, rfl, fun z hz => by rw [List.mem_singleton.mp hz]; exact (h.mem a).mpr (.inl rfl), List.nodup_nil, by decide, fun z hz => nomatch hz⟩
  · rcases (h.mem z).mp hz with rfl | rfl
    · exact h.na
    · exact h.nb
  · rw [List.mem_singleton.mp hz] at hm
    rcases (h.mem e).mp hm with q | q
    · exact h.ae q.symm
    · exact h.be q.symm
theorem PairN.o (h : PairN a b e dots) : TabOk dots e (pairO a b e) := by
  refine ⟨h.hd.symm, fun q hq => ?_⟩
  rcases List.mem_cons.mp hq with rfl | hq
  · exact .inr (.inr ⟨b, (h.mem b).mpr (.inr rfl), h.ab.symm, rfl⟩)
  · rw [List.mem_singleton.mp hq]
    exact .inr (.inl rfl)
theorem PairN.n (h : PairN a b e dots) : TabOk dots e (pairT a b e) := by
  refine ⟨h.hd.symm, fun q hq => ?_⟩
  rcases List.mem_cons.mp hq with rfl | hq
  · exact .inr (.inl rfl)
  · rw [List.mem_singleton.mp hq]
    exact .inr (.inr ⟨a, (h.mem a).mpr (.inl rfl), h.ab, rfl⟩)
theorem PairN.nd (h : PairN a b e dots) : [a, b].Nodup := List.nodup_cons.mpr ⟨by simp [h.ab], List.nodup_cons.mpr ⟨by simp, List.nodup_nil⟩⟩
theorem PairN.la (h : PairN a b e dots) : look (pairO a b e) a = .str b ∧ look (pairO a b e) b = .str e ∧ look (pairT a b e) a = .str e ∧ look (pairT a b e) b = .str a :=
  ⟨look_at h.nd (by simp), look_at h.nd (by simp), look_at h.nd (by simp), look_at h.nd (by simp)⟩
theorem PairN.moving (h : PairN a b e dots) : moving [e] dots (fun _ => pairO a b e) (fun _ => pairT a b e) = dots := by
  obtain ⟨l1, l2, l3, l4⟩ := h.la
  refine List.filter_eq_self.mpr fun z hz => ?_
  show ((!decide (look (pairO a b e) z = look (pairT a b e) z)) || false) = true
  rcases (h.mem z).mp hz with rfl | rfl
  · rw [l1, l3, decide_eq_false (fun q => h.be (V.str.inj q))]
    rfl
  · rw [l2, l4, decide_eq_false (fun q => h.ae (V.str.inj q).symm)]
    rfl
/-- the mixture of these lots, done and free -/
abbrev pairF (a b e : Str) (zs ys : List Str) : Str → List V := spotsOf (pairO a b e) (pairT a b e) zs ys
theorem PairN.fa (h : PairN a b e dots) {zs ys : List Str} : pairF a b e zs ys a = if a ∈ zs then [.str e] else if a ∈ ys then [.str b, .str e] else [.str b] := by
  obtain ⟨l1, l2, l3, l4⟩ := h.la
  by_cases m1 : a ∈ zs
  · rw [if_pos m1, ← l3]; exact spots_done m1
  · rw [if_neg m1]
    by_cases m2 : a ∈ ys
    · rw [if_pos m2]
      show spotsOf _ _ _ _ _ = _
      rw [spots_lot m1 m2 (by rw [l1, l3]; exact fun q => h.be (V.str.inj q)), l1, l3]
    · rw [if_neg m2, ← l1]; exact spots_old m1 m2
theorem PairN.fb (h : PairN a b e dots) {zs ys : List Str} : pairF a b e zs ys b = if b ∈ zs then [.str a] else if b ∈ ys then [.str e, .str a] else [.str e] := by
  obtain ⟨l1, l2, l3, l4⟩ := h.la
  by_cases m1 : b ∈ zs
  · rw [if_pos m1, ← l4]; exact spots_done m1
  · rw [if_neg m1]
    by_cases m2 : b ∈ ys
    · rw [if_pos m2]
      show spotsOf _ _ _ _ _ = _
      rw [spots_lot m1 m2 (by rw [l2, l4]; exact fun q => h.ae (V.str.inj q).symm), l2, l4]
    · rw [if_neg m2, ← l2]; exact spots_old m1 m2
/-- a leads to b, and b to a -/
theorem PairN.ring (h : PairN a b e dots) {zs ys : List Str} (h1 : a ∉ zs) (h2 : b ∈ zs ∨ b ∈ ys) : Best dots (pairF a b e zs ys) dots := by
  have fa := h.fa (zs := zs) (ys := ys)
  have fb := h.fb (zs := zs) (ys := ys)
  rw [if_neg h1] at fa
  have wa : V.str b ∈ pairF a b e zs ys a ∧ V.str a ∉ pairF a b e zs ys a := by
    rw [fa]
    constructor
    · split <;> simp
    · have := h.ab; have := h.ae
      split <;> simp [h.ab, h.ae]
  have wb : V.str a ∈ pairF a b e zs ys b ∧ V.str b ∉ pairF a b e zs ys b := by
    rw [fb]
    by_cases m : b ∈ zs
    · rw [if_pos m]
      simp [h.ab.symm]
    · rw [if_neg m, if_pos (h2.resolve_left m)]
      simp [h.ab.symm, h.be]
  have st := strict_of h.ds (h.hd.nodup_iff.mpr h.nd)
  have len := h.hd.length_eq
  match dots, h, st, len with
  | [x, y], h, st, _ =>
    have lt := (List.pairwise_cons.mp st).1 y (List.mem_singleton.mpr rfl)
    have mx := (h.mem x).mp List.mem_cons_self
    have my := (h.mem y).mp (List.mem_cons_of_mem _ List.mem_cons_self)
    have ne : x ≠ y := fun q => List.lt_irrefl _ (by rw [q] at lt; exact lt)
    rcases mx with rfl | rfl <;> rcases my with rfl | rfl
    · exact absurd rfl ne
    · exact pair_best (fun z => h.mem z) wa.1 wb.1 wa.2 wb.2 lt
    · exact pair_best (fun z => (h.mem z).trans or_comm) wb.1 wa.1 wb.2 wa.2 lt
    · exact absurd rfl ne
/-- b leads out -/
theorem PairN.none_b (h : PairN a b e dots) {zs ys : List Str} (h1 : b ∉ zs) (h2 : b ∉ ys) (p : List Str) : ¬ IsRing dots (pairF a b e zs ys) p := by
  refine no_ring_of (g := fun z => if z = a then 1 else 0) (fun z hz y hy w => ?_) p
  rcases (h.mem z).mp hz with rfl | rfl
  · rcases (h.mem y).mp hy with rfl | rfl
    · rw [h.fa] at w
      exfalso
      split at w
      · exact h.ae (V.str.inj (List.mem_singleton.mp w))
      · split at w
        · rcases List.mem_cons.mp w with q | q
          · exact h.ab (V.str.inj q)
          · exact h.ae (V.str.inj (List.mem_singleton.mp q))
        · exact h.ab (V.str.inj (List.mem_singleton.mp w))
    · show (if y = z then 1 else 0) < (if z = z then 1 else 0)
      rw [if_pos rfl, if_neg h.ab.symm]
      decide
  · rw [h.fb, if_neg h1, if_neg h2] at w
    exfalso
    have q := V.str.inj (List.mem_singleton.mp w)
    rcases (h.mem y).mp hy with rfl | rfl
    · exact h.ae q
    · exact h.be q
/-- a leads out -/
theorem PairN.none_a (h : PairN a b e dots) {zs ys : List Str} (h1 : a ∈ zs) (p : List Str) : ¬ IsRing dots (pairF a b e zs ys) p := by
  refine no_ring_of (g := fun z => if z = b then 1 else 0) (fun z hz y hy w => ?_) p
  rcases (h.mem z).mp hz with rfl | rfl
  · rw [h.fa, if_pos h1] at w
    exfalso
    have q := V.str.inj (List.mem_singleton.mp w)
    rcases (h.mem y).mp hy with rfl | rfl
    · exact h.ae q
    · exact h.be q
  · rcases (h.mem y).mp hy with rfl | rfl
    · show (if y = z then 1 else 0) < (if z = z then 1 else 0)
      rw [if_pos rfl, if_neg h.ab]
      decide
    · rw [h.fb] at w
      exfalso
      split at w
      · exact h.ab.symm (V.str.inj (List.mem_singleton.mp w))
      · split at w
        · rcases List.mem_cons.mp w with q | q
          · exact h.be (V.str.inj q)
          · exact h.ab.symm (V.str.inj (List.mem_singleton.mp q))
        · exact h.be (V.str.inj (List.mem_singleton.mp w))
end
end Rw
end T_Q3

section T_Q4
set_option Elab.async false
set_option linter.all false
set_option maxRecDepth 100000
set_option maxHeartbeats 8000000
namespace Rw
open PySem PySem.Spec L2 PyProof.Rows
/-! ### lots of few nodes -/
theorem lot_nil {H : Hp} {a : Addr} {mv : List Str} (h : H a = some (.tup [])) : LotAt H a [] mv := ⟨h, fun z hz => (nomatch hz), List.nodup_nil, rfl, fun z hz => (nomatch hz), by show 0 ≤ 60; decide⟩
theorem lot_one {H : Hp} {a : Addr} {z : Str} {mv : List Str} (h : H a = some (.tup [.str z])) (hz : z ∈ mv) (nm : Nm z) : LotAt H a [z] mv :=
  ⟨h, fun y hy => by rw [List.mem_singleton.mp hy]; exact hz, List.nodup_cons.mpr ⟨by simp, List.nodup_nil⟩, rfl, fun y hy => by rw [List.mem_singleton.mp hy]; exact nm, by show 1 ≤ 60; decide⟩
theorem nowTab_get {dots on : List Str} {o n : List (Str × V)} {z : Str} (dn : dots.Nodup) (zd : z ∈ dots) : valV (tkv (nowTab dots o n on)) (Sum.inr z) = some (look (if z ∈ on then n else o) z) := tkv_val (by rw [nowTab_keys]; exact dn) (List.mem_map.mpr ⟨z, zd, rfl⟩)
theorem nowTab_out {dots on : List Str} {o n : List (Str × V)} {z : Str} (zd : z ∉ dots) : valV (tkv (nowTab dots o n on)) (Sum.inr z) = none := tkv_none (by rw [nowTab_keys]; exact zd)
section
variable {a b e : Str} {dots : List Str}
theorem PairN.out (h : PairN a b e dots) : e ∉ dots := fun m => by
  rcases (h.mem e).mp m with q | q
  · exact h.ae q.symm
  · exact h.be q.symm
theorem PairN.walk1 (h : PairN a b e dots) : walkOf (nowTab dots (pairO a b e) (pairT a b e) ([b] ++ [])) (dots.length + 1) a = [.str a, .str b, .str a] := by
  obtain ⟨l1, l2, l3, l4⟩ := h.la
  have dn := h.ok.dn
  have va := nowTab_get (o := pairO a b e) (n := pairT a b e) (on := [b] ++ []) dn ((h.mem a).mpr (.inl rfl))
  have vb := nowTab_get (o := pairO a b e) (n := pairT a b e) (on := [b] ++ []) dn ((h.mem b).mpr (.inr rfl))
  rw [if_neg (by simp [h.ab]), l1] at va
  rw [if_pos (by simp), l4] at vb
  rw [h.hd.length_eq]
  show track _ 3 [] (.str a) = _
  rw [track_on va (by simp), track_on vb (by simp [h.ab.symm]), track_ring (by simp)]
  rfl
theorem PairN.walk2 (h : PairN a b e dots) : walkOf (nowTab dots (pairO a b e) (pairT a b e) ([a] ++ [b])) (dots.length + 1) b = [.str b, .str a, .str e] := by
  obtain ⟨l1, l2, l3, l4⟩ := h.la
  have dn := h.ok.dn
  have va := nowTab_get (o := pairO a b e) (n := pairT a b e) (on := [a] ++ [b]) dn ((h.mem a).mpr (.inl rfl))
  have vb := nowTab_get (o := pairO a b e) (n := pairT a b e) (on := [a] ++ [b]) dn ((h.mem b).mpr (.inr rfl))
  rw [if_pos (by simp), l3] at va
  rw [if_pos (by simp), l4] at vb
  rw [h.hd.length_eq]
  show track _ 3 [] (.str b) = _
  rw [track_on vb (by simp), track_on va (by simp [h.ab]), track_out (nowTab_out h.out)]
  rfl
/-- the row of twice -/
theorem PairN.two (h : PairN a b e dots) {s : List Str} {y : Str} (w : IsWay dots (pairF a b e [] dots) (b :: s)) (n : (b :: s).Nodup) (hy : V.str y ∈ pairF a b e [] dots (lastS b s)) (m : y ∈ b :: s) : b :: s ++ [y] = [b, a, b] := by
  have fa := h.fa (zs := []) (ys := dots)
  have fb := h.fb (zs := []) (ys := dots)
  rw [if_neg (by simp), if_pos ((h.mem a).mpr (.inl rfl))] at fa
  rw [if_neg (by simp), if_pos ((h.mem b).mpr (.inr rfl))] at fb
  match s, w, n, hy, m with
  | [], w, n, hy, m =>
    have eb : y = b := List.mem_singleton.mp m
    have hy' : V.str y ∈ pairF a b e [] dots b := hy
    rw [fb, eb] at hy'
    simp [h.be, h.ab.symm] at hy'
  | [x], w, n, hy, m =>
    have w1 : V.str x ∈ pairF a b e [] dots b := w.1.1
    have xd := w.2 x (by simp)
    rw [fb] at w1
    have ex : x = a := by
      rcases (h.mem x).mp xd with q | q
      · exact q
      · rw [q] at w1; simp [h.be, h.ab.symm] at w1
    subst ex
    have hy' : V.str y ∈ pairF x b e [] dots x := hy
    rw [fa] at hy'
    have ey : y = b := by
      rcases List.mem_cons.mp m with q | q
      · exact q
      · rw [List.mem_singleton.mp q] at hy'; simp [h.ab, h.ae] at hy'
    rw [ey]
    rfl
  | x :: x2 :: r, w, n, hy, m =>
    exfalso
    have w1 : V.str x ∈ pairF a b e [] dots b := w.1.1
    have w2 : V.str x2 ∈ pairF a b e [] dots x := w.1.2.1
    have xd := w.2 x (by simp)
    have x2d := w.2 x2 (by simp)
    have nx : x2 ≠ b := fun q => by rw [q] at n; simp at n
    have nx2 : x2 ≠ x := fun q => by rw [q] at n; simp at n
    have nx3 : x ≠ b := fun q => by rw [q] at n; simp at n
    rcases (h.mem x).mp xd with q | q
    · rcases (h.mem x2).mp x2d with q2 | q2
      · exact nx2 (q2.trans q.symm)
      · exact nx q2
    · exact nx3 q
theorem PairN.twi (h : PairN a b e dots) : Twi dots (pairF a b e [] dots) b := by
  have fa := h.fa (zs := []) (ys := dots)
  have fb := h.fb (zs := []) (ys := dots)
  have ad := (h.mem a).mpr (.inl rfl)
  have bd := (h.mem b).mpr (.inr rfl)
  rw [if_neg (by simp), if_pos ad] at fa
  rw [if_neg (by simp), if_pos bd] at fb
  refine ⟨[a, b], ⟨⟨by rw [fb]; simp, by rw [fa]; simp, trivial⟩, fun z hz => ?_⟩, fun n => by simp at n⟩
  rcases List.mem_cons.mp hz with rfl | hz
  · exact bd
  · rcases List.mem_cons.mp hz with rfl | hz
    · exact ad
    · rw [List.mem_singleton.mp hz]; exact bd
/-- the packet between two changes -/
theorem PairN.goes (h : PairN a b e dots) : (goesAll dots (pairO a b e) (pairT a b e) [] [(.str a, []), (.str b, dots), (.str a, dots), (.str e, dots)]).all id = true := by
  obtain ⟨l1, l2, l3, l4⟩ := h.la
  have ad := (h.mem a).mpr (.inl rfl)
  have bd := (h.mem b).mpr (.inr rfl)
  have all_ : dots.all (fun y => decide (y ∈ dots)) = true := List.all_eq_true.mpr fun y hy => decide_eq_true hy
  have g1 : goesB dots (pairO a b e) (pairT a b e) [] [] dots (.str a) (.str b) = true := by
    show (decide (a ∈ dots) && true && decide (V.str b = look (if a ∈ [] ++ [] then _ else _) a)) = true
    rw [decide_eq_true ad, if_neg (by simp), l1, decide_eq_true rfl]
    rfl
  have g2 : goesB dots (pairO a b e) (pairT a b e) [] dots dots (.str b) (.str a) = true := by
    show (decide (b ∈ dots) && dots.all (fun y => decide (y ∈ dots)) && decide (V.str a = look (if b ∈ [] ++ dots then _ else _) b)) = true
    rw [decide_eq_true bd, all_, if_pos (show b ∈ [] ++ dots from bd), l4, decide_eq_true rfl]
    rfl
  have g3 : goesB dots (pairO a b e) (pairT a b e) [] dots dots (.str a) (.str e) = true := by
    show (decide (a ∈ dots) && dots.all (fun y => decide (y ∈ dots)) && decide (V.str e = look (if a ∈ [] ++ dots then _ else _) a)) = true
    rw [decide_eq_true ad, all_, if_pos (show a ∈ [] ++ dots from ad), l3, decide_eq_true rfl]
    rfl
  show (goesB _ _ _ _ _ _ _ _ && (goesB _ _ _ _ _ _ _ _ && (goesB _ _ _ _ _ _ _ _ && true))) = true
  rw [g1, g2, g3]
  rfl
/-- ranks where b leads out alone -/
theorem PairN.nums (h : PairN a b e dots) {g : Str → Int} (N : Nums dots (pairF a b e [] [a]) dots g) : g a = 1 ∧ g b = 0 := by
  have fa := h.fa (zs := []) (ys := [a])
  have fb := h.fb (zs := []) (ys := [a])
  have ad := (h.mem a).mpr (.inl rfl)
  have bd := (h.mem b).mpr (.inr rfl)
  rw [if_neg (by simp), if_pos (by simp)] at fa
  rw [if_neg (by simp), if_neg (by simp [h.ab.symm])] at fb
  have eb : behind dots (pairF a b e [] [a]) b = [] := List.eq_nil_iff_forall_not_mem.mpr fun y hy => by
    obtain ⟨h1, h2⟩ := mem_behind.mp hy
    rw [fb] at h1
    have q := V.str.inj (List.mem_singleton.mp h1)
    rw [q] at h2
    exact h.out h2
  have gb : g b = 0 := (N.top b bd).1 eb
  have ba : b ∈ behind dots (pairF a b e [] [a]) a := mem_behind.mpr ⟨by rw [fa]; simp, bd⟩
  obtain ⟨y, hy, gy⟩ := (N.top a ad).2.1 (List.ne_nil_of_mem ba)
  obtain ⟨h1, h2⟩ := mem_behind.mp hy
  rw [fa] at h1
  have ey : y = b := by
    rcases List.mem_cons.mp h1 with q | q
    · exact V.str.inj q
    · have q' := V.str.inj (List.mem_singleton.mp q)
      rw [q'] at h2
      exact absurd h2 h.out
  rw [ey, gb] at gy
  exact ⟨gy, gb⟩
end
end Rw
end T_Q4

section T_Q5
set_option Elab.async false
set_option linter.all false
set_option maxRecDepth 100000
set_option maxHeartbeats 8000000
namespace Rw
open PySem PySem.Spec L2 PyProof.Rows
/-- a tuple of names against itself -/
theorem row_data {zs : List Str} (nm : ∀ z ∈ zs, Nm z) : (∀ {K : PySem.W.Frag} {H : Hp} {a : Addr}, H a = some (.tup (zs.map V.str)) → Dp K H (.ref a) (ringD (some zs))) ∧ SeqAt.shaped (ringD (some zs)) = true ∧ PyData.eqv (ringD (some zs)) (ringD (some zs)) = true := by
  obtain ⟨h1, h2, h3⟩ := dueV_data (q := some zs) (fun p hp => by cases hp; exact nm)
  exact ⟨fun h => h1 ⟨_, rfl, h⟩, h2, h3⟩
theorem ring_is {dots : List Str} {f : Str → List V} {v : V} {H : Hp} {p : List Str} (R : RingIs dots f v H) (b : Best dots f p) : ∃ a, v = .ref a ∧ H a = some (.tup (p.map V.str)) := by
  rcases R with ⟨_, h⟩ | ⟨a, q, rfl, ha, bq⟩
  · exact absurd b.1 (h p)
  · exact ⟨a, rfl, by rw [best_uniq b bq]; exact ha⟩
theorem ring_no {dots : List Str} {f : Str → List V} {v : V} {H : Hp} (R : RingIs dots f v H) (b : ∀ p, ¬ IsRing dots f p) : v = .non := by
  rcases R with ⟨h, _⟩ | ⟨a, q, rfl, ha, bq⟩
  · exact h
  · exact absurd bq.1 (b q)
theorem list_data {zs : List Str} (nm : ∀ z ∈ zs, Nm z) : (∀ {K : PySem.W.Frag} {H : Hp} {a : Addr}, H a = some (.lst (zs.map V.str)) → Dp K H (.ref a) (.list (zs.map PyData.str))) ∧ SeqAt.shaped (.list (zs.map PyData.str)) = true ∧ PyData.eqv (.list (zs.map PyData.str)) (.list (zs.map PyData.str)) = true := by
  obtain ⟨l1, l2⟩ := names_lay zs nm
  refine ⟨fun h => .lst (Evl.sq_of h) (dp_names zs), ?_, SeqAt.eqv_refl _ l1⟩
  unfold SeqAt.shaped
  rw [show PyData.canLay0 (.list (zs.map PyData.str)) = PyData.canLayAll0 (zs.map PyData.str) from rfl, l1, show PyData.depth (.list (zs.map PyData.str)) = PyData.depthAll (zs.map PyData.str) + 1 from rfl, l2]
  rfl
theorem StepsIn.at {H : Hp} : ∀ {ts : List (Addr × Addr)} {ws : List Str} {i : Nat} {q : Addr × Addr}, StepsIn H ts ws → ts[i]? = some q → ∃ z, ws[i]? = some z ∧ H q.1 = some (.tup [.str z, .ref q.2])
  | p :: ts, y :: ws, 0, q, h, e => by
    cases e
    exact ⟨y, rfl, h.1⟩
  | p :: ts, y :: ws, i + 1, q, h, e => StepsIn.at (ts := ts) (ws := ws) h.2 e
  | [], _, _, _, _, e => nomatch e
  | _ :: _, [], _, _, h, _ => h.elim
theorem alike_ints {K : PySem.W.Frag} {H : Hp} {D B : Addr} {dots : List Str} {g : Str → Int} {rb : List (Str × V)} (hD : H D = some (.dK (tkv (numT dots g)))) (hB : H B = some (.dK (tkv rb))) (hl : rb.length = dots.length) (dn : (rb.map (·.1)).Nodup) (hv : ∀ z ∈ dots, (z, V.int (g z)) ∈ rb) : AlikeD K (.ref D) (.ref B) H := by
  refine ⟨D, B, _, _, rfl, rfl, hD, hB, by rw [tkv_len, tkv_len, numT_len, hl], fun p hp => ?_⟩
  obtain ⟨q, hq, rfl⟩ := List.mem_map.mp hp
  obtain ⟨z, hz, rfl⟩ := List.mem_map.mp hq
  exact ⟨.int (g z), .int (g z), tkv_val dn (hv z hz), .int _, .int _, rfl, rfl⟩
section
variable {P : Program} {w : World} {K : PySem.W.Frag} {mg : Str → Option Value} {base : Heap}
def spPairRight : Sp := fun vs H Q _ => ∃ a b e : Str, vs = [.str a, .str b, .str e] ∧ a ≠ b ∧ a ≠ e ∧ b ≠ e ∧ Nm a ∧ Nm b ∧ Nm e ∧ ∀ H', Evl.Ex H H' → Q (.bl true) H'
abbrev nPR : List Str := ["a", "b", "end", "made", "both", "late_here", "step"]
theorem sc_pr : FnScope nPR ["a", "b", "end"] (defScope s_pair_right) := ⟨rfl, rfl, rfl, by decide +kernel, rfl, by decide +kernel, by decide +kernel⟩
theorem ok_pair_right {f C fi q2 : Addr} {fd fdi : FuncData} {ds : List Value} (F : Fun K "_law_pair_right" "_law_pair_right" s_pair_right f fd) (T : NetTxt K C) (M : Mk K C fi) (I_ : FnOk P w K mg base CX0 4 fi fdi ["self", "tables", "sources", "posts"] (spInit K C)) (bi : Binds K fdi ["self", "tables", "sources", "posts"] ds) (vd : Vals [V.ref q2] ds) (hE : ∀ H, SqT K H q2 []) (mNet : mg "Net" = some (.ref C))
    (Pg : Prp P w K mg base C 2 "changing" (spChanging C)) (CW : Cal P w K mg base 6 "ways" ["net", "done", "lot", "goal"] (spMix C)) (CG : Cal P w K mg base 7 "ring" ["net", "done", "lot", "goal"] (spRing C)) (CK : Cal P w K mg base 7 "ranks" ["net", "done", "lot", "goal"] (spRanks C)) (CL : Cal P w K mg base 6 "led" ["net", "done", "changed", "goal", "node"] (spLed C))
    (CT : Cal P w K mg base 7 "twice" ["net", "done", "lot", "goal", "node"] (spTwice C)) (CV : Cal P w K mg base 7 "is_moving" ["net", "done", "lot", "goal", "node", "thing"] (spMoving C)) (mTup : mg "tuple" = none) (mSorted : mg "sorted" = none) : FnOk P w K mg base CX0 8 f fd ["a", "b", "end"] spPairRight := by
  obtain ⟨p0, g0, fd0, at0, F0, b0⟩ := Pg.ex
  obtain ⟨fW, fdW, WY, kW, bW, gW⟩ := CW.ex
  obtain ⟨fG, fdG, RG, kG, bG, gG⟩ := CG.ex
  obtain ⟨fK, fdK, RK, kK, bK, gK⟩ := CK.ex
  obtain ⟨fL, fdL, LD, kL, bL, gL⟩ := CL.ex
  obtain ⟨fT, fdT, TW, kT, bT, gT⟩ := CT.ex
  obtain ⟨fV, fdV, MV, kV', bV, gV⟩ := CV.ex
  refine F.ok sc_pr (fun vs H Q E h => ?_) (fun cdv A outer s H vs Q E hr h => ?_)
  · obtain ⟨a, b, e, rfl, _⟩ := h
    rfl
  · obtain ⟨a, b, e, rfl, ab, ae, be, na, nb, ne, k⟩ := h
    have nd := sc_pr.nd
    have hu := hu_of hr
    have hr3 : Room 3 _ := hr.mono (by decide)
    have hr5 : Room 5 _ := hr.mono (by decide)
    have hr6 : Room 6 _ := hr.mono (by decide)
    have un70 := hr.un
    have hu66 : (A.deeper (envOfC "_law_pair_right" (defScope s_pair_right) s.heap.objs.size f cdv)).units + 66 < cLine := by omega
    refine ⟨_, pss_cons (ps_set (i := 3) nd rfl (.inl rfl) (pe_make M I_ hr5 rfl mNet bi vd pass0 (pa_cons
        (pe_disp (pps_cons (pv 2) (pe_tup (pa_cons (pe_disp (pps_cons (pv 0) (pv 1) (pps_cons (pv 1) (pv 2) pps_nil)) (by rfl) (by rfl) (fun z => by cases z) (by decide)) (pa_cons (pe_disp (pps_cons (pv 0) (pv 2) (pps_cons (pv 1) (pv 0) pps_nil)) (by rfl) (by rfl) (fun z => by cases z) (by decide)) pa_nil))) pps_nil) (by rfl) (by rfl) (fun z => by cases z) (by decide))
        (pa_cons (pe_lst (pa_cons (pv 0) pa_nil)) pa_nil))))
      (pss_cons (ps_set (i := 4) nd rfl (.inl rfl) (pe_callTy call_tuple_of (by rfl) mTup (by decide +kernel) (pa_cons (pe_callB cr_sortedS (by rfl) mSorted (by decide +kernel) (pa_cons (pe_lst (pa_cons (pv 0) (pa_cons (pv 1) pa_nil))) pa_nil)) pa_nil)))
      (pss_cons (ps_if (PW.pt (pw_or (pt_cmpR (op_neD hr.units) (pe_prop (pv 3) T.cl at0 F0 hr3 b0 .nil pass0 rfl) (pv 4) (nomark _))
          (pw_or1 (pt_cmpR (op_neDD hu66) (pe_call WY hr6 rfl gW kW bW .nil pass0 (pa_cons (pv 3) (pa_cons (pe_tup pa_nil) (pa_cons (pv 4) (pa_cons (pv 2) pa_nil)))))
            (pe_disp (pps_cons (pv 0) (pe_lst (pa_cons (pv 1) (pa_cons (pv 2) pa_nil))) (pps_cons (pv 1) (pe_lst (pa_cons (pv 2) (pa_cons (pv 0) pa_nil))) pps_nil)) (by rfl) (by rfl) (fun z => by cases z) (by decide)) (nomark _))))) (pss_one (ps_ret pe_bl)) pss_nil)
      (pss_cons (ps_if (PW.pt (pw_or (pt_cmpR (op_neD hr.units) (pe_call RG hr rfl gG kG bG .nil pass0 (pa_cons (pv 3) (pa_cons (pe_tup pa_nil) (pa_cons (pv 4) (pa_cons (pv 2) pa_nil))))) (pv 4) (nomark _))
          (pw_or (pt_cmpR (op_neD hr.units) (pe_call RG hr rfl gG kG bG .nil pass0 (pa_cons (pv 3) (pa_cons (pe_tup pa_nil) (pa_cons (pe_tup (pa_cons (pv 1) pa_nil)) (pa_cons (pv 2) pa_nil))))) (pv 4) (nomark _))
          (pw_or1 (pt_cmpR (op_neD hr.units) (pe_call RG hr rfl gG kG bG .nil pass0 (pa_cons (pv 3) (pa_cons (pe_tup (pa_cons (pv 1) pa_nil)) (pa_cons (pe_tup pa_nil) (pa_cons (pv 2) pa_nil))))) (pv 4) (nomark _)))))) (pss_one (ps_ret pe_bl)) pss_nil)
      (pss_cons (ps_if (PW.pt (pw_or (pt_cmpR op_notN (pe_call RG hr rfl gG kG bG .nil pass0 (pa_cons (pv 3) (pa_cons (pe_tup pa_nil) (pa_cons (pe_tup (pa_cons (pv 0) pa_nil)) (pa_cons (pv 2) pa_nil))))) pe_non (nomark _))
          (pw_or1 (pt_cmpR (op_neDD hu66) (pe_call RK hr rfl gK kK bK .nil pass0 (pa_cons (pv 3) (pa_cons (pe_tup pa_nil) (pa_cons (pe_tup (pa_cons (pv 0) pa_nil)) (pa_cons (pv 2) pa_nil)))))
            (pe_disp (pps_cons (pv 0) pe_int (pps_cons (pv 1) pe_int pps_nil)) (by rfl) (by rfl) (fun z => by cases z) (by decide)) (nomark _))))) (pss_one (ps_ret pe_bl)) pss_nil)
      (pss_cons (ps_if (PW.pt (pw_or (pt_cmpR (op_neD hr.units) (pe_call LD hr6 rfl gL kL bL .nil pass0 (pa_cons (pv 3) (pa_cons (pe_tup (pa_cons (pv 1) pa_nil)) (pa_cons (pe_tup pa_nil) (pa_cons (pv 2) (pa_cons (pv 0) pa_nil)))))) (pe_lst (pa_cons (pv 0) (pa_cons (pv 1) (pa_cons (pv 0) pa_nil)))) (nomark _))
          (pw_or1 (pt_cmpR (op_neD hr.units) (pe_call LD hr6 rfl gL kL bL .nil pass0 (pa_cons (pv 3) (pa_cons (pe_tup (pa_cons (pv 0) pa_nil)) (pa_cons (pe_tup (pa_cons (pv 1) pa_nil)) (pa_cons (pv 2) (pa_cons (pv 1) pa_nil)))))) (pe_lst (pa_cons (pv 1) (pa_cons (pv 0) (pa_cons (pv 2) pa_nil)))) (nomark _))))) (pss_one (ps_ret pe_bl)) pss_nil)
      (pss_cons (ps_if (PW.pt (pw_or (pt_cmpR (op_neD hr.units) (pe_lc (own := [("step", 6)]) (g := gName 6) (tt := tYes) (te := tOp (rIxT K) (tVar 6) (tC (.int 0))) rfl nd (pi_list (pe_call TW hr rfl gT kT bT .nil pass0 (pa_cons (pv 3) (pa_cons (pe_tup pa_nil) (pa_cons (pv 4) (pa_cons (pv 2) (pa_cons (pv 1) pa_nil))))))) (blkOk_by (own := [("step", 6)]) (N := nPR) (sc := defScope s_pair_right) (by decide +kernel))
            (fun _ _ _ _ _ => pg_name (i := 6) nd rfl (Or.inl rfl)) (fun _ _ _ _ _ => pts_nil) (fun _ _ _ _ _ => pe_ix ix_tup (pv 6) pe_int (fun _ _ => rfl))) (pe_lst (pa_cons (pv 1) (pa_cons (pv 0) (pa_cons (pv 1) pa_nil)))) (nomark _))
          (pw_or1 (pt_cmpR op_notN (pe_call RG hr rfl gG kG bG .nil pass0 (pa_cons (pv 3) (pa_cons (pe_tup (pa_cons (pv 0) pa_nil)) (pa_cons (pe_tup (pa_cons (pv 1) pa_nil)) (pa_cons (pv 2) pa_nil))))) pe_non (nomark _))))) (pss_one (ps_ret pe_bl)) pss_nil)
      (pss_cons (ps_set (i := 5) nd rfl (.inl rfl) (pe_lst (pa_cons (pe_tup (pa_cons (pv 0) (pa_cons (pe_tup pa_nil) pa_nil))) (pa_cons (pe_tup (pa_cons (pv 1) (pa_cons (pv 4) pa_nil))) (pa_cons (pe_tup (pa_cons (pv 0) (pa_cons (pv 4) pa_nil))) (pa_cons (pe_tup (pa_cons (pv 2) (pa_cons (pv 4) pa_nil))) pa_nil))))))
      (pss_one (ps_ret (pe_and (pe_call MV hr rfl gV kV' bV .nil pass0 (pa_cons (pv 3) (pa_cons (pe_tup pa_nil) (pa_cons (pv 4) (pa_cons (pv 2) (pa_cons (pv 0) (pa_cons (pv 5) pa_nil)))))))
        (pe_one (pe_not (pe_call MV hr rfl gV kV' bV .nil pass0 (pa_cons (pv 3) (pa_cons (pe_tup pa_nil) (pa_cons (pv 4) (pa_cons (pv 2) (pa_cons (pv 0) (pa_cons (pe_revL (pv 5)) pa_nil))))))))))))))))))), ?_⟩
    obtain ⟨dots, hd, hs⟩ := sort_ex [a, b]
    have PN : PairN a b e dots := ⟨ab, ae, be, na, nb, ne, hd, hs⟩
    have ok := PN.ok
    have d6 := ok.d6
    have ad : a ∈ dots := (PN.mem a).mpr (.inl rfl)
    have bd : b ∈ dots := (PN.mem b).mpr (.inr rfl)
    have he : e ∈ [e] := List.mem_cons_self
    -- made
    refine fun tb htb => ⟨.str e, rfl, ?_⟩
    have x1 : Evl.Ex H (upd H tb (.dK [])) := Evl.Ex.new htb
    have b1 : (upd H tb (.dK [])) tb = some (.dK []) := upd_same
    generalize upd H tb (.dK []) = H1 at x1 b1
    refine fun po hpo => ⟨.str a, rfl, .str b, rfl, .str b, rfl, .str e, rfl, upd_same, tkv (pairO a b e), rfl, by show 2 ≤ 15; decide, ?_⟩
    rw [upd_upd, merge_tkv (tb := pairO a b e) PN.nd]
    have x2 : Evl.Ex H1 (upd H1 po (.dK (tkv (pairO a b e)))) := Evl.Ex.new hpo
    have o2 : (upd H1 po (.dK (tkv (pairO a b e)))) po = some (.dK (tkv (pairO a b e))) := upd_same
    have npo : po ≠ tb := (ne_of_none b1 hpo).symm
    have b2 := x2 _ _ b1
    generalize upd H1 po (.dK (tkv (pairO a b e))) = H2 at x2 o2 b2
    refine fun pn hpn => ⟨.str a, rfl, .str e, rfl, .str b, rfl, .str a, rfl, upd_same, tkv (pairT a b e), rfl, by show 2 ≤ 15; decide, ?_⟩
    rw [upd_upd, merge_tkv (tb := pairT a b e) PN.nd]
    have x3 : Evl.Ex H2 (upd H2 pn (.dK (tkv (pairT a b e)))) := Evl.Ex.new hpn
    have n3 : (upd H2 pn (.dK (tkv (pairT a b e)))) pn = some (.dK (tkv (pairT a b e))) := upd_same
    have npn : pn ≠ tb := (ne_of_none b2 hpn).symm
    have b3 := x3 _ _ b2
    have o3 := x3 _ _ o2
    generalize upd H2 pn (.dK (tkv (pairT a b e))) = H3 at x3 n3 b3 o3
    refine ⟨by show 2 ≤ sizeLine; decide, fun t ht => ⟨Evl.Ex.new ht _ _ b3, [(Sum.inr e, .ref t)], rfl, by show 1 ≤ 15; decide, ?_⟩⟩
    rw [show mergeK [] [((Sum.inr e : Key), V.ref t)] = tkv [(e, .ref t)] from rfl]
    have x4 : Evl.Ex H3 (upd H3 t (.tup [.ref po, .ref pn])) := Evl.Ex.new ht
    have t4 : (upd H3 t (.tup [.ref po, .ref pn])) t = some (.tup [.ref po, .ref pn]) := upd_same
    have nt_ : t ≠ tb := (ne_of_none b3 ht).symm
    have o4 := x4 _ _ o3
    have n4 := x4 _ _ n3
    generalize upd H3 t (.tup [.ref po, .ref pn]) = H4 at x4 t4 o4 n4
    have x5 : Evl.Ex H (upd H4 tb (.dK (tkv [(e, .ref t)]))) := (((x1.trans x2).trans x3).trans x4).mut htb
    have b5 : (upd H4 tb (.dK (tkv [(e, .ref t)]))) tb = some (.dK (tkv [(e, .ref t)])) := upd_same
    have t5 : (upd H4 tb (.dK (tkv [(e, .ref t)]))) t = some (.tup [.ref po, .ref pn]) := by rw [upd_ne nt_]; exact t4
    have o5 : (upd H4 tb (.dK (tkv [(e, .ref t)]))) po = some (.dK (tkv (pairO a b e))) := by rw [upd_ne npo]; exact o4
    have n5 : (upd H4 tb (.dK (tkv [(e, .ref t)]))) pn = some (.dK (tkv (pairT a b e))) := by rw [upd_ne npn]; exact n4
    generalize upd H4 tb (.dK (tkv [(e, .ref t)])) = H5 at x5 b5 t5 o5 n5
    refine ⟨.str a, rfl, by show 1 ≤ sizeLine; decide, fun sl hsl => ?_⟩
    have x6 : Evl.Ex H5 (upd H5 sl (.lst [.str a])) := Evl.Ex.new hsl
    have s6 : (upd H5 sl (.lst [.str a])) sl = some (.lst ([a].map V.str)) := upd_same
    generalize upd H5 sl (.lst [.str a]) = H6 at x6 s6
    refine fun m dx hm hdx nmd => ?_
    have nob : (upd H6 dx (.own m)) m = none := by rw [upd_ne nmd.symm]; exact hm
    have xb : Evl.Ex H6 (upd H6 dx (.own m)) := Evl.Ex.new hdx
    have x6b := x6.trans xb
    have PA : PairAt (upd H6 dx (.own m)) dots e t po pn (pairO a b e) (pairT a b e) := ⟨x6b _ _ t5, x6b _ _ o5, x6b _ _ n5, PN.o, PN.n⟩
    refine ⟨upd H6 dx (.own m), m, dx, tb, sl, q2, [e], dots, [a], [], [(e, .ref t)], (fun _ => pairO a b e), (fun _ => pairT a b e), rfl, nob, Evl.Ex.new nob, upd_same, x6b _ _ b5, .refl _, fun q hq => ?_, fun e' he' => ?_, .inl (Evl.sq_of (xb _ _ s6)), .inr (hE _), ok, fun H8 x8 N0 => ⟨rfl, ?_⟩⟩
    · rw [List.mem_singleton.mp hq]
      exact ⟨t, po, pn, _, _, rfl, PA⟩
    · rw [List.mem_singleton.mp he']
      exact ⟨t, po, pn, tkv_val (List.nodup_cons.mpr ⟨by simp, List.nodup_nil⟩) (by simp), PA⟩
    have N8 : NetAt C H8 m [e] dots [a] [] (fun _ => pairO a b e) (fun _ => pairT a b e) := N0 H8 (rest_ex _ _) (fun z => x8 _ _ z)
    have X8 : Evl.Ex H H8 := x5.trans (x6b.trans x8)
    clear N0 PA
    generalize upd H6 dx (.own m) = Hz at *
    -- both
    refine ⟨.str a, rfl, .str b, rfl, by show 2 ≤ sizeLine; decide, fun l hl => ⟨l, [a, b], rfl, Evl.sq_of upd_same, by show 2 < 64; decide, fun ys sl2 hys hso hsl2 => ⟨sl2, _, rfl, .inl ⟨Evl.sq_of upd_same, fun bt hbt => ?_⟩⟩⟩⟩
    have ey : ys = dots := sorted_uniq hso PN.ds (hys.trans PN.hd.symm)
    subst ey
    have x9 : Evl.Ex H8 (upd (upd (upd H8 l (.lst [.str a, .str b])) sl2 (.lst (ys.map V.str))) bt (.tup (ys.map V.str))) := ((Evl.Ex.new hl).trans (Evl.Ex.new hsl2)).trans (Evl.Ex.new hbt)
    have B9 : (upd (upd (upd H8 l (.lst [.str a, .str b])) sl2 (.lst (ys.map V.str))) bt (.tup (ys.map V.str))) bt = some (.tup (ys.map V.str)) := upd_same
    generalize upd (upd (upd H8 l (.lst [.str a, .str b])) sl2 (.lst (ys.map V.str))) bt (.tup (ys.map V.str)) = H9 at x9 B9
    have N9 := N8.to x9
    have X9 := X8.trans x9
    clear N8 x1 x2 x3 x4 x5 x6 x8 X8 xb
    have mvm : ∀ {z : Str}, z ∈ ys → z ∈ moving [e] ys (fun _ => pairO a b e) (fun _ => pairT a b e) := fun {z} h => by rw [PN.moving]; exact h
    have all_ : ∀ {Hx : Hp}, Hx bt = some (.tup (ys.map V.str)) → LotAt Hx bt ys (moving [e] ys (fun _ => pairO a b e) (fun _ => pairT a b e)) := fun {Hx} h => ⟨h, fun z hz => mvm hz, ok.dn, ok.ds, ok.dm, by omega⟩
    obtain ⟨rd1, rd2, rd3⟩ := row_data ok.dm
    have fin : ∀ {Hx : Hp}, Evl.Ex H9 Hx → Q (.bl true) Hx := fun {Hx} x => k Hx (X9.trans x)
    clear k
    -- made.changing != both
    obtain ⟨dx', T', N', S', P', rows', h1, _⟩ := N9.ex
    refine ⟨.ref m, rfl, m, dx', _, rfl, h1, m, [e], ys, [a], [], _, _, rfl, N9, by show 1 ≤ 100; decide, by omega, ok.en, fun cp HA xA _ hcp => ?_⟩
    rw [PN.moving] at hcp
    refine ⟨.ref bt, rfl, _, _, rd1 hcp, rd1 (xA _ _ B9), rd2, rd2, _, rfl, ?_⟩
    rw [rd3]
    refine iteF ?_
    -- ways(made, (), both, end)
    refine ⟨.ref m, rfl, by show 0 ≤ sizeLine; decide, fun u0 hu0 => ?_⟩
    have xB : Evl.Ex HA (upd HA u0 (.tup [])) := Evl.Ex.new hu0
    have uB : (upd HA u0 (.tup [])) u0 = some (.tup []) := upd_same
    generalize upd HA u0 (.tup []) = HB at xB uB
    have yB := xA.trans xB
    refine ⟨.ref bt, rfl, .str e, rfl, m, u0, bt, e, [], ys, [e], ys, [a], [], _, _, rfl, N9.to yB, ok, he, lot_nil uB, all_ (yB _ _ B9), fun y _ hy => (nomatch hy), fun D HC xC hD MX => ?_⟩
    have MX' : MixAt HB HC D ys (pairF a b e [] ys) := MX
    have yC := yB.trans xC
    have fa := PN.fa (zs := []) (ys := ys)
    have fb := PN.fb (zs := []) (ys := ys)
    rw [if_neg (by simp), if_pos ad] at fa
    rw [if_neg (by simp), if_pos bd] at fb
    refine fun p hp => ⟨.str a, rfl, .str b, rfl, .str e, rfl, by show 2 ≤ sizeLine; decide, fun l1 hl1 => ⟨.str b, rfl, .str e, rfl, .str a, rfl, by show 2 ≤ sizeLine; decide, fun l2 hl2 => ?_⟩⟩
    have z1 : Evl.Ex HC (upd HC p (.dK [])) := Evl.Ex.new hp
    have pD : (upd HC p (.dK [])) p = some (.dK []) := upd_same
    generalize upd HC p (.dK []) = HD at z1 pD hl1 hl2
    have z2 : Evl.Ex HD (upd HD l1 (.lst [.str b, .str e])) := Evl.Ex.new hl1
    have q1 : (upd HD l1 (.lst [.str b, .str e])) l1 = some (.lst [.str b, .str e]) := upd_same
    have n1 : l1 ≠ p := (ne_of_none pD hl1).symm
    generalize upd HD l1 (.lst [.str b, .str e]) = HE at z2 q1 hl2
    have z3 : Evl.Ex HE (upd HE l2 (.lst [.str e, .str a])) := Evl.Ex.new hl2
    have q2' : (upd HE l2 (.lst [.str e, .str a])) l2 = some (.lst [.str e, .str a]) := upd_same
    have n2 : l2 ≠ p := (ne_of_none (z2 _ _ pD) hl2).symm
    generalize upd HE l2 (.lst [.str e, .str a]) = HF at z3 q2'
    have z13 := (z1.trans z2).trans z3
    refine ⟨(z2.trans z3) _ _ pD, tkv [(a, .ref l1), (b, .ref l2)], rfl, by show 2 ≤ 15; decide, ?_⟩
    rw [merge_tkv (tb := [(a, .ref l1), (b, .ref l2)]) PN.nd]
    have zF : Evl.Ex HC (upd HF p (.dK (tkv [(a, .ref l1), (b, .ref l2)]))) := z13.mut hp
    have pF : (upd HF p (.dK (tkv [(a, .ref l1), (b, .ref l2)]))) p = some (.dK (tkv [(a, .ref l1), (b, .ref l2)])) := upd_same
    have qF1 : (upd HF p (.dK (tkv [(a, .ref l1), (b, .ref l2)]))) l1 = some (.lst [.str b, .str e]) := by rw [upd_ne n1]; exact z3 _ _ q1
    have qF2 : (upd HF p (.dK (tkv [(a, .ref l1), (b, .ref l2)]))) l2 = some (.lst [.str e, .str a]) := by rw [upd_ne n2]; exact q2'
    generalize upd HF p (.dK (tkv [(a, .ref l1), (b, .ref l2)])) = HG at zF pF qF1 qF2
    have W : Webs ys (pairF a b e [] ys) := webs_of ok he PN.o PN.n
    refine ⟨alike_mix (MX'.r.to zF) (fun o' u q => ?_) pF PN.hd.symm ok.dn W.sp (fun q hq => ?_), _, rfl, ?_⟩
    · obtain ⟨rs, d1, _⟩ := MX'.ex
      rw [zF _ _ d1] at q
      cases q
    · rcases List.mem_cons.mp hq with rfl | hq
      · exact ⟨l1, rfl, by show HG l1 = some (.lst (pairF a b e [] ys a)); rw [fa]; exact qF1⟩
      · rw [List.mem_singleton.mp hq]
        exact ⟨l2, rfl, by show HG l2 = some (.lst (pairF a b e [] ys b)); rw [fb]; exact qF2⟩
    refine iteF ?_
    have yG := yC.trans zF
    clear z1 z2 z3 z13 zF pF qF1 qF2 q1 q2' MX MX' pD
    -- ring(made, (), both, end) != both
    refine ⟨.ref m, rfl, by show 0 ≤ sizeLine; decide, fun u1 hu1 => ?_⟩
    have xH : Evl.Ex HG (upd HG u1 (.tup [])) := Evl.Ex.new hu1
    have uH : (upd HG u1 (.tup [])) u1 = some (.tup []) := upd_same
    generalize upd HG u1 (.tup []) = HH at xH uH
    have yH := yG.trans xH
    refine ⟨.ref bt, rfl, .str e, rfl, m, u1, bt, e, [], ys, [e], ys, [a], [], _, _, rfl, N9.to yH, ok, he, PN.o, PN.n, lot_nil uH, all_ (yH _ _ B9), fun y _ hy => (nomatch hy), fun v1 HI xI R1 => ?_⟩
    obtain ⟨r1, rfl, hr1'⟩ := ring_is R1 (PN.ring (by simp) (.inr bd))
    have yI := yH.trans xI
    refine ⟨.ref bt, rfl, _, _, rd1 hr1', rd1 (yI _ _ B9), rd2, rd2, _, rfl, ?_⟩
    rw [rd3]
    refine iteF ?_
    -- ring(made, (), (b,), end) != both
    refine ⟨.ref m, rfl, by show 0 ≤ sizeLine; decide, fun u2 hu2 => ?_⟩
    have xJ : Evl.Ex HI (upd HI u2 (.tup [])) := Evl.Ex.new hu2
    have uJ : (upd HI u2 (.tup [])) u2 = some (.tup []) := upd_same
    generalize upd HI u2 (.tup []) = HJ at xJ uJ
    refine ⟨.str b, rfl, by show 1 ≤ sizeLine; decide, fun u3 hu3 => ?_⟩
    have xK : Evl.Ex HJ (upd HJ u3 (.tup [.str b])) := Evl.Ex.new hu3
    have uK : (upd HJ u3 (.tup [.str b])) u3 = some (.tup [.str b]) := upd_same
    generalize upd HJ u3 (.tup [.str b]) = HK at xK uK
    have yK := (yI.trans xJ).trans xK
    refine ⟨.str e, rfl, m, u2, u3, e, [], [b], [e], ys, [a], [], _, _, rfl, N9.to yK, ok, he, PN.o, PN.n, lot_nil (xK _ _ uJ), lot_one uK (mvm bd) nb, fun y _ hy => (nomatch hy), fun v2 HL xL R2 => ?_⟩
    obtain ⟨r2, rfl, hr2'⟩ := ring_is R2 (PN.ring (by simp) (.inr (by simp)))
    have yL := yK.trans xL
    refine ⟨.ref bt, rfl, _, _, rd1 hr2', rd1 (yL _ _ B9), rd2, rd2, _, rfl, ?_⟩
    rw [rd3]
    refine iteF ?_
    -- ring(made, (b,), (), end) != both
    refine ⟨.ref m, rfl, .str b, rfl, by show 1 ≤ sizeLine; decide, fun u4 hu4 => ?_⟩
    have xM : Evl.Ex HL (upd HL u4 (.tup [.str b])) := Evl.Ex.new hu4
    have uM : (upd HL u4 (.tup [.str b])) u4 = some (.tup [.str b]) := upd_same
    generalize upd HL u4 (.tup [.str b]) = HM at xM uM
    refine ⟨by show 0 ≤ sizeLine; decide, fun u5 hu5 => ?_⟩
    have xN : Evl.Ex HM (upd HM u5 (.tup [])) := Evl.Ex.new hu5
    have uN : (upd HM u5 (.tup [])) u5 = some (.tup []) := upd_same
    generalize upd HM u5 (.tup []) = HN at xN uN
    have yN := (yL.trans xM).trans xN
    refine ⟨.str e, rfl, m, u4, u5, e, [b], [], [e], ys, [a], [], _, _, rfl, N9.to yN, ok, he, PN.o, PN.n, lot_one (xN _ _ uM) (mvm bd) nb, lot_nil uN, fun y hy _ => (nomatch hy), fun v3 HO_ xO R3 => ?_⟩
    obtain ⟨r3, rfl, hr3'⟩ := ring_is R3 (PN.ring (by simp [ab]) (.inl (by simp)))
    have yO := yN.trans xO
    refine ⟨.ref bt, rfl, _, _, rd1 hr3', rd1 (yO _ _ B9), rd2, rd2, _, rfl, ?_⟩
    rw [rd3]
    refine iteF ?_
    clear xA yB xB xC yC R1 R2 R3 xH xI xJ xK xL xM xN xO yH yI yK yL yN hr1' hr2' hr3' yG
    -- ring(made, (), (a,), end) is not None
    refine ⟨.ref m, rfl, by show 0 ≤ sizeLine; decide, fun w2 hw2 => ?_⟩
    have xJ : Evl.Ex HO_ (upd HO_ w2 (.tup [])) := Evl.Ex.new hw2
    have uJ : (upd HO_ w2 (.tup [])) w2 = some (.tup []) := upd_same
    generalize upd HO_ w2 (.tup []) = HJ at xJ uJ
    refine ⟨.str a, rfl, by show 1 ≤ sizeLine; decide, fun w3 hw3 => ?_⟩
    have xK : Evl.Ex HJ (upd HJ w3 (.tup [.str a])) := Evl.Ex.new hw3
    have uK : (upd HJ w3 (.tup [.str a])) w3 = some (.tup [.str a]) := upd_same
    generalize upd HJ w3 (.tup [.str a]) = HK at xK uK
    have yK := (yO.trans xJ).trans xK
    refine ⟨.str e, rfl, m, w2, w3, e, [], [a], [e], ys, [a], [], _, _, rfl, N9.to yK, ok, he, PN.o, PN.n, lot_nil (xK _ _ uJ), lot_one uK (mvm ad) na, fun y _ hy => (nomatch hy), fun v4 HL xL R4 => ?_⟩
    have e4 := ring_no R4 (PN.none_b (by simp) (by simp [ab.symm]))
    subst e4
    have yL := yK.trans xL
    refine ⟨rfl, false, congrArg V.bl (by rw [decide_eq_true rfl]; rfl), iteF ?_⟩
    -- ranks(made, (), (a,), end) != {a: 1, b: 0}
    refine ⟨.ref m, rfl, by show 0 ≤ sizeLine; decide, fun w4 hw4 => ?_⟩
    have xM : Evl.Ex HL (upd HL w4 (.tup [])) := Evl.Ex.new hw4
    have uM : (upd HL w4 (.tup [])) w4 = some (.tup []) := upd_same
    generalize upd HL w4 (.tup []) = HM at xM uM
    refine ⟨.str a, rfl, by show 1 ≤ sizeLine; decide, fun w5 hw5 => ?_⟩
    have xN : Evl.Ex HM (upd HM w5 (.tup [.str a])) := Evl.Ex.new hw5
    have uN : (upd HM w5 (.tup [.str a])) w5 = some (.tup [.str a]) := upd_same
    generalize upd HM w5 (.tup [.str a]) = HN at xN uN
    have yN := (yL.trans xM).trans xN
    refine ⟨.str e, rfl, m, w4, w5, e, [], [a], [e], ys, [a], [], _, _, rfl, N9.to yN, ok, he, PN.o, PN.n, lot_nil (xN _ _ uM), lot_one uN (mvm ad) na, fun y _ hy => (nomatch hy), fun v5 HP xP R5 => ?_⟩
    have yP := yN.trans xP
    rcases R5 with ⟨_, pr, hpr⟩ | ⟨rk, gk, rfl, _, hrk, NU⟩
    · exact absurd hpr (PN.none_b (by simp) (by simp [ab.symm]) pr)
    obtain ⟨ga, gb⟩ := PN.nums NU
    refine fun p2 hp2 => ⟨.str a, rfl, .str b, rfl, upd_same, tkv [(a, .int 1), (b, .int 0)], rfl, by show 2 ≤ 15; decide, ?_⟩
    rw [upd_upd, merge_tkv (tb := [(a, V.int 1), (b, .int 0)]) PN.nd]
    have xQ : Evl.Ex HP (upd HP p2 (.dK (tkv [(a, .int 1), (b, .int 0)]))) := Evl.Ex.new hp2
    have pQ : (upd HP p2 (.dK (tkv [(a, .int 1), (b, .int 0)]))) p2 = some (.dK (tkv [(a, .int 1), (b, .int 0)])) := upd_same
    generalize upd HP p2 (.dK (tkv [(a, .int 1), (b, .int 0)])) = HQ at xQ pQ
    have yQ := yP.trans xQ
    refine ⟨alike_ints (xQ _ _ hrk) pQ (by rw [PN.hd.length_eq]; rfl) PN.nd (fun z hz => ?_), _, rfl, ?_⟩
    · rcases (PN.mem z).mp hz with rfl | rfl
      · rw [ga]; simp
      · rw [gb]; simp
    refine iteF ?_
    clear xJ xK xL xM xN xP xQ yK yL yN yP R4
    -- led(made, (b,), (), end, a) != [a, b, a]
    refine ⟨.ref m, rfl, .str b, rfl, by show 1 ≤ sizeLine; decide, fun u4 hu4 => ?_⟩
    have xM : Evl.Ex HQ (upd HQ u4 (.tup [.str b])) := Evl.Ex.new hu4
    have uM : (upd HQ u4 (.tup [.str b])) u4 = some (.tup [.str b]) := upd_same
    generalize upd HQ u4 (.tup [.str b]) = HM at xM uM
    refine ⟨by show 0 ≤ sizeLine; decide, fun u5 hu5 => ?_⟩
    have xN : Evl.Ex HM (upd HM u5 (.tup [])) := Evl.Ex.new hu5
    have uN : (upd HM u5 (.tup [])) u5 = some (.tup []) := upd_same
    generalize upd HM u5 (.tup []) = HN at xN uN
    have yN := (yQ.trans xM).trans xN
    refine ⟨.str e, rfl, .str a, rfl, m, u4, u5, e, a, [b], [], [e], ys, [a], [], _, _, rfl, N9.to yN, ok, he, ad, lot_one (xN _ _ uM) (mvm bd) nb, lot_nil uN, fun y hy _ => (nomatch hy), fun wk HR xR _ hwk => ?_⟩
    rw [PN.walk1] at hwk
    have yR := yN.trans xR
    refine ⟨.str a, rfl, .str b, rfl, .str a, rfl, by show 3 ≤ sizeLine; decide, fun l3 hl3 => ?_⟩
    have xS : Evl.Ex HR (upd HR l3 (.lst [.str a, .str b, .str a])) := Evl.Ex.new hl3
    have uS : (upd HR l3 (.lst [.str a, .str b, .str a])) l3 = some (.lst ([a, b, a].map V.str)) := upd_same
    generalize upd HR l3 (.lst [.str a, .str b, .str a]) = HS at xS uS
    have yS := yR.trans xS
    obtain ⟨ld1, ld2, ld3⟩ := list_data (zs := [a, b, a]) (fun z hz => by
      rcases List.mem_cons.mp hz with rfl | hz
      · exact na
      · rcases List.mem_cons.mp hz with rfl | hz
        · exact nb
        · rw [List.mem_singleton.mp hz]; exact na)
    refine ⟨_, _, ld1 (xS _ _ hwk), ld1 uS, ld2, ld2, _, rfl, ?_⟩
    rw [ld3]
    refine iteF ?_
    clear xM xN xR xS yN yR
    -- led(made, (a,), (b,), end, b) != [b, a, end]
    refine ⟨.ref m, rfl, .str a, rfl, by show 1 ≤ sizeLine; decide, fun u6 hu6 => ?_⟩
    have xM : Evl.Ex HS (upd HS u6 (.tup [.str a])) := Evl.Ex.new hu6
    have uM : (upd HS u6 (.tup [.str a])) u6 = some (.tup [.str a]) := upd_same
    generalize upd HS u6 (.tup [.str a]) = HM at xM uM
    refine ⟨.str b, rfl, by show 1 ≤ sizeLine; decide, fun u7 hu7 => ?_⟩
    have xN : Evl.Ex HM (upd HM u7 (.tup [.str b])) := Evl.Ex.new hu7
    have uN : (upd HM u7 (.tup [.str b])) u7 = some (.tup [.str b]) := upd_same
    generalize upd HM u7 (.tup [.str b]) = HN at xN uN
    have yN := (yS.trans xM).trans xN
    refine ⟨.str e, rfl, .str b, rfl, m, u6, u7, e, b, [a], [b], [e], ys, [a], [], _, _, rfl, N9.to yN, ok, he, bd, lot_one (xN _ _ uM) (mvm ad) na, lot_one uN (mvm bd) nb, fun y hy => by rw [List.mem_singleton.mp hy]; simp [ab.symm], fun wk2 HR xR _ hwk2 => ?_⟩
    rw [PN.walk2] at hwk2
    have yR := yN.trans xR
    refine ⟨.str b, rfl, .str a, rfl, .str e, rfl, by show 3 ≤ sizeLine; decide, fun l4 hl4 => ?_⟩
    have xT : Evl.Ex HR (upd HR l4 (.lst [.str b, .str a, .str e])) := Evl.Ex.new hl4
    have uT : (upd HR l4 (.lst [.str b, .str a, .str e])) l4 = some (.lst ([b, a, e].map V.str)) := upd_same
    generalize upd HR l4 (.lst [.str b, .str a, .str e]) = HT at xT uT
    have yT := yR.trans xT
    obtain ⟨md1, md2, md3⟩ := list_data (zs := [b, a, e]) (fun z hz => by
      rcases List.mem_cons.mp hz with rfl | hz
      · exact nb
      · rcases List.mem_cons.mp hz with rfl | hz
        · exact na
        · rw [List.mem_singleton.mp hz]; exact ne)
    refine ⟨_, _, md1 (xT _ _ hwk2), md1 uT, md2, md2, _, rfl, ?_⟩
    rw [md3]
    refine iteF ?_
    clear xM xN xR xT yN yR yS
    -- [step[0] for step in twice(made, (), both, end, b)] != [b, a, b]
    refine ⟨.ref m, rfl, by show 0 ≤ sizeLine; decide, fun u8 hu8 => ?_⟩
    have xM : Evl.Ex HT (upd HT u8 (.tup [])) := Evl.Ex.new hu8
    have uM : (upd HT u8 (.tup [])) u8 = some (.tup []) := upd_same
    generalize upd HT u8 (.tup []) = HM at xM uM
    have yM := yT.trans xM
    refine ⟨.ref bt, rfl, .str e, rfl, .str b, rfl, m, u8, bt, e, b, [], ys, [e], ys, [a], [], _, _, rfl, N9.to yM, ok, he, bd, PN.o, PN.n, lot_nil uM, all_ (yM _ _ B9), fun y _ hy => (nomatch hy), fun v6 HU xU h6 => ?_⟩
    have yU := yM.trans xU
    rcases h6 with ⟨_, no⟩ | ⟨ta, s', y, rfl, w1, nd1, hy, my, st⟩
    · exact absurd PN.twi no
    rw [PN.two w1 nd1 hy my] at st
    obtain ⟨ts, hts, si⟩ := st
    have tl : ts.length = 3 := si.len
    refine ⟨ta, rfl, ⟨_, Evl.sq_of hts⟩, fun D2 hD2 => lc_list (K := K) (a := ta) (xs := ts.map fun q => V.ref q.1)
      (fun i H' => Evl.Ex HU H' ∧ H' D2 = some (.lst (([b, a, b].take i).map V.str))) ⟨Evl.Ex.new hD2, upd_same⟩ (fun i H' _ h => Evl.sq_of (h.1 _ _ hts)) ?_ ?_⟩
    · rintro i v Hx hi ⟨xx, sx⟩
      obtain ⟨q, hq, rfl⟩ := refs_atG hi
      obtain ⟨z, hz, hqz⟩ := si.at hq
      refine ⟨rfl, ?_⟩
      refine yes_if ?_
      refine ⟨.ref q.1, rfl, q.1, _, 0, .str z, rfl, rfl, Evl.st_of (xx _ _ hqz), rfl, _, sx, ?_, xx.mut hD2, ?_⟩
      · rw [List.length_map, List.length_take]
        exact small1000 (by show min i 3 ≤ 1000; omega)
      · rw [upd_same, List.take_add_one, hz, List.map_append]
        rfl
    rintro HV ⟨xV, sV⟩
    rw [List.length_map, tl] at sV
    have yV := yU.trans xV
    refine ⟨.str b, rfl, .str a, rfl, .str b, rfl, by show 3 ≤ sizeLine; decide, fun l5 hl5 => ?_⟩
    have xW : Evl.Ex HV (upd HV l5 (.lst [.str b, .str a, .str b])) := Evl.Ex.new hl5
    have uW : (upd HV l5 (.lst [.str b, .str a, .str b])) l5 = some (.lst ([b, a, b].map V.str)) := upd_same
    generalize upd HV l5 (.lst [.str b, .str a, .str b]) = HW at xW uW
    have yW := yV.trans xW
    obtain ⟨nd1', nd2, nd3⟩ := list_data (zs := [b, a, b]) (fun z hz => by
      rcases List.mem_cons.mp hz with rfl | hz
      · exact nb
      · rcases List.mem_cons.mp hz with rfl | hz
        · exact na
        · rw [List.mem_singleton.mp hz]; exact nb)
    refine ⟨_, _, nd1' (xW _ _ sV), nd1' uW, nd2, nd2, _, rfl, ?_⟩
    rw [nd3]
    refine iteF ?_
    -- ring(made, (a,), (b,), end) is not None
    refine ⟨.ref m, rfl, .str a, rfl, by show 1 ≤ sizeLine; decide, fun u9 hu9 => ?_⟩
    have xX : Evl.Ex HW (upd HW u9 (.tup [.str a])) := Evl.Ex.new hu9
    have uX : (upd HW u9 (.tup [.str a])) u9 = some (.tup [.str a]) := upd_same
    generalize upd HW u9 (.tup [.str a]) = HX at xX uX
    refine ⟨.str b, rfl, by show 1 ≤ sizeLine; decide, fun v9 hv9 => ?_⟩
    have xY : Evl.Ex HX (upd HX v9 (.tup [.str b])) := Evl.Ex.new hv9
    have uY : (upd HX v9 (.tup [.str b])) v9 = some (.tup [.str b]) := upd_same
    generalize upd HX v9 (.tup [.str b]) = HY at xY uY
    have yY := (yW.trans xX).trans xY
    refine ⟨.str e, rfl, m, u9, v9, e, [a], [b], [e], ys, [a], [], _, _, rfl, N9.to yY, ok, he, PN.o, PN.n, lot_one (xY _ _ uX) (mvm ad) na, lot_one uY (mvm bd) nb, fun y hy => by rw [List.mem_singleton.mp hy]; simp [ab.symm], fun v7 HZ xZ R7 => ?_⟩
    have e7 := ring_no R7 (PN.none_a (by simp))
    subst e7
    have yZ := yY.trans xZ
    refine ⟨rfl, false, congrArg V.bl (by rw [decide_eq_true rfl]; rfl), iteF ?_⟩
    clear xM yM xU yU xV yV xW yW xX xY yY xZ
    -- late_here
    refine ⟨.str a, rfl, by show 0 ≤ sizeLine; decide, fun c0 hc0 => ?_⟩
    have x1 : Evl.Ex HZ (upd HZ c0 (.tup [])) := Evl.Ex.new hc0
    have k1 : (upd HZ c0 (.tup [])) c0 = some (.tup []) := upd_same
    generalize upd HZ c0 (.tup []) = G1 at x1 k1
    refine ⟨by show 2 ≤ sizeLine; decide, fun t1 ht1 => ?_⟩
    have x2 : Evl.Ex G1 (upd G1 t1 (.tup [.str a, .ref c0])) := Evl.Ex.new ht1
    have k2 : (upd G1 t1 (.tup [.str a, .ref c0])) t1 = some (.tup [.str a, .ref c0]) := upd_same
    generalize upd G1 t1 (.tup [.str a, .ref c0]) = G2 at x2 k2
    refine ⟨.str b, rfl, .ref bt, rfl, by show 2 ≤ sizeLine; decide, fun t2 ht2 => ?_⟩
    have x3 : Evl.Ex G2 (upd G2 t2 (.tup [.str b, .ref bt])) := Evl.Ex.new ht2
    have k3 : (upd G2 t2 (.tup [.str b, .ref bt])) t2 = some (.tup [.str b, .ref bt]) := upd_same
    generalize upd G2 t2 (.tup [.str b, .ref bt]) = G3 at x3 k3
    refine ⟨.str a, rfl, .ref bt, rfl, by show 2 ≤ sizeLine; decide, fun t3 ht3 => ?_⟩
    have x4 : Evl.Ex G3 (upd G3 t3 (.tup [.str a, .ref bt])) := Evl.Ex.new ht3
    have k4 : (upd G3 t3 (.tup [.str a, .ref bt])) t3 = some (.tup [.str a, .ref bt]) := upd_same
    generalize upd G3 t3 (.tup [.str a, .ref bt]) = G4 at x4 k4
    refine ⟨.str e, rfl, .ref bt, rfl, by show 2 ≤ sizeLine; decide, fun t4 ht4 => ?_⟩
    have x5 : Evl.Ex G4 (upd G4 t4 (.tup [.str e, .ref bt])) := Evl.Ex.new ht4
    have k5 : (upd G4 t4 (.tup [.str e, .ref bt])) t4 = some (.tup [.str e, .ref bt]) := upd_same
    generalize upd G4 t4 (.tup [.str e, .ref bt]) = G5 at x5 k5
    refine ⟨by show 4 ≤ sizeLine; decide, fun Lh hLh => ?_⟩
    have x6 : Evl.Ex G5 (upd G5 Lh (.lst [.ref t1, .ref t2, .ref t3, .ref t4])) := Evl.Ex.new hLh
    have k6 : (upd G5 Lh (.lst [.ref t1, .ref t2, .ref t3, .ref t4])) Lh = some (.lst [.ref t1, .ref t2, .ref t3, .ref t4]) := upd_same
    generalize upd G5 Lh (.lst [.ref t1, .ref t2, .ref t3, .ref t4]) = G6 at x6 k6
    have z26 := ((x2.trans x3).trans x4).trans (x5.trans x6)
    have yG6 := yZ.trans (x1.trans z26)
    have j1 := z26 _ _ k1
    have j2 := ((x3.trans x4).trans (x5.trans x6)) _ _ k2
    have j3 := (x4.trans (x5.trans x6)) _ _ k3
    have j4 := (x5.trans x6) _ _ k4
    have j5 := x6 _ _ k5
    have lotB : ∀ {Hx : Hp}, Hx bt = some (.tup (ys.map V.str)) → LotAt Hx bt ys ys := fun {Hx} h => ⟨h, fun z hz => hz, ok.dn, ok.ds, ok.dm, by omega⟩
    -- is_moving(.., late_here)
    refine ⟨.ref m, rfl, by show 0 ≤ sizeLine; decide, fun d0 hd0 => ?_⟩
    have xa : Evl.Ex G6 (upd G6 d0 (.tup [])) := Evl.Ex.new hd0
    have ua : (upd G6 d0 (.tup [])) d0 = some (.tup []) := upd_same
    generalize upd G6 d0 (.tup []) = G7 at xa ua
    have y7 := yG6.trans xa
    refine ⟨.ref bt, rfl, .str e, rfl, .str a, rfl, .ref Lh, rfl, m, d0, bt, Lh, e, a, [(t2, bt, .str b, ys), (t3, bt, .str a, ys), (t4, bt, .str e, ys)], (t1, c0, .str a, []), [], ys, [e], ys, [a], [], _, _, rfl, N9.to y7, ok, he, ad, PN.o, PN.n, lot_nil ua, all_ (y7 _ _ B9), fun y _ hy => (nomatch hy), xa _ _ k6, by show 3 ≤ 100; decide, ⟨⟨xa _ _ j2, lot_nil (xa _ _ j1), .inr ⟨a, rfl, na⟩⟩, ⟨xa _ _ j3, lotB (y7 _ _ B9), .inr ⟨b, rfl, nb⟩⟩, ⟨xa _ _ j4, lotB (y7 _ _ B9), .inr ⟨a, rfl, na⟩⟩, ⟨xa _ _ j5, lotB (y7 _ _ B9), .inr ⟨e, rfl, ne⟩⟩, trivial⟩, fun G8 x8 => ?_⟩
    have r8 : (decide (V.str a = V.str a) && (goesAll ys (pairO a b e) (pairT a b e) [] [(.str a, []), (.str b, ys), (.str a, ys), (.str e, ys)]).all id) = true := by
      rw [PN.goes, decide_eq_true rfl]
      rfl
    refine ⟨true, congrArg V.bl r8, iteT ?_⟩
    have y8 := y7.trans x8
    -- not is_moving(.., late_here[::-1])
    refine ⟨.ref m, rfl, by show 0 ≤ sizeLine; decide, fun d1 hd1 => ?_⟩
    have xc : Evl.Ex G8 (upd G8 d1 (.tup [])) := Evl.Ex.new hd1
    have uc : (upd G8 d1 (.tup [])) d1 = some (.tup []) := upd_same
    generalize upd G8 d1 (.tup []) = G9 at xc uc
    have x69 := (xa.trans x8).trans xc
    refine ⟨.ref bt, rfl, .str e, rfl, .str a, rfl, .ref Lh, rfl, Lh, _, rfl, Evl.sq_of (x69 _ _ k6), fun Lr hLr => ?_⟩
    have xd : Evl.Ex G9 (upd G9 Lr (.lst [.ref t4, .ref t3, .ref t2, .ref t1])) := Evl.Ex.new hLr
    have ud : (upd G9 Lr (.lst [.ref t4, .ref t3, .ref t2, .ref t1])) Lr = some (.lst [.ref t4, .ref t3, .ref t2, .ref t1]) := upd_same
    have er : upd G9 Lr (.lst [V.ref t1, .ref t2, .ref t3, .ref t4].reverse) = upd G9 Lr (.lst [.ref t4, .ref t3, .ref t2, .ref t1]) := rfl
    rw [er]
    generalize upd G9 Lr (.lst [.ref t4, .ref t3, .ref t2, .ref t1]) = GA at xd ud
    have x6A := x69.trans xd
    have yA := yG6.trans x6A
    refine ⟨m, d1, bt, Lr, e, a, [(t3, bt, .str a, ys), (t2, bt, .str b, ys), (t1, c0, .str a, [])], (t4, bt, .str e, ys), [], ys, [e], ys, [a], [], _, _, rfl, N9.to yA, ok, he, ad, PN.o, PN.n, lot_nil (xd _ _ uc), all_ (yA _ _ B9), fun y _ hy => (nomatch hy), ud, by show 3 ≤ 100; decide, ⟨⟨x6A _ _ j5, lotB (yA _ _ B9), .inr ⟨e, rfl, ne⟩⟩, ⟨x6A _ _ j4, lotB (yA _ _ B9), .inr ⟨a, rfl, na⟩⟩, ⟨x6A _ _ j3, lotB (yA _ _ B9), .inr ⟨b, rfl, nb⟩⟩, ⟨x6A _ _ j2, lot_nil (x6A _ _ j1), .inr ⟨a, rfl, na⟩⟩, trivial⟩, fun GB xB => ?_⟩
    refine ⟨false, congrArg V.bl ?_, fin (yA.trans xB)⟩
    rw [decide_eq_false (fun q => ae (V.str.inj q).symm)]
    rfl
end
end Rw
end T_Q5

section T_S7
set_option Elab.async false
set_option linter.all false
set_option maxRecDepth 100000
set_option maxHeartbeats 4000000
/-! ### min of a tuple of texts in order -/
namespace L2
open PySem PySem.Spec PyProof.Rows
theorem minOf_first {x : Str} : ∀ {xs : List Str}, (∀ y ∈ xs, ¬ y.cps.toList < x.cps.toList) → PySem.W.minOf x xs = x
  | [], _ => rfl
  | y :: xs, h => by
    show List.foldl _ (if PySem.W.DatumOrd.lt y x = true then y else x) xs = x
    have e : PySem.W.DatumOrd.lt y x = false := decide_eq_false (h y List.mem_cons_self)
    rw [e, if_neg (by decide)]
    exact minOf_first fun z hz => h z (List.mem_cons_of_mem _ hz)
def rMinT (K : PySem.W.Frag) : List V → Hp → VK → Prop := fun vs H Q => ∃ (a : Addr) (x : Str) (xs : List Str), vs = [V.ref a] ∧ SqT K H a ((x :: xs).map V.str) ∧ (∀ y ∈ xs, ¬ y.cps.toList < x.cps.toList) ∧ Q (.str x) H
theorem cr_minT {X : Cx} (hc : X.calm = true) (hu : X.A.units + 1 < cLine) : CallR X (.builtin "min") (rMinT X.K) := by
  intro pins s σ H vs us Q I r h
  obtain ⟨a, x, xs, rfl, hs, hm, q⟩ := h
  obtain ⟨its, rv, hl, _⟩ := I.tuple hs
  rw [Vals.ref1 r]
  have hd : ∀ (zs : List Str) (us : List Value), Vals (zs.map V.str) us → ∃ as, ReadsAll s.heap us (zs.map PySem.W.Datum.toD) as := fun zs => by
    induction zs with
    | nil => intro us r; cases r; exact ⟨_, .nil⟩
    | cons z zs ih =>
      intro us r
      cases r with
      | cons h t =>
        obtain ⟨tk, rfl⟩ := h
        obtain ⟨as, ra⟩ := ih _ t
        exact ⟨_, .cons (.str z tk) ra⟩
  have hh : PySem.W.HoldAll s.heap its (x :: xs) := hd _ _ rv
  refine PySem.W.min_tuple_datum (α := Str) (I.ok.hd hc) (vs := its.toArray) hl (by simpa using hh) hu fun i v h' tk hi hv hk => ?_
  rw [minOf_first hm] at hv
  obtain ⟨as, rd⟩ := hv
  have rd' : Reads h' v (.str x) as := rd
  cases rd' with
  | str _ t => exact ⟨.str x, H, I.kept hk, ⟨t, rfl⟩, q⟩
end L2
end T_S7

section T_V6
set_option Elab.async false
set_option linter.all false
set_option maxRecDepth 100000
set_option maxHeartbeats 4000000
/-! ### methods of a tuple that was just made -/
namespace L2
open PySem PySem.Spec PyProof.Rows
section
variable {X : Cx}
/-- tuple(list), and that its object is plain -/
theorem call_tuple_frz : CallR X (.type "tuple") (fun xs H Q => ∃ p ys, xs = [.ref p] ∧ SqL X.K H p ys ∧ ∀ l o, o.dict = none → H l = none → (∀ o' u', X.H_0 l ≠ some (.frz o' u')) → Q (.ref l) (upd H l (.frz o (.tup ys)))) := by
  intro pins s σ H xs us Q I r h
  obtain ⟨p, ys, rfl, hq, q⟩ := h
  obtain ⟨u, rfl, rx⟩ := vals1 r
  cases rx
  obtain ⟨its, r', pl, hz⟩ := I.list hq
  have hlen := r'.length
  refine call_tuple_list pl.isList (fun h' kp => ?_) (by simp only [List.size_toArray] <;> omega)
  have I1 : Inv X pins σ H { s with heap := h' } := I.kept (t' := s.toks) kp
  have fr : H h'.objs.size = none := I1.hok.fresh (Nat.le_refl _)
  have I2 : Inv X pins σ (upd H h'.objs.size (.frz { cls := .type "tuple", data := .seq its.toArray } (.tup ys))) { s with heap := h'.push { cls := .type "tuple", data := .seq its.toArray } } :=
    I1.laid (t' := s.toks) (fun b o e => Heap.get?_push_of_some _ e) (Nat.le_refl _) (show ObjOk X.prog X.w _ _ _ (.frz _ (.tup ys)) from ⟨Heap.get?_push_size _ rfl, hz, its, r', IsTup.new _ _⟩)
  exact ⟨.ref h'.objs.size, _, I2, rfl, q _ _ rfl fr fun o' u' e => by
    have := I.base.frzs _ o' u' e
    rw [fr] at this
    cases this⟩
def tyZ (T : String) (x : V) (H : Hp) : Prop := ∃ p o xs, x = .ref p ∧ H p = some (.frz o (.tup xs)) ∧ o.dict = none ∧ T = "tuple"
theorem tyZ_is {pins : List (Addr × Obj)} {σ : St} {H : Hp} {s : Shared} {T : String} {x : V} {v : Value} (I : Inv X pins σ H s) (r : RelV x v) (ty : tyZ T x H) :
    s.TypeIs v T ∧ ∀ a, v = .ref a → ∃ ob, s.heap.get? a = some ob ∧ ob.dict = none := by
  obtain ⟨p, o, xs, rfl, hp, hd, rfl⟩ := ty
  cases r
  obtain ⟨e, _, its, _, ⟨o', e', c, _⟩⟩ := I.hok p _ hp
  rw [e] at e'
  cases e'
  refine ⟨⟨o, e, c⟩, fun a q => ?_⟩
  cases q
  exact ⟨o, e, hd⟩
def tBMZ (T : String) (r : V → List V → Hp → VK → Prop) (to : TE) (t : TA) : TE := fun σ H Q => to σ H fun x H1 => tyZ T x H1 ∧ t σ H1 fun xs H2 => r x xs H2 Q
variable {o e : Expr} {es : List Expr} {to : TE} {t : TA} {name : Str} {apos cpos : Pos} {T id : String} {r : V → List V → Hp → VK → Prop}
theorem pe_bmZ (pa : PlainAttrs T) (slot : Slot T name id) (hty : typeOf (.builtin id) = pure (.type "method_descriptor")) (hm : MtR X id r) (ho : PE X o to) (ha : PA X (e :: es) t)
    (hbase : attributeBase o name X.env (eval o X.env) = eval o X.env := by rfl)
    (hfew : ((backTo cpos (starEach (e :: es) X.env)).all (fun x => !x.1) && (backToKw cpos (keywordEach [] X.env)).all (fun x => x.1.isSome)
      && decide ((e :: es).length + ([] : List Keyword).length + (if ([] : List Keyword).isEmpty then 0 else 1) < 30)) = true := by rfl)
    (hline : (apos.endLine == cpos.line) = true := by rfl) (hs : starEach (e :: es) X.env = (false, eval e X.env) :: starEach es X.env := by rfl) (hplain : (backTo cpos (starEach es X.env)).any (·.1) = false := by rfl) :
    PE X (.Call (.Attribute o name apos) (e :: es) [] cpos) (tBMZ T r to t) := by
  refine ⟨fun pins s σ H Q I h => ?_⟩
  refine wpAny_Call_method_late hbase hfew hline rfl (thn (ho.run pins s σ H _ I h) fun v s1 ⟨x, H1, I1, r1, ty, q1⟩ => ?_)
  obtain ⟨h1, h2⟩ := tyZ_is I1 r1 ty
  refine ⟨T, id, pa, slot, hty, h1, h2, ?_⟩
  have hA := ha.run cpos pins s1 σ H1 _ I1 q1
  rw [hs] at hA ⊢
  refine Calls.callWith_builtin (by show (false || (backTo cpos (starEach es X.env)).any (·.1)) = false; rw [hplain] <;> rfl) (Calls.evalArgs_plain ?_)
  exact thn hA fun us s2 ⟨vs, H2, I2, r2, q2⟩ => hm pins s2 σ H2 x vs v us Q I2 r1 r2 q2
/-- what was held still may be read as before from here on -/
def tThaw (X : Cx) (t : TS) : TS := fun D σ H => ∃ d o u, H d = some (.frz o u) ∧ (∀ o' u', X.H_0 d ≠ some (.frz o' u')) ∧ t D σ (upd H d u)
theorem pss_thaw {ss : List Stmt} {t : TS} (h : PSs X ss t) : PSs X ss (tThaw X t) := by
  refine ⟨fun pins s σ H D I hw => ?_⟩
  obtain ⟨d, o, u, hd, hn, q⟩ := hw
  exact h.run pins s σ _ D (I.unlock hd hn) q
end
end L2
end T_V6

section T_Q6
set_option Elab.async false
set_option linter.all false
set_option maxRecDepth 100000
set_option maxHeartbeats 8000000
namespace Rw
open PySem PySem.Spec L2 PyProof.Rows
/-! ### three in a ring -/
structure TriN (a b c e : Str) (dots : List Str) : Prop where
  ab : a ≠ b
  ac : a ≠ c
  bc : b ≠ c
  ae : a ≠ e
  be : b ≠ e
  ce : c ≠ e
  na : Nm a
  nb : Nm b
  nc : Nm c
  ne : Nm e
  hd : dots.Perm [a, b, c]
  ds : sortedS dots = true
abbrev triO (a b c e : Str) : List (Str × V) := [(a, .str e), (b, .str e), (c, .str e)]
abbrev triT (a b c e : Str) : List (Str × V) := [(a, .str b), (b, .str c), (c, .str a)]
abbrev triF (a b c e : Str) (zs ys : List Str) : Str → List V := spotsOf (triO a b c e) (triT a b c e) zs ys
section
variable {a b c e : Str} {dots : List Str}
theorem TriN.mem (h : TriN a b c e dots) (z : Str) : z ∈ dots ↔ z = a ∨ z = b ∨ z = c := by
  rw [h.hd.mem_iff]
  simp
theorem TriN.nd (h : TriN a b c e dots) : [a, b, c].Nodup := by
  have := h.ab; have := h.ac; have := h.bc
  simp [h.ab, h.ac, h.bc]
theorem TriN.dn (h : TriN a b c e dots) : dots.Nodup := h.hd.nodup_iff.mpr h.nd
theorem TriN.out (h : TriN a b c e dots) : e ∉ dots := fun m => by
  rcases (h.mem e).mp m with q | q | q
  · exact h.ae q.symm
  · exact h.be q.symm
  · exact h.ce q.symm
theorem TriN.ok (h : TriN a b c e dots) : ModelOk [e] dots [] [] := by
  refine ⟨by show 0 < 1; decide, by show 1 ≤ 2; decide, List.nodup_cons.mpr ⟨by simp, List.nodup_nil⟩, rfl, fun z hz => by rw [List.mem_singleton.mp hz]; exact h.ne, by rw [h.hd.length_eq]; show 0 < 3; decide, by rw [h.hd.length_eq]; show 3 ≤ 6; decide, h.dn, h.ds, fun z hz => ?_, fun z hz hm => ?_, List.nodup_nil, rfl, fun z hz => (nomatch hz), List.nodup_nil, by show 0 ≤ 2; decide, fun z hz => (nomatch hz)⟩
  · rcases (h.mem z).mp hz with rfl | rfl | rfl
    · exact h.na
    · exact h.nb
    · exact h.nc
  · rw [List.mem_singleton.mp hz] at hm
    exact h.out hm
theorem TriN.o (h : TriN a b c e dots) : TabOk dots e (triO a b c e) := by
  refine ⟨h.hd.symm, fun q hq => ?_⟩
  rcases List.mem_cons.mp hq with rfl | hq
  · exact .inr (.inl rfl)
  · rcases List.mem_cons.mp hq with rfl | hq
    · exact .inr (.inl rfl)
    · rw [List.mem_singleton.mp hq]
      exact .inr (.inl rfl)
theorem TriN.n (h : TriN a b c e dots) : TabOk dots e (triT a b c e) := by
  refine ⟨h.hd.symm, fun q hq => ?_⟩
  rcases List.mem_cons.mp hq with rfl | hq
  · exact .inr (.inr ⟨b, (h.mem b).mpr (.inr (.inl rfl)), h.ab.symm, rfl⟩)
  · rcases List.mem_cons.mp hq with rfl | hq
    · exact .inr (.inr ⟨c, (h.mem c).mpr (.inr (.inr rfl)), h.bc.symm, rfl⟩)
    · rw [List.mem_singleton.mp hq]
      exact .inr (.inr ⟨a, (h.mem a).mpr (.inl rfl), h.ac, rfl⟩)
theorem TriN.lo (h : TriN a b c e dots) {z : Str} (hz : z ∈ dots) : look (triO a b c e) z = .str e := by
  rcases (h.mem z).mp hz with rfl | rfl | rfl <;> exact look_at h.nd (by simp)
theorem TriN.lt (h : TriN a b c e dots) : look (triT a b c e) a = .str b ∧ look (triT a b c e) b = .str c ∧ look (triT a b c e) c = .str a :=
  ⟨look_at h.nd (by simp), look_at h.nd (by simp), look_at h.nd (by simp)⟩
theorem TriN.moving (h : TriN a b c e dots) : moving [e] dots (fun _ => triO a b c e) (fun _ => triT a b c e) = dots := by
  obtain ⟨l1, l2, l3⟩ := h.lt
  refine List.filter_eq_self.mpr fun z hz => ?_
  show ((!decide (look (triO a b c e) z = look (triT a b c e) z)) || false) = true
  rw [h.lo hz]
  rcases (h.mem z).mp hz with rfl | rfl | rfl
  · rw [l1, decide_eq_false (fun q => h.be (V.str.inj q).symm)]; rfl
  · rw [l2, decide_eq_false (fun q => h.ce (V.str.inj q).symm)]; rfl
  · rw [l3, decide_eq_false (fun q => h.ae (V.str.inj q).symm)]; rfl
/-- where a node that is free leads to -/
theorem TriN.way (h : TriN a b c e dots) {zs ys : List Str} {z u : Str} (hz : z ∈ dots) (hu : u ∈ dots) : V.str u ∈ triF a b c e zs ys z ↔ (z ∈ zs ∨ z ∈ ys) ∧ V.str u = look (triT a b c e) z := by
  rw [mem_spots, h.lo hz]
  constructor
  · rintro (⟨_, q⟩ | q)
    · rw [V.str.inj q] at hu
      exact absurd hu h.out
    · exact q
  · exact .inr
/-- the least of the shortest rings begins with the least node -/
theorem TriN.best (h : TriN a b c e dots) : ∃ (k : Nat) (x : Str) (r : List Str), dots = x :: r ∧ k ≤ 2 ∧ [a, b, c][k]? = some x ∧ (∀ y ∈ r, ¬ y.cps.toList < x.cps.toList) ∧ ([a, b, c].drop k ++ [a, b, c].take k).length = 3 ∧ (∀ z ∈ [a, b, c].drop k ++ [a, b, c].take k, z ∈ dots) ∧
    ∀ zs ys : List Str, (∀ z ∈ dots, z ∈ zs ∨ z ∈ ys) → Best dots (triF a b c e zs ys) ([a, b, c].drop k ++ [a, b, c].take k) := by
  obtain ⟨l1, l2, l3⟩ := h.lt
  have ad := (h.mem a).mpr (.inl rfl)
  have bd := (h.mem b).mpr (.inr (.inl rfl))
  have cd := (h.mem c).mpr (.inr (.inr rfl))
  obtain ⟨x, r, ex⟩ : ∃ x r, dots = x :: r := by
    cases q : dots with
    | nil => rw [q] at ad; cases ad
    | cons x r => exact ⟨x, r, rfl⟩
  have st := strict_of h.ds h.dn
  rw [ex] at st
  have less := (List.pairwise_cons.mp st).1
  have xd : x ∈ dots := by rw [ex]; exact List.mem_cons_self
  have low : ∀ y ∈ r, ¬ y.cps.toList < x.cps.toList := fun y hy q => List.lt_irrefl _ (List.lt_trans (less y hy) q)
  have lt : ∀ y ∈ dots, y ≠ x → x.cps.toList < y.cps.toList := fun y hy ne => by
    rw [ex] at hy
    exact less y ((List.mem_cons.mp hy).resolve_left ne)
  have wa : ∀ zs ys : List Str, (∀ z ∈ dots, z ∈ zs ∨ z ∈ ys) → ∀ y ∈ dots, V.str y ∈ triF a b c e zs ys a ↔ y = b := fun zs ys fr y hy => by
    rw [h.way ad hy, l1]
    exact ⟨fun q => V.str.inj q.2, fun q => ⟨fr a ad, by rw [q]⟩⟩
  have wb : ∀ zs ys : List Str, (∀ z ∈ dots, z ∈ zs ∨ z ∈ ys) → ∀ y ∈ dots, V.str y ∈ triF a b c e zs ys b ↔ y = c := fun zs ys fr y hy => by
    rw [h.way bd hy, l2]
    exact ⟨fun q => V.str.inj q.2, fun q => ⟨fr b bd, by rw [q]⟩⟩
  have wc : ∀ zs ys : List Str, (∀ z ∈ dots, z ∈ zs ∨ z ∈ ys) → ∀ y ∈ dots, V.str y ∈ triF a b c e zs ys c ↔ y = a := fun zs ys fr y hy => by
    rw [h.way cd hy, l3]
    exact ⟨fun q => V.str.inj q.2, fun q => ⟨fr c cd, by rw [q]⟩⟩
  rcases (h.mem x).mp xd with q | q | q
  · refine ⟨0, x, r, ex, by decide, by rw [q]; rfl, low, rfl, fun z hz => ?_, fun zs ys fr => ?_⟩
    · have : z ∈ [a, b, c] := by simpa using hz
      exact h.hd.mem_iff.mpr this
    · exact cyc_best (fun z => h.mem z) (wa zs ys fr) (wb zs ys fr) (wc zs ys fr) (by have := lt b bd (by rw [q]; exact h.ab.symm); rw [q] at this; exact this) (by have := lt c cd (by rw [q]; exact h.ac.symm); rw [q] at this; exact this) h.bc
  · refine ⟨1, x, r, ex, by decide, by rw [q]; rfl, low, rfl, fun z hz => ?_, fun zs ys fr => ?_⟩
    · have : z ∈ [b, c, a] := hz
      refine (h.mem z).mpr ?_
      simp at this
      rcases this with q | q | q
      · exact .inr (.inl q)
      · exact .inr (.inr q)
      · exact .inl q
    · exact cyc_best (p := b) (q := c) (r := a) (fun z => (h.mem z).trans ⟨fun q => by rcases q with q | q | q; exact .inr (.inr q); exact .inl q; exact .inr (.inl q), fun q => by rcases q with q | q | q; exact .inr (.inl q); exact .inr (.inr q); exact .inl q⟩) (wb zs ys fr) (wc zs ys fr) (wa zs ys fr) (by have := lt c cd (by rw [q]; exact h.bc.symm); rw [q] at this; exact this) (by have := lt a ad (by rw [q]; exact h.ab); rw [q] at this; exact this) h.ac.symm
  · refine ⟨2, x, r, ex, by decide, by rw [q]; rfl, low, rfl, fun z hz => ?_, fun zs ys fr => ?_⟩
    · have : z ∈ [c, a, b] := hz
      refine (h.mem z).mpr ?_
      simp at this
      rcases this with q | q | q
      · exact .inr (.inr q)
      · exact .inl q
      · exact .inr (.inl q)
    · exact cyc_best (p := c) (q := a) (r := b) (fun z => (h.mem z).trans ⟨fun q => by rcases q with q | q | q; exact .inr (.inl q); exact .inr (.inr q); exact .inl q, fun q => by rcases q with q | q | q; exact .inr (.inr q); exact .inl q; exact .inr (.inl q)⟩) (wc zs ys fr) (wa zs ys fr) (wb zs ys fr) (by have := lt a ad (by rw [q]; exact h.ac); rw [q] at this; exact this) (by have := lt b bd (by rw [q]; exact h.bc); rw [q] at this; exact this) h.ab
/-- a and b alone -/
theorem TriN.none_c (h : TriN a b c e dots) {ys : List Str} (hc : c ∉ ys) (p : List Str) : ¬ IsRing dots (triF a b c e [] ys) p := by
  obtain ⟨l1, l2, l3⟩ := h.lt
  refine no_ring_of (g := fun z => if z = a then 2 else if z = b then 1 else 0) (fun z hz y hy w => ?_) p
  obtain ⟨fr, ey⟩ := (h.way hz hy).mp w
  have zy : z ∈ ys := fr.resolve_left (by simp)
  rcases (h.mem z).mp hz with rfl | rfl | rfl
  · have := V.str.inj (ey.trans l1)
    subst this
    show (if y = z then 2 else if y = y then 1 else 0) < (if z = z then 2 else _)
    rw [if_neg h.ab.symm, if_pos rfl, if_pos rfl]
    decide
  · have := V.str.inj (ey.trans l2)
    subst this
    show (if y = a then 2 else if y = z then 1 else 0) < (if z = a then 2 else if z = z then 1 else 0)
    rw [if_neg h.ac.symm, if_neg h.bc.symm, if_neg h.ab.symm, if_pos rfl]
    decide
  · exact absurd zy hc
theorem TriN.nums (h : TriN a b c e dots) {ys : List Str} (ha : a ∈ ys) (hb : b ∈ ys) (hc : c ∉ ys) {g : Str → Int} (N : Nums dots (triF a b c e [] ys) dots g) : g a = 2 ∧ g b = 1 ∧ g c = 0 := by
  obtain ⟨l1, l2, l3⟩ := h.lt
  have ad := (h.mem a).mpr (.inl rfl)
  have bd := (h.mem b).mpr (.inr (.inl rfl))
  have cd := (h.mem c).mpr (.inr (.inr rfl))
  have ec : behind dots (triF a b c e [] ys) c = [] := List.eq_nil_iff_forall_not_mem.mpr fun y hy => by
    obtain ⟨h1, h2⟩ := mem_behind.mp hy
    exact hc (((h.way cd h2).mp h1).1.resolve_left (by simp))
  have gc : g c = 0 := (N.top c cd).1 ec
  have bc : c ∈ behind dots (triF a b c e [] ys) b := mem_behind.mpr ⟨(h.way bd cd).mpr ⟨.inr hb, l2.symm⟩, cd⟩
  obtain ⟨y, hy, gy⟩ := (N.top b bd).2.1 (List.ne_nil_of_mem bc)
  obtain ⟨h1, h2⟩ := mem_behind.mp hy
  have ey : y = c := V.str.inj (((h.way bd h2).mp h1).2.trans l2)
  rw [ey, gc] at gy
  have ab : b ∈ behind dots (triF a b c e [] ys) a := mem_behind.mpr ⟨(h.way ad bd).mpr ⟨.inr ha, l1.symm⟩, bd⟩
  obtain ⟨y2, hy2, gy2⟩ := (N.top a ad).2.1 (List.ne_nil_of_mem ab)
  obtain ⟨h3, h4⟩ := mem_behind.mp hy2
  have ey2 : y2 = b := V.str.inj (((h.way ad h4).mp h3).2.trans l1)
  rw [ey2, gy] at gy2
  exact ⟨gy2, gy, gc⟩
theorem TriN.reach (h : TriN a b c e dots) {ys : List Str} (ha : a ∈ ys) (hb : b ∈ ys) (y : Str) : Reach dots (triF a b c e [] ys) a y ↔ y ∈ dots := by
  obtain ⟨l1, l2, l3⟩ := h.lt
  have ad := (h.mem a).mpr (.inl rfl)
  have bd := (h.mem b).mpr (.inr (.inl rfl))
  have cd := (h.mem c).mpr (.inr (.inr rfl))
  constructor
  · rintro ⟨r, w, rfl⟩
    exact isWay_dots w _ (last_in r a)
  · intro hy
    rcases (h.mem y).mp hy with rfl | rfl | rfl
    · exact ⟨[], isWay_one ad, rfl⟩
    · exact ⟨[y], ⟨⟨(h.way ad bd).mpr ⟨.inr ha, l1.symm⟩, trivial⟩, fun z hz => by rcases List.mem_cons.mp hz with rfl | hz; exact ad; rw [List.mem_singleton.mp hz]; exact bd⟩, rfl⟩
    · exact ⟨[b, y], ⟨⟨(h.way ad bd).mpr ⟨.inr ha, l1.symm⟩, (h.way bd cd).mpr ⟨.inr hb, l2.symm⟩, trivial⟩, fun z hz => by rcases List.mem_cons.mp hz with rfl | hz; exact ad; rcases List.mem_cons.mp hz with rfl | hz; exact bd; rw [List.mem_singleton.mp hz]; exact cd⟩, rfl⟩
theorem TriN.unsound (h : TriN a b c e dots) : ¬ Sound [e] dots (fun _ => triO a b c e) (fun _ => triT a b c e) := fun s => by
  obtain ⟨l1, l2, l3⟩ := h.lt
  have ad := (h.mem a).mpr (.inl rfl)
  have bd := (h.mem b).mpr (.inr (.inl rfl))
  have cd := (h.mem c).mpr (.inr (.inr rfl))
  have q := s e List.mem_cons_self true a ad
  refine q ?_
  have va : valV (tkv (canon dots (triT a b c e))) (Sum.inr a) = some (.str b) := by rw [canon_get ad]; exact congrArg some l1
  have vb : valV (tkv (canon dots (triT a b c e))) (Sum.inr b) = some (.str c) := by rw [canon_get bd]; exact congrArg some l2
  have vc : valV (tkv (canon dots (triT a b c e))) (Sum.inr c) = some (.str a) := by rw [canon_get cd]; exact congrArg some l3
  have w : walkOf (canon dots (triT a b c e)) (dots.length + 1) a = [.str a, .str b, .str c, .str a] := by
    rw [h.hd.length_eq]
    show track _ 4 [] (.str a) = _
    rw [track_on va (by simp), track_on vb (by simp [h.ab.symm]), track_on vc (by simp [h.ac.symm, h.bc.symm]), track_ring (by simp)]
    rfl
  show depthV (dots.length + 1) e (canon dots (triT a b c e)) a = .non
  unfold depthV
  rw [w]
  show (if some (V.str a) = some (V.str e) then _ else _) = _
  rw [if_neg (fun q => h.ae (V.str.inj (Option.some.inj q)))]
end
end Rw
end T_Q6

section T_Q7
set_option Elab.async false
set_option linter.all false
set_option maxRecDepth 100000
set_option maxHeartbeats 8000000
namespace Rw
open PySem PySem.Spec L2 PyProof.Rows
theorem reach_data {K : PySem.W.Frag} {H : Hp} {p a : Addr} {xs : List Str} {b1 b2 : Bool} (hp : H p = some (.tup [.ref a, .bl b1, .bl b2])) (ha : H a = some (.tup (xs.map V.str))) : Dp K H (.ref p) (.tuple [.tuple (xs.map PyData.str), .bool b1, .bool b2]) :=
  .tup (Evl.st_of hp) (.cons (.tup (Evl.st_of ha) (dp_names xs)) (.cons (.bl b1) (.cons (.bl b2) .nil)))
theorem reach_lay {xs : List Str} {b1 b2 : Bool} (h : ∀ z ∈ xs, Nm z) : SeqAt.shaped (.tuple [.tuple (xs.map PyData.str), .bool b1, .bool b2]) = true ∧ (PyData.tuple [.tuple (xs.map PyData.str), .bool b1, .bool b2]).canLay0 = true := by
  obtain ⟨g1, g2⟩ := names_lay xs h
  have c : PyData.canLayAll0 [.tuple (xs.map PyData.str), .bool b1, .bool b2] = true := by
    show (PyData.canLayAll0 (xs.map PyData.str) && (true && (true && true))) = true
    rw [g1]
    rfl
  refine ⟨?_, c⟩
  unfold SeqAt.shaped
  rw [show PyData.canLay0 (.tuple [.tuple (xs.map PyData.str), .bool b1, .bool b2]) = PyData.canLayAll0 [.tuple (xs.map PyData.str), .bool b1, .bool b2] from rfl, c,
    show PyData.depth (.tuple [.tuple (xs.map PyData.str), .bool b1, .bool b2]) = max (PyData.depthAll (xs.map PyData.str) + 1) (max 0 (max 0 0)) + 1 from rfl, g2]
  rfl
section
variable {P : Program} {w : World} {K : PySem.W.Frag} {mg : Str → Option Value} {base : Heap}
def spThreeRight : Sp := fun vs H Q _ => ∃ a b c e : Str, vs = [.str a, .str b, .str c, .str e] ∧ a ≠ b ∧ a ≠ c ∧ b ≠ c ∧ a ≠ e ∧ b ≠ e ∧ c ≠ e ∧ Nm a ∧ Nm b ∧ Nm c ∧ Nm e ∧ ∀ H', Evl.Ex H H' → Q (.bl true) H'
abbrev nTh : List Str := ["a", "b", "c", "end", "made", "every", "least", "order", "first", "due", "ready", "part", "two"]
theorem sc_th : FnScope nTh ["a", "b", "c", "end"] (defScope s_three_right) := ⟨rfl, rfl, rfl, by decide +kernel, rfl, by decide +kernel, by decide +kernel⟩
theorem ok_three_right {f C fi q1 q2 : Addr} {fd fdi : FuncData} {ds : List Value} (F : Fun K "_law_three_right" "_law_three_right" s_three_right f fd) (M : Mk K C fi) (I_ : FnOk P w K mg base CX0 4 fi fdi ["self", "tables", "sources", "posts"] (spInit K C)) (bi : Binds K fdi ["self", "tables", "sources", "posts"] ds) (vd : Vals [V.ref q1, V.ref q2] ds) (hE1 : ∀ H, SqT K H q1 []) (hE : ∀ H, SqT K H q2 []) (mNet : mg "Net" = some (.ref C))
    (CG : Cal P w K mg base 7 "ring" ["net", "done", "lot", "goal"] (spRing C)) (CK : Cal P w K mg base 7 "ranks" ["net", "done", "lot", "goal"] (spRanks C)) (CR : Cal P w K mg base 7 "reached" ["net", "done", "lot", "goal", "node"] (spReached C)) (CS : Cal P w K mg base 5 "is_sound" ["net"] (spSound C))
    (mTup : mg "tuple" = none) (mSorted : mg "sorted" = none) (mMin : mg "min" = none) : FnOk P w K mg base CX0 8 f fd ["a", "b", "c", "end"] spThreeRight := by
  obtain ⟨fG, fdG, RG, kG, bG, gG⟩ := CG.ex
  obtain ⟨fK, fdK, RK, kK, bK, gK⟩ := CK.ex
  obtain ⟨fR, fdR, RR, kR, bR, gR⟩ := CR.ex
  obtain ⟨fS, fdS, RS, kS, bS, gS⟩ := CS.ex
  refine F.ok sc_th (fun vs H Q E h => ?_) (fun cdv A outer s H vs Q E hr h => ?_)
  · obtain ⟨a, b, c, e, rfl, _⟩ := h
    rfl
  · obtain ⟨a, b, c, e, rfl, ab, ac, bc, ae, be, ce, na, nb, nc, ne, k⟩ := h
    have nd := sc_th.nd
    have hu := hu_of hr
    have hr5 : Room 5 _ := hr.mono (by decide)
    have un70 := hr.un
    have hu66 : (A.deeper (envOfC "_law_three_right" (defScope s_three_right) s.heap.objs.size f cdv)).units + 66 < cLine := by omega
    have hu1 : (A.deeper (envOfC "_law_three_right" (defScope s_three_right) s.heap.objs.size f cdv)).units + 1 < cLine := by omega
    refine ⟨_, pss_cons (ps_set (i := 4) nd rfl (.inl rfl) (pe_make M I_ hr5 rfl mNet bi vd pass0 (pa_cons
        (pe_disp (pps_cons (pv 3) (pe_tup (pa_cons (pe_disp (pps_cons (pv 0) (pv 3) (pps_cons (pv 1) (pv 3) (pps_cons (pv 2) (pv 3) pps_nil))) (by rfl) (by rfl) (fun z => by cases z) (by decide)) (pa_cons (pe_disp (pps_cons (pv 0) (pv 1) (pps_cons (pv 1) (pv 2) (pps_cons (pv 2) (pv 0) pps_nil))) (by rfl) (by rfl) (fun z => by cases z) (by decide)) pa_nil))) pps_nil) (by rfl) (by rfl) (fun z => by cases z) (by decide)) pa_nil)))
      (pss_cons (ps_set (i := 5) nd rfl (.inl rfl) (pe_callTy call_tuple_frz (by rfl) mTup (by decide +kernel) (pa_cons (pe_callB cr_sortedS (by rfl) mSorted (by decide +kernel) (pa_cons (pe_lst (pa_cons (pv 0) (pa_cons (pv 1) (pa_cons (pv 2) pa_nil)))) pa_nil)) pa_nil)))
      (pss_cons (ps_set (i := 6) nd rfl (.inl rfl) (pe_bmZ PySem.F.plainAttrs_tuple PySem.F.slot_tuple_index PySem.F.type_tuple_index mt_tup_index (pv 5) (pa_cons (pe_callB (cr_minT rfl hu1) (by rfl) mMin (by decide +kernel) (pa_cons (pv 5) pa_nil)) pa_nil)))
      (pss_thaw (pss_cons (ps_set (i := 7) nd rfl (.inl rfl) (pe_lst (pa_cons (pv 0) (pa_cons (pv 1) (pa_cons (pv 2) pa_nil)))))
      (pss_cons (ps_set (i := 8) nd rfl (.inl rfl) (pe_bm PySem.F.plainAttrs_list PySem.F.slot_list_index PySem.F.type_list_index mt_index (pv 7) (pa_cons (pe_ix ix_tup (pv 5) (pv 6) (fun _ _ => rfl)) pa_nil)))
      (pss_cons (ps_set (i := 9) nd rfl (.inl rfl) (pe_callTy call_tuple_of (by rfl) mTup (by decide +kernel) (pa_cons (pe_op op_cat (pe_slice sl_list (pv 7) (po_some (pv 8)) po_none) (pe_slice sl_list (pv 7) po_none (po_some (pv 8)))) pa_nil)))
      (pss_cons (ps_for PassesOwn.never rfl (pi_list (pe_lst (pa_cons (pe_tup (pa_cons (pe_tup pa_nil) (pa_cons (pv 5) pa_nil))) (pa_cons (pe_tup (pa_cons (pv 5) (pa_cons (pe_tup pa_nil) pa_nil))) (pa_cons (pe_tup (pa_cons (pe_tup (pa_cons (pv 0) pa_nil)) (pa_cons (pe_callTy call_tuple_of (by rfl) mTup (by decide +kernel) (pa_cons (pe_callB cr_sortedS (by rfl) mSorted (by decide +kernel) (pa_cons (pe_lst (pa_cons (pv 1) (pa_cons (pv 2) pa_nil))) pa_nil)) pa_nil)) pa_nil))) pa_nil)))))
          (pg_tup rfl (pgs_cons (pg_name (i := 10) nd rfl (.inl rfl)) (pgs_cons (pg_name (i := 11) nd rfl (.inl rfl)) pgs_nil)))
        (pss_one (ps_if (PW.pt (pw_or (pt_cmpR (op_neD hr.units) (pe_call RG hr rfl gG kG bG .nil pass0 (pa_cons (pv 4) (pa_cons (pv 10) (pa_cons (pv 11) (pa_cons (pv 3) pa_nil))))) (pv 9) (nomark _))
          (pw_or1 (pt_cmpR op_notN (pe_call RK hr rfl gK kK bK .nil pass0 (pa_cons (pv 4) (pa_cons (pv 10) (pa_cons (pv 11) (pa_cons (pv 3) pa_nil))))) pe_non (nomark _))))) (pss_one (ps_ret pe_bl)) pss_nil)))
      (pss_cons (ps_set (i := 12) nd rfl (.inl rfl) (pe_callTy call_tuple_of (by rfl) mTup (by decide +kernel) (pa_cons (pe_callB cr_sortedS (by rfl) mSorted (by decide +kernel) (pa_cons (pe_lst (pa_cons (pv 0) (pa_cons (pv 1) pa_nil))) pa_nil)) pa_nil)))
      (pss_cons (ps_if (PW.pt (pw_or (pt_cmpR op_notN (pe_call RG hr rfl gG kG bG .nil pass0 (pa_cons (pv 4) (pa_cons (pe_tup pa_nil) (pa_cons (pv 12) (pa_cons (pv 3) pa_nil))))) pe_non (nomark _))
          (pw_or1 (pt_cmpR (op_neDD hu66) (pe_call RK hr rfl gK kK bK .nil pass0 (pa_cons (pv 4) (pa_cons (pe_tup pa_nil) (pa_cons (pv 12) (pa_cons (pv 3) pa_nil)))))
            (pe_disp (pps_cons (pv 0) pe_int (pps_cons (pv 1) pe_int (pps_cons (pv 2) pe_int pps_nil))) (by rfl) (by rfl) (fun z => by cases z) (by decide)) (nomark _))))) (pss_one (ps_ret pe_bl)) pss_nil)
      (pss_one (ps_ret (pe_and (pe_cmpR (op_eqD hr.units) (pe_call RR hr rfl gR kR bR .nil pass0 (pa_cons (pv 4) (pa_cons (pe_tup pa_nil) (pa_cons (pv 12) (pa_cons (pv 3) (pa_cons (pv 0) pa_nil)))))) (pe_tup (pa_cons (pv 5) (pa_cons pe_bl (pa_cons pe_bl pa_nil)))) (nomark _))
        (pe_one (pe_cmpR op_isBl (pe_call RS hr5 rfl gS kS bS .nil pass0 (pa_cons (pv 4) pa_nil)) pe_bl (nomark _))))))))))))))), ?_⟩
    obtain ⟨dots, hd, hs⟩ := sort_ex [a, b, c]
    have TN : TriN a b c e dots := ⟨ab, ac, bc, ae, be, ce, na, nb, nc, ne, hd, hs⟩
    have ok := TN.ok
    have ad : a ∈ dots := (TN.mem a).mpr (.inl rfl)
    have bd : b ∈ dots := (TN.mem b).mpr (.inr (.inl rfl))
    have cd : c ∈ dots := (TN.mem c).mpr (.inr (.inr rfl))
    have d3 : dots.length = 3 := TN.hd.length_eq
    have he : e ∈ [e] := List.mem_cons_self
    -- made
    refine fun tb htb => ⟨.str e, rfl, ?_⟩
    have x1 : Evl.Ex H (upd H tb (.dK [])) := Evl.Ex.new htb
    have b1 : (upd H tb (.dK [])) tb = some (.dK []) := upd_same
    generalize upd H tb (.dK []) = H1 at x1 b1
    refine fun po hpo => ⟨.str a, rfl, .str e, rfl, .str b, rfl, .str e, rfl, .str c, rfl, .str e, rfl, upd_same, tkv (triO a b c e), rfl, by show 3 ≤ 15; decide, ?_⟩
    rw [upd_upd, merge_tkv (tb := triO a b c e) TN.nd]
    have x2 : Evl.Ex H1 (upd H1 po (.dK (tkv (triO a b c e)))) := Evl.Ex.new hpo
    have o2 : (upd H1 po (.dK (tkv (triO a b c e)))) po = some (.dK (tkv (triO a b c e))) := upd_same
    have npo : po ≠ tb := (ne_of_none b1 hpo).symm
    have b2 := x2 _ _ b1
    generalize upd H1 po (.dK (tkv (triO a b c e))) = H2 at x2 o2 b2
    refine fun pn hpn => ⟨.str a, rfl, .str b, rfl, .str b, rfl, .str c, rfl, .str c, rfl, .str a, rfl, upd_same, tkv (triT a b c e), rfl, by show 3 ≤ 15; decide, ?_⟩
    rw [upd_upd, merge_tkv (tb := triT a b c e) TN.nd]
    have x3 : Evl.Ex H2 (upd H2 pn (.dK (tkv (triT a b c e)))) := Evl.Ex.new hpn
    have n3 : (upd H2 pn (.dK (tkv (triT a b c e)))) pn = some (.dK (tkv (triT a b c e))) := upd_same
    have npn : pn ≠ tb := (ne_of_none b2 hpn).symm
    have b3 := x3 _ _ b2
    have o3 := x3 _ _ o2
    generalize upd H2 pn (.dK (tkv (triT a b c e))) = H3 at x3 n3 b3 o3
    refine ⟨by show 2 ≤ sizeLine; decide, fun t ht => ⟨Evl.Ex.new ht _ _ b3, [(Sum.inr e, .ref t)], rfl, by show 1 ≤ 15; decide, ?_⟩⟩
    rw [show mergeK [] [((Sum.inr e : Key), V.ref t)] = tkv [(e, .ref t)] from rfl]
    have x4 : Evl.Ex H3 (upd H3 t (.tup [.ref po, .ref pn])) := Evl.Ex.new ht
    have t4 : (upd H3 t (.tup [.ref po, .ref pn])) t = some (.tup [.ref po, .ref pn]) := upd_same
    have nt_ : t ≠ tb := (ne_of_none b3 ht).symm
    have o4 := x4 _ _ o3
    have n4 := x4 _ _ n3
    generalize upd H3 t (.tup [.ref po, .ref pn]) = H4 at x4 t4 o4 n4
    have x5 : Evl.Ex H (upd H4 tb (.dK (tkv [(e, .ref t)]))) := (((x1.trans x2).trans x3).trans x4).mut htb
    have b5 : (upd H4 tb (.dK (tkv [(e, .ref t)]))) tb = some (.dK (tkv [(e, .ref t)])) := upd_same
    have t5 : (upd H4 tb (.dK (tkv [(e, .ref t)]))) t = some (.tup [.ref po, .ref pn]) := by rw [upd_ne nt_]; exact t4
    have o5 : (upd H4 tb (.dK (tkv [(e, .ref t)]))) po = some (.dK (tkv (triO a b c e))) := by rw [upd_ne npo]; exact o4
    have n5 : (upd H4 tb (.dK (tkv [(e, .ref t)]))) pn = some (.dK (tkv (triT a b c e))) := by rw [upd_ne npn]; exact n4
    generalize upd H4 tb (.dK (tkv [(e, .ref t)])) = H5 at x5 b5 t5 o5 n5
    refine fun m dx hm hdx nmd => ?_
    have nob : (upd H5 dx (.own m)) m = none := by rw [upd_ne nmd.symm]; exact hm
    have xb : Evl.Ex H5 (upd H5 dx (.own m)) := Evl.Ex.new hdx
    have PA : PairAt (upd H5 dx (.own m)) dots e t po pn (triO a b c e) (triT a b c e) := ⟨xb _ _ t5, xb _ _ o5, xb _ _ n5, TN.o, TN.n⟩
    refine ⟨upd H5 dx (.own m), m, dx, tb, q1, q2, [e], dots, [], [], [(e, .ref t)], (fun _ => triO a b c e), (fun _ => triT a b c e), rfl, nob, Evl.Ex.new nob, upd_same, xb _ _ b5, .refl _, fun q hq => ?_, fun e' he' => ?_, .inr (hE1 _), .inr (hE _), ok, fun H8 x8 N0 => ⟨rfl, ?_⟩⟩
    · rw [List.mem_singleton.mp hq]
      exact ⟨t, po, pn, _, _, rfl, PA⟩
    · rw [List.mem_singleton.mp he']
      exact ⟨t, po, pn, tkv_val (List.nodup_cons.mpr ⟨by simp, List.nodup_nil⟩) (by simp), PA⟩
    have N8 : NetAt C H8 m [e] dots [] [] (fun _ => triO a b c e) (fun _ => triT a b c e) := N0 H8 (rest_ex _ _) (fun z => x8 _ _ z)
    have X8 : Evl.Ex H H8 := x5.trans (xb.trans x8)
    clear N0 PA x8 xb nob x1 x2 x3 x4 x5
    -- every
    refine ⟨.str a, rfl, .str b, rfl, .str c, rfl, by show 3 ≤ sizeLine; decide, fun l hl => ⟨l, [a, b, c], rfl, Evl.sq_of upd_same, by show 3 < 64; decide, fun ys sl2 hys hso hsl2 => ⟨sl2, _, rfl, Evl.sq_of upd_same, fun ev oz hoz hev nof => ?_⟩⟩⟩
    have ey : ys = dots := sorted_uniq hso TN.ds (hys.trans TN.hd.symm)
    subst ey
    have x9 : Evl.Ex H8 (upd (upd H8 l (.lst [.str a, .str b, .str c])) sl2 (.lst (ys.map V.str))) := (Evl.Ex.new hl).trans (Evl.Ex.new hsl2)
    generalize upd (upd H8 l (.lst [.str a, .str b, .str c])) sl2 (.lst (ys.map V.str)) = H9 at x9 hev
    -- least
    obtain ⟨kk, x, r, ex, k2, hk, low, len3, sub, best⟩ := TN.best
    have z9 : (upd H9 ev (.frz oz (.tup (ys.map V.str)))) ev = some (.frz oz (.tup (ys.map V.str))) := upd_same
    have sq9 : SqT K (upd H9 ev (.frz oz (.tup (ys.map V.str)))) ev ((x :: r).map V.str) := by rw [← ex]; exact .inl (.inr ⟨oz, z9⟩)
    refine ⟨.ref ev, rfl, ⟨ev, oz, _, rfl, z9, hoz, rfl⟩, .ref ev, rfl, ev, x, r, rfl, sq9, low, ev, x :: r, x, 0, rfl, rfl, sq9, rfl, fun _ h => absurd h (Nat.not_lt_zero _), ?_⟩
    refine ⟨ev, oz, _, z9, nof, ?_⟩
    rw [upd_upd]
    have xA : Evl.Ex H8 (upd H9 ev (.tup (ys.map V.str))) := x9.trans (Evl.Ex.new hev)
    have EA : (upd H9 ev (.tup (ys.map V.str))) ev = some (.tup (ys.map V.str)) := upd_same
    generalize upd H9 ev (.tup (ys.map V.str)) = HA at xA EA
    clear z9 sq9 x9
    -- order
    refine ⟨.str a, rfl, .str b, rfl, .str c, rfl, by show 3 ≤ sizeLine; decide, fun lo hlo => ?_⟩
    have xB : Evl.Ex HA (upd HA lo (.lst ([a, b, c].map V.str))) := Evl.Ex.new hlo
    have LB : (upd HA lo (.lst ([a, b, c].map V.str))) lo = some (.lst ([a, b, c].map V.str)) := upd_same
    have eL : upd HA lo (.lst [V.str a, .str b, .str c]) = upd HA lo (.lst ([a, b, c].map V.str)) := rfl
    rw [eL]
    generalize upd HA lo (.lst ([a, b, c].map V.str)) = HB at xB LB
    have EB := xB _ _ EA
    have EBx : SqT K HB ev ((x :: r).map V.str) := by rw [← ex]; exact Evl.st_of EB
    -- first
    refine ⟨.ref lo, rfl, .inl ⟨rfl, _, Evl.sq_of LB⟩, .ref ev, rfl, .int ((0 : Nat) : Int), rfl, ev, _, ((0 : Nat) : Int), .str x, rfl, rfl, EBx, atI_nat (j := 0) rfl, ?_⟩
    have hkV : ([a, b, c].map V.str)[kk]? = some (.str x) := by rw [List.getElem?_map, hk]; rfl
    refine ⟨lo, [a, b, c].map V.str, .str x, kk, .str x, rfl, rfl, Evl.sq_of LB, rfl, flat_strs [a, b, c], hkV, ?_, fun mm z' hmm hz' => ?_, ?_⟩
    · show decide (x = x) = true
      exact decide_eq_true rfl
    · obtain ⟨y', hy', rfl⟩ := str_at hz'
      show decide (y' = x) = false
      refine decide_eq_false fun q => ?_
      rw [q] at hy'
      have := at_one TN.nd hy' hk
      omega
    -- due
    obtain ⟨RT, hRT⟩ : ∃ RT, RT = [a, b, c].drop kk ++ [a, b, c].take kk := ⟨_, rfl⟩
    rw [← hRT] at len3 sub best
    refine ⟨.ref lo, rfl, .int (kk : Nat), rfl, (kk : Int), rfl, lo, _, rfl, Evl.sq_of LB, fun p1 hp1 => ?_⟩
    rw [cut_drop]
    have xC : Evl.Ex HB (upd HB p1 (.lst (([a, b, c].map V.str).drop kk))) := Evl.Ex.new hp1
    have PC : (upd HB p1 (.lst (([a, b, c].map V.str).drop kk))) p1 = some (.lst (([a, b, c].map V.str).drop kk)) := upd_same
    generalize upd HB p1 (.lst (([a, b, c].map V.str).drop kk)) = HC at xC PC
    refine ⟨.ref lo, rfl, .int (kk : Nat), rfl, (kk : Int), rfl, lo, _, rfl, Evl.sq_of (xC _ _ LB), fun p2 hp2 => ?_⟩
    rw [cut_take]
    have xD : Evl.Ex HC (upd HC p2 (.lst (([a, b, c].map V.str).take kk))) := Evl.Ex.new hp2
    have PD : (upd HC p2 (.lst (([a, b, c].map V.str).take kk))) p2 = some (.lst (([a, b, c].map V.str).take kk)) := upd_same
    generalize upd HC p2 (.lst (([a, b, c].map V.str).take kk)) = HD at xD PD
    have eRT : ([a, b, c].map V.str).drop kk ++ ([a, b, c].map V.str).take kk = RT.map V.str := by rw [hRT, List.map_append, List.map_drop, List.map_take]
    refine ⟨p1, p2, _, _, rfl, rfl, xD _ _ PC, PD, by rw [← List.length_append, eRT, List.length_map, len3]; decide, fun ol hol => ?_⟩
    rw [eRT]
    have xE : Evl.Ex HD (upd HD ol (.lst (RT.map V.str))) := Evl.Ex.new hol
    refine ⟨ol, _, rfl, .inl ⟨Evl.sq_of upd_same, fun du hdu => ?_⟩⟩
    have xF : Evl.Ex HB (upd (upd HD ol (.lst (RT.map V.str))) du (.tup (RT.map V.str))) := ((xC.trans xD).trans xE).trans (Evl.Ex.new hdu)
    have DF : (upd (upd HD ol (.lst (RT.map V.str))) du (.tup (RT.map V.str))) du = some (.tup (RT.map V.str)) := upd_same
    generalize upd (upd HD ol (.lst (RT.map V.str))) du (.tup (RT.map V.str)) = HF at xF DF
    clear xC PC xD PD xE LB EBx
    have EF := xF _ _ EB
    have NF := N8.to (xA.trans (xB.trans xF))
    have XF := X8.trans (xA.trans (xB.trans xF))
    have fin : ∀ {Hx : Hp}, Evl.Ex HF Hx → Q (.bl true) Hx := fun {Hx} x => k Hx (XF.trans x)
    clear k xA xB xF EA EB N8 X8 XF
    have mvm : ∀ {z : Str}, z ∈ ys → z ∈ moving [e] ys (fun _ => triO a b c e) (fun _ => triT a b c e) := fun {z} h => by rw [TN.moving]; exact h
    have all_ : ∀ {Hx : Hp} {q : Addr}, Hx q = some (.tup (ys.map V.str)) → LotAt Hx q ys (moving [e] ys (fun _ => triO a b c e) (fun _ => triT a b c e)) := fun {Hx q} h => ⟨h, fun z hz => mvm hz, ok.dn, ok.ds, ok.dm, by omega⟩
    have two_ : ∀ {Hx : Hp} {q : Addr} {u v : Str} {zs : List Str}, u ∈ ys → v ∈ ys → u ≠ v → zs.Perm [u, v] → sortedS zs = true → Hx q = some (.tup (zs.map V.str)) → LotAt Hx q zs (moving [e] ys (fun _ => triO a b c e) (fun _ => triT a b c e)) := fun {Hx q u v zs} hu hv ne hp so h =>
      have mm : ∀ z ∈ zs, z ∈ ys := fun z hz => by
        have := hp.mem_iff.mp hz
        simp at this
        rcases this with rfl | rfl
        · exact hu
        · exact hv
      ⟨h, fun z hz => mvm (mm z hz), hp.nodup_iff.mpr (by simp [ne]), so, fun z hz => ok.dm z (mm z hz), by rw [hp.length_eq]; show 2 ≤ 60; decide⟩
    obtain ⟨rd1, rd2, rd3⟩ := row_data (zs := RT) (fun z hz => ok.dm z (sub z hz))
    -- the rounds
    refine ⟨by show 0 ≤ sizeLine; decide, fun u0 hu0 => ?_⟩
    have y1 : Evl.Ex HF (upd HF u0 (.tup [])) := Evl.Ex.new hu0
    have a1 : (upd HF u0 (.tup [])) u0 = some (.tup []) := upd_same
    generalize upd HF u0 (.tup []) = G1 at y1 a1
    refine ⟨.ref ev, rfl, by show 2 ≤ sizeLine; decide, fun w1 hw1 => ?_⟩
    have y2 : Evl.Ex G1 (upd G1 w1 (.tup [.ref u0, .ref ev])) := Evl.Ex.new hw1
    have a2 : (upd G1 w1 (.tup [.ref u0, .ref ev])) w1 = some (.tup [.ref u0, .ref ev]) := upd_same
    generalize upd G1 w1 (.tup [.ref u0, .ref ev]) = G2 at y2 a2
    refine ⟨.ref ev, rfl, by show 0 ≤ sizeLine; decide, fun u1 hu1 => ?_⟩
    have y3 : Evl.Ex G2 (upd G2 u1 (.tup [])) := Evl.Ex.new hu1
    have a3 : (upd G2 u1 (.tup [])) u1 = some (.tup []) := upd_same
    generalize upd G2 u1 (.tup []) = G3 at y3 a3
    refine ⟨by show 2 ≤ sizeLine; decide, fun w2 hw2 => ?_⟩
    have y4 : Evl.Ex G3 (upd G3 w2 (.tup [.ref ev, .ref u1])) := Evl.Ex.new hw2
    have a4 : (upd G3 w2 (.tup [.ref ev, .ref u1])) w2 = some (.tup [.ref ev, .ref u1]) := upd_same
    generalize upd G3 w2 (.tup [.ref ev, .ref u1]) = G4 at y4 a4
    refine ⟨.str a, rfl, by show 1 ≤ sizeLine; decide, fun u2 hu2 => ?_⟩
    have y5 : Evl.Ex G4 (upd G4 u2 (.tup [.str a])) := Evl.Ex.new hu2
    have a5 : (upd G4 u2 (.tup [.str a])) u2 = some (.tup [.str a]) := upd_same
    generalize upd G4 u2 (.tup [.str a]) = G5 at y5 a5
    refine ⟨.str b, rfl, .str c, rfl, by show 2 ≤ sizeLine; decide, fun l2 hl2 => ⟨l2, [b, c], rfl, Evl.sq_of upd_same, by show 2 < 64; decide, fun zb sb hzb sob hsb => ⟨sb, _, rfl, .inl ⟨Evl.sq_of upd_same, fun bt hbt => ?_⟩⟩⟩⟩
    have y6 : Evl.Ex G5 (upd (upd (upd G5 l2 (.lst [.str b, .str c])) sb (.lst (zb.map V.str))) bt (.tup (zb.map V.str))) := ((Evl.Ex.new hl2).trans (Evl.Ex.new hsb)).trans (Evl.Ex.new hbt)
    have a6 : (upd (upd (upd G5 l2 (.lst [.str b, .str c])) sb (.lst (zb.map V.str))) bt (.tup (zb.map V.str))) bt = some (.tup (zb.map V.str)) := upd_same
    generalize upd (upd (upd G5 l2 (.lst [.str b, .str c])) sb (.lst (zb.map V.str))) bt (.tup (zb.map V.str)) = G6 at y6 a6
    refine ⟨by show 2 ≤ sizeLine; decide, fun w3 hw3 => ?_⟩
    have y7 : Evl.Ex G6 (upd G6 w3 (.tup [.ref u2, .ref bt])) := Evl.Ex.new hw3
    have a7 : (upd G6 w3 (.tup [.ref u2, .ref bt])) w3 = some (.tup [.ref u2, .ref bt]) := upd_same
    generalize upd G6 w3 (.tup [.ref u2, .ref bt]) = G7 at y7 a7
    refine ⟨by show 3 ≤ sizeLine; decide, fun L hL => ?_⟩
    have y8 : Evl.Ex G7 (upd G7 L (.lst [.ref w1, .ref w2, .ref w3])) := Evl.Ex.new hL
    have a8 : (upd G7 L (.lst [.ref w1, .ref w2, .ref w3])) L = some (.lst [.ref w1, .ref w2, .ref w3]) := upd_same
    generalize upd G7 L (.lst [.ref w1, .ref w2, .ref w3]) = G8 at y8 a8
    have z78 := y7.trans y8
    have z68 := y6.trans z78
    have z58 := y5.trans z68
    have z48 := y4.trans z58
    have z38 := y3.trans z48
    have z28 := y2.trans z38
    have zF8 := y1.trans z28
    have rounds : ∀ (j : Nat) (v : V), [V.ref w1, .ref w2, .ref w3][j]? = some v → ∃ (tj rj pj : Addr) (zs' ys' : List Str), v = .ref tj ∧ G8 tj = some (.tup [.ref rj, .ref pj]) ∧ LotAt G8 rj zs' (moving [e] ys (fun _ => triO a b c e) (fun _ => triT a b c e)) ∧ LotAt G8 pj ys' (moving [e] ys (fun _ => triO a b c e) (fun _ => triT a b c e)) ∧ (∀ y ∈ ys', y ∉ zs') ∧ ∀ z ∈ ys, z ∈ zs' ∨ z ∈ ys' := by
      intro j v hj
      match j, hj with
      | 0, hj =>
        cases hj
        exact ⟨w1, u0, ev, [], ys, rfl, z38 _ _ a2, lot_nil (z28 _ _ a1), all_ (zF8 _ _ EF), fun y _ hy => (nomatch hy), fun z hz => .inr hz⟩
      | 1, hj =>
        cases hj
        exact ⟨w2, ev, u1, ys, [], rfl, z58 _ _ a4, all_ (zF8 _ _ EF), lot_nil (z48 _ _ a3), fun y hy => (nomatch hy), fun z hz => .inl hz⟩
      | 2, hj =>
        cases hj
        refine ⟨w3, u2, bt, [a], zb, rfl, y8 _ _ a7, lot_one (z68 _ _ a5) (mvm ad) na, two_ bd cd bc hzb sob (z78 _ _ a6), fun y hy hm => ?_, fun z hz => ?_⟩
        · have := hzb.mem_iff.mp hy
          rw [List.mem_singleton.mp hm] at this
          simp [ab, ac] at this
        · rcases (TN.mem z).mp hz with rfl | rfl | rfl
          · exact .inl (by simp)
          · exact .inr (hzb.mem_iff.mpr (by simp))
          · exact .inr (hzb.mem_iff.mpr (by simp))
      | j + 3, hj => simp at hj
    refine ⟨L, rfl, ⟨_, Evl.sq_of a8⟩, for_list (K := K) (a := L) (xs := [V.ref w1, .ref w2, .ref w3])
      (fun j σ H' => ∃ s10 s11 : Option V, σ = [some (.str a), some (.str b), some (.str c), some (.str e), some (.ref m), some (.ref ev), some (.int ((0 : Nat) : Int)), some (.ref lo), some (.int (kk : Nat)), some (.ref du), s10, s11, none] ∧ Evl.Ex G8 H')
      ⟨_, _, rfl, Evl.Ex.refl _⟩ (fun j σ H' _ ⟨_, _, _, x⟩ => Evl.sq_of (x _ _ a8)) ?_ ?_⟩
    · rintro j v σ H' hj ⟨s10, s11, rfl, xx⟩
      obtain ⟨tj, rj, pj, zs', ys', rfl, ht', la, lb, dis, free⟩ := rounds j v hj
      have yy := zF8.trans xx
      refine ⟨tj, _, rfl, Evl.st_of (xx _ _ ht'), rfl, _, _, rfl, _, [], rfl, rfl, ?_⟩
      refine ⟨.ref m, rfl, .ref rj, rfl, .ref pj, rfl, .str e, rfl, m, rj, pj, e, zs', ys', [e], ys, [], [], _, _, rfl, NF.to yy, ok, he, TN.o, TN.n, la.ex xx, lb.ex xx, dis, fun v1 HI xI R1 => ?_⟩
      have bb := best zs' ys' free
      obtain ⟨r1, rfl, hr1⟩ := ring_is R1 bb
      refine ⟨.ref du, rfl, _, _, rd1 hr1, rd1 ((yy.trans xI) _ _ DF), rd2, rd2, _, rfl, ?_⟩
      rw [rd3]
      refine iteF ?_
      have x2 := xx.trans xI
      refine ⟨.ref m, rfl, .ref rj, rfl, .ref pj, rfl, .str e, rfl, m, rj, pj, e, zs', ys', [e], ys, [], [], _, _, rfl, NF.to (yy.trans xI), ok, he, TN.o, TN.n, la.ex x2, lb.ex x2, dis, fun v2 HJ xJ R2 => ?_⟩
      rcases R2 with ⟨rfl, _⟩ | ⟨rk, gk, rfl, _, _, NU⟩
      · exact ⟨rfl, false, congrArg V.bl (by rw [decide_eq_true rfl]; rfl), iteF ⟨_, _, rfl, x2.trans xJ⟩⟩
      · obtain ⟨y0, r0, e0⟩ := ring_cons bb.1
        have b0 := bb.1
        rw [e0] at b0
        exact (no_ring NU b0 (b0.1.2 y0 List.mem_cons_self)).elim
    rintro σ HK ⟨s10, s11, rfl, xx⟩
    have yK := zF8.trans xx
    clear z78 z68 z58 z48 z38 z28 zF8 rounds y1 y2 y3 y4 y5 y6 y7 y8 xx
    -- two
    refine ⟨.str a, rfl, .str b, rfl, by show 2 ≤ sizeLine; decide, fun l3 hl3 => ⟨l3, [a, b], rfl, Evl.sq_of upd_same, by show 2 < 64; decide, fun zt st hzt sot hst => ⟨st, _, rfl, .inl ⟨Evl.sq_of upd_same, fun tw htw => ?_⟩⟩⟩⟩
    have y1 : Evl.Ex HK (upd (upd (upd HK l3 (.lst [.str a, .str b])) st (.lst (zt.map V.str))) tw (.tup (zt.map V.str))) := ((Evl.Ex.new hl3).trans (Evl.Ex.new hst)).trans (Evl.Ex.new htw)
    have a1 : (upd (upd (upd HK l3 (.lst [.str a, .str b])) st (.lst (zt.map V.str))) tw (.tup (zt.map V.str))) tw = some (.tup (zt.map V.str)) := upd_same
    generalize upd (upd (upd HK l3 (.lst [.str a, .str b])) st (.lst (zt.map V.str))) tw (.tup (zt.map V.str)) = HL at y1 a1
    have yL := yK.trans y1
    have zta : a ∈ zt := hzt.mem_iff.mpr (by simp)
    have ztb : b ∈ zt := hzt.mem_iff.mpr (by simp)
    have ztc : c ∉ zt := fun q => by
      have := hzt.mem_iff.mp q
      simp [ac.symm, bc.symm] at this
    have lotT : ∀ {Hx : Hp}, Evl.Ex HL Hx → LotAt Hx tw zt (moving [e] ys (fun _ => triO a b c e) (fun _ => triT a b c e)) := fun {Hx} x => two_ ad bd ab hzt sot (x _ _ a1)
    -- ring(made, (), two, end) is not None
    refine ⟨.ref m, rfl, by show 0 ≤ sizeLine; decide, fun v0 hv0 => ?_⟩
    have y2 : Evl.Ex HL (upd HL v0 (.tup [])) := Evl.Ex.new hv0
    have a2 : (upd HL v0 (.tup [])) v0 = some (.tup []) := upd_same
    generalize upd HL v0 (.tup []) = HM at y2 a2
    refine ⟨.ref tw, rfl, .str e, rfl, m, v0, tw, e, [], zt, [e], ys, [], [], _, _, rfl, NF.to (yL.trans y2), ok, he, TN.o, TN.n, lot_nil a2, lotT y2, fun y _ hy => (nomatch hy), fun v1 HN y3 R1 => ?_⟩
    have e1 := ring_no R1 (TN.none_c ztc)
    subst e1
    have z3 := y2.trans y3
    refine ⟨rfl, false, congrArg V.bl (by rw [decide_eq_true rfl]; rfl), iteF ?_⟩
    -- ranks(made, (), two, end) != {..}
    refine ⟨.ref m, rfl, by show 0 ≤ sizeLine; decide, fun v2 hv2 => ?_⟩
    have y4 : Evl.Ex HN (upd HN v2 (.tup [])) := Evl.Ex.new hv2
    have a4 : (upd HN v2 (.tup [])) v2 = some (.tup []) := upd_same
    generalize upd HN v2 (.tup []) = HO_ at y4 a4
    have z4 := z3.trans y4
    refine ⟨.ref tw, rfl, .str e, rfl, m, v2, tw, e, [], zt, [e], ys, [], [], _, _, rfl, NF.to (yL.trans z4), ok, he, TN.o, TN.n, lot_nil a4, lotT z4, fun y _ hy => (nomatch hy), fun v3 HP y5 R2 => ?_⟩
    have z5 := z4.trans y5
    rcases R2 with ⟨_, pr, hpr⟩ | ⟨rk, gk, rfl, _, hrk, NU⟩
    · exact absurd hpr (TN.none_c ztc pr)
    obtain ⟨ga, gb, gc⟩ := TN.nums zta ztb ztc NU
    refine fun p3 hp3 => ⟨.str a, rfl, .str b, rfl, .str c, rfl, upd_same, tkv [(a, .int 2), (b, .int 1), (c, .int 0)], rfl, by show 3 ≤ 15; decide, ?_⟩
    rw [upd_upd, merge_tkv (tb := [(a, V.int 2), (b, .int 1), (c, .int 0)]) TN.nd]
    have y6 : Evl.Ex HP (upd HP p3 (.dK (tkv [(a, .int 2), (b, .int 1), (c, .int 0)]))) := Evl.Ex.new hp3
    have a6 : (upd HP p3 (.dK (tkv [(a, .int 2), (b, .int 1), (c, .int 0)]))) p3 = some (.dK (tkv [(a, .int 2), (b, .int 1), (c, .int 0)])) := upd_same
    generalize upd HP p3 (.dK (tkv [(a, .int 2), (b, .int 1), (c, .int 0)])) = HQ at y6 a6
    have z6 := z5.trans y6
    refine ⟨alike_ints (y6 _ _ hrk) a6 (by rw [d3]; rfl) TN.nd (fun z hz => ?_), _, rfl, ?_⟩
    · rcases (TN.mem z).mp hz with rfl | rfl | rfl
      · rw [ga]; simp
      · rw [gb]; simp
      · rw [gc]; simp
    refine iteF ?_
    -- reached(..) == (every, True, False)
    refine ⟨.ref m, rfl, by show 0 ≤ sizeLine; decide, fun v4 hv4 => ?_⟩
    have y7 : Evl.Ex HQ (upd HQ v4 (.tup [])) := Evl.Ex.new hv4
    have a7 : (upd HQ v4 (.tup [])) v4 = some (.tup []) := upd_same
    generalize upd HQ v4 (.tup []) = HR at y7 a7
    have z7 := z6.trans y7
    refine ⟨.ref tw, rfl, .str e, rfl, .str a, rfl, m, v4, tw, e, a, [], zt, [e], ys, [], [], _, _, rfl, NF.to (yL.trans z7), ok, he, ad, TN.o, TN.n, lot_nil a7, lotT z7, fun y _ hy => (nomatch hy), fun rp tp xs c1 c2 HS y8 RA => ?_⟩
    have z8 := z7.trans y8
    have exs : xs = ys := sorted_uniq RA.so ok.ds ((List.perm_ext_iff_of_nodup RA.nd ok.dn).mpr fun y => (RA.all y).trans (TN.reach zta ztb y))
    subst exs
    have ec1 : c1 = true := RA.c1.mpr ⟨c, cd, mem_spots.mpr (.inl ⟨by simp, (TN.lo cd).symm⟩)⟩
    have ec2 : c2 = false := by
      cases q : c2 with
      | false => rfl
      | true =>
        obtain ⟨y, hy, hn⟩ := RA.c2.mp q
        rcases mem_spots.mp hn with ⟨_, q⟩ | ⟨_, q⟩
        · have q' : V.non = look (triO a b c e) y := q
          rw [TN.lo hy] at q'
          cases q'
        · obtain ⟨l1, l2, l3⟩ := TN.lt
          have q' : V.non = look (triT a b c e) y := q
          rcases (TN.mem y).mp hy with rfl | rfl | rfl
          · rw [l1] at q'; cases q'
          · rw [l2] at q'; cases q'
          · rw [l3] at q'; cases q'
    subst ec1 ec2
    refine ⟨.ref ev, rfl, by show 3 ≤ sizeLine; decide, fun et het => ?_⟩
    have y9 : Evl.Ex HS (upd HS et (.tup [.ref ev, .bl true, .bl false])) := Evl.Ex.new het
    have a9 : (upd HS et (.tup [.ref ev, .bl true, .bl false])) et = some (.tup [.ref ev, .bl true, .bl false]) := upd_same
    generalize upd HS et (.tup [.ref ev, .bl true, .bl false]) = HT at y9 a9
    have z9 := z8.trans y9
    obtain ⟨v1', v2'⟩ := reach_lay (b1 := true) (b2 := false) ok.dm
    refine ⟨_, _, reach_data (y9 _ _ RA.hp) (y9 _ _ RA.ha), reach_data a9 ((yL.trans z9) _ _ EF), v1', v1', ?_⟩
    rw [SeqAt.eqv_refl _ v2']
    refine ⟨true, rfl, iteT ?_⟩
    refine ⟨.ref m, rfl, m, [e], xs, [], [], _, _, rfl, NF.to (yL.trans z9), ok, fun rs HU yA hrs => ?_⟩
    have er : rs = false := by
      cases q : rs with
      | false => rfl
      | true => exact absurd (hrs.mp q) TN.unsound
    subst er
    exact ⟨false, false, rfl, rfl, fin ((yL.trans z9).trans yA)⟩
end
end Rw
end T_Q7

section T_Q8
set_option Elab.async false
set_option linter.all false
set_option maxRecDepth 100000
set_option maxHeartbeats 8000000
namespace Rw
open PySem PySem.Spec L2 PyProof.Rows
/-! ### a node that changes for another goal alone, and one whose new way is lost -/
structure GolN (a b e x : Str) (dots ends : List Str) : Prop where
  ab : a ≠ b
  ae : a ≠ e
  be : b ≠ e
  ax : a ≠ x
  bx : b ≠ x
  ex : e ≠ x
  na : Nm a
  nb : Nm b
  ne : Nm e
  nx : Nm x
  hd : dots.Perm [a, b]
  ds : sortedS dots = true
  he : ends.Perm [e, x]
  es : sortedS ends = true
abbrev golO1 (a b e x : Str) : List (Str × V) := [(a, .str e), (b, .str a)]
abbrev golT1 (a b e x : Str) : List (Str × V) := [(a, .str e), (b, .non)]
abbrev golO2 (a b e x : Str) : List (Str × V) := [(a, .str b), (b, .str x)]
abbrev golT2 (a b e x : Str) : List (Str × V) := [(a, .str x), (b, .str x)]
def golO (a b e x : Str) (g : Str) : List (Str × V) := if g = e then golO1 a b e x else golO2 a b e x
def golT (a b e x : Str) (g : Str) : List (Str × V) := if g = e then golT1 a b e x else golT2 a b e x
section
variable {a b e x : Str} {dots ends : List Str}
theorem golO_e : golO a b e x e = golO1 a b e x := if_pos rfl
theorem golT_e : golT a b e x e = golT1 a b e x := if_pos rfl
theorem GolN.ox (h : GolN a b e x dots ends) : golO a b e x x = golO2 a b e x := if_neg h.ex.symm
theorem GolN.tx (h : GolN a b e x dots ends) : golT a b e x x = golT2 a b e x := if_neg h.ex.symm
theorem GolN.mem (h : GolN a b e x dots ends) (z : Str) : z ∈ dots ↔ z = a ∨ z = b := by
  rw [h.hd.mem_iff]
  simp
theorem GolN.memE (h : GolN a b e x dots ends) (z : Str) : z ∈ ends ↔ z = e ∨ z = x := by
  rw [h.he.mem_iff]
  simp
theorem GolN.nd (h : GolN a b e x dots ends) : [a, b].Nodup := by simp [h.ab]
theorem GolN.dn (h : GolN a b e x dots ends) : dots.Nodup := h.hd.nodup_iff.mpr h.nd
theorem GolN.oe (h : GolN a b e x dots ends) : e ∉ dots := fun m => by
  rcases (h.mem e).mp m with q | q
  · exact h.ae q.symm
  · exact h.be q.symm
theorem GolN.oxo (h : GolN a b e x dots ends) : x ∉ dots := fun m => by
  rcases (h.mem x).mp m with q | q
  · exact h.ax q.symm
  · exact h.bx q.symm
theorem GolN.ok (h : GolN a b e x dots ends) : ModelOk ends dots [] [] := by
  refine ⟨by rw [h.he.length_eq]; show 0 < 2; decide, by rw [h.he.length_eq]; show 2 ≤ 2; decide, h.he.nodup_iff.mpr (by simp [h.ex]), h.es, fun z hz => ?_, by rw [h.hd.length_eq]; show 0 < 2; decide, by rw [h.hd.length_eq]; show 2 ≤ 6; decide, h.dn, h.ds, fun z hz => ?_, fun z hz hm => ?_, List.nodup_nil, rfl, fun z hz => (nomatch hz), List.nodup_nil, by show 0 ≤ 2; decide, fun z hz => (nomatch hz)⟩
  · rcases (h.memE z).mp hz with rfl | rfl
    · exact h.ne
    · exact h.nx
  · rcases (h.mem z).mp hz with rfl | rfl
    · exact h.na
    · exact h.nb
  · rcases (h.memE z).mp hz with rfl | rfl
    · exact h.oe hm
    · exact h.oxo hm
theorem GolN.o1 (h : GolN a b e x dots ends) : TabOk dots e (golO1 a b e x) := by
  refine ⟨h.hd.symm, fun q hq => ?_⟩
  rcases List.mem_cons.mp hq with rfl | hq
  · exact .inr (.inl rfl)
  · rw [List.mem_singleton.mp hq]
    exact .inr (.inr ⟨a, (h.mem a).mpr (.inl rfl), h.ab, rfl⟩)
theorem GolN.t1 (h : GolN a b e x dots ends) : TabOk dots e (golT1 a b e x) := by
  refine ⟨h.hd.symm, fun q hq => ?_⟩
  rcases List.mem_cons.mp hq with rfl | hq
  · exact .inr (.inl rfl)
  · rw [List.mem_singleton.mp hq]
    exact .inl rfl
theorem GolN.o2 (h : GolN a b e x dots ends) : TabOk dots x (golO2 a b e x) := by
  refine ⟨h.hd.symm, fun q hq => ?_⟩
  rcases List.mem_cons.mp hq with rfl | hq
  · exact .inr (.inr ⟨b, (h.mem b).mpr (.inr rfl), h.ab.symm, rfl⟩)
  · rw [List.mem_singleton.mp hq]
    exact .inr (.inl rfl)
theorem GolN.t2 (h : GolN a b e x dots ends) : TabOk dots x (golT2 a b e x) := by
  refine ⟨h.hd.symm, fun q hq => ?_⟩
  rcases List.mem_cons.mp hq with rfl | hq
  · exact .inr (.inl rfl)
  · rw [List.mem_singleton.mp hq]
    exact .inr (.inl rfl)
theorem GolN.lo (h : GolN a b e x dots ends) : look (golO1 a b e x) a = .str e ∧ look (golO1 a b e x) b = .str a ∧ look (golT1 a b e x) a = .str e ∧ look (golT1 a b e x) b = .non ∧
    look (golO2 a b e x) a = .str b ∧ look (golO2 a b e x) b = .str x ∧ look (golT2 a b e x) a = .str x ∧ look (golT2 a b e x) b = .str x :=
  ⟨look_at h.nd (by simp), look_at h.nd (by simp), look_at h.nd (by simp), look_at h.nd (by simp), look_at h.nd (by simp), look_at h.nd (by simp), look_at h.nd (by simp), look_at h.nd (by simp)⟩
theorem GolN.moving (h : GolN a b e x dots ends) : moving ends dots (golO a b e x) (golT a b e x) = dots := by
  obtain ⟨l1, l2, l3, l4, l5, l6, l7, l8⟩ := h.lo
  refine List.filter_eq_self.mpr fun z hz => List.any_eq_true.mpr ?_
  rcases (h.mem z).mp hz with rfl | rfl
  · refine ⟨true, List.mem_map.mpr ⟨x, (h.memE x).mpr (.inr rfl), ?_⟩, rfl⟩
    rw [h.ox, h.tx, l5, l7, decide_eq_false (fun q => h.bx (V.str.inj q))]
    rfl
  · refine ⟨true, List.mem_map.mpr ⟨e, (h.memE e).mpr (.inl rfl), ?_⟩, rfl⟩
    rw [golO_e, golT_e, l2, l4, decide_eq_false (fun q => nomatch q)]
    rfl
abbrev golF (a b e x : Str) (zs ys : List Str) : Str → List V := spotsOf (golO1 a b e x) (golT1 a b e x) zs ys
theorem GolN.fa (h : GolN a b e x dots ends) {zs ys : List Str} : golF a b e x zs ys a = [.str e] := by
  obtain ⟨l1, l2, l3, l4, l5, l6, l7, l8⟩ := h.lo
  by_cases m : a ∈ zs
  · rw [← l3]; exact spots_done m
  · show spotsOf _ _ _ _ _ = _
    unfold spotsOf
    rw [if_neg m, l1, l3, decide_eq_true rfl, show (decide (a ∈ ys) && !true) = false by cases decide (a ∈ ys) <;> rfl]
    rfl
theorem GolN.fb (h : GolN a b e x dots ends) {zs ys : List Str} : golF a b e x zs ys b = if b ∈ zs then [.non] else if b ∈ ys then [.str a, .non] else [.str a] := by
  obtain ⟨l1, l2, l3, l4, l5, l6, l7, l8⟩ := h.lo
  by_cases m1 : b ∈ zs
  · rw [if_pos m1, ← l4]; exact spots_done m1
  · rw [if_neg m1]
    by_cases m2 : b ∈ ys
    · rw [if_pos m2]
      show spotsOf _ _ _ _ _ = _
      rw [spots_lot m1 m2 (by rw [l2, l4]; exact fun q => nomatch q), l2, l4]
    · rw [if_neg m2, ← l2]; exact spots_old m1 m2
theorem GolN.fx (h : GolN a b e x dots ends) : spotsOf (golO2 a b e x) (golT2 a b e x) [] dots a = [.str b, .str x] ∧ spotsOf (golO2 a b e x) (golT2 a b e x) [] dots b = [.str x] := by
  obtain ⟨l1, l2, l3, l4, l5, l6, l7, l8⟩ := h.lo
  constructor
  · rw [spots_lot (by simp) ((h.mem a).mpr (.inl rfl)) (by rw [l5, l7]; exact fun q => h.bx (V.str.inj q)), l5, l7]
  · unfold spotsOf
    rw [if_neg (by simp), l6, l8, decide_eq_true rfl, show (decide (b ∈ dots) && !true) = false by cases decide (b ∈ dots) <;> rfl]
    rfl
theorem GolN.walk (h : GolN a b e x dots ends) : walkOf (nowTab dots (golO1 a b e x) (golT1 a b e x) ([b] ++ [])) (dots.length + 1) b = [.str b, .non] := by
  obtain ⟨l1, l2, l3, l4, l5, l6, l7, l8⟩ := h.lo
  have vb := nowTab_get (o := golO1 a b e x) (n := golT1 a b e x) (on := [b] ++ []) h.dn ((h.mem b).mpr (.inr rfl))
  rw [if_pos (by simp), l4] at vb
  rw [h.hd.length_eq]
  show track _ 3 [] (.str b) = _
  rw [track_on vb (by simp), track_non]
  rfl
theorem GolN.reach1 (h : GolN a b e x dots ends) (y : Str) : Reach dots (golF a b e x [] [b]) b y ↔ y ∈ dots := by
  have fb := h.fb (zs := []) (ys := [b])
  rw [if_neg (by simp), if_pos (by simp)] at fb
  have ad := (h.mem a).mpr (.inl rfl)
  have bd := (h.mem b).mpr (.inr rfl)
  constructor
  · rintro ⟨r, w, rfl⟩
    exact isWay_dots w _ (last_in r b)
  · intro hy
    rcases (h.mem y).mp hy with rfl | rfl
    · exact ⟨[y], ⟨⟨by rw [fb]; simp, trivial⟩, fun z hz => by rcases List.mem_cons.mp hz with rfl | hz; exact bd; rw [List.mem_singleton.mp hz]; exact ad⟩, rfl⟩
    · exact ⟨[], isWay_one bd, rfl⟩
theorem GolN.reach2 (h : GolN a b e x dots ends) (y : Str) : Reach dots (golF a b e x [b] []) b y ↔ y ∈ [b] := by
  have fb := h.fb (zs := [b]) (ys := [])
  rw [if_pos (by simp)] at fb
  have bd := (h.mem b).mpr (.inr rfl)
  rw [List.mem_singleton]
  constructor
  · rintro ⟨r, w, rfl⟩
    match r, w with
    | [], w => rfl
    | y :: r, w =>
      have w1 : V.str y ∈ golF a b e x [b] [] b := w.1.1
      rw [fb] at w1
      exact nomatch (List.mem_singleton.mp w1)
  · rintro rfl
    exact ⟨[], isWay_one bd, rfl⟩
/-- depths by the new ways to the one goal, by the old ways to the other -/
theorem GolN.deep1 (h : GolN a b e x dots ends) : depthV (dots.length + 1) e (canon dots (golT1 a b e x)) a = .int 1 ∧ depthV (dots.length + 1) e (canon dots (golT1 a b e x)) b = .non := by
  obtain ⟨l1, l2, l3, l4, l5, l6, l7, l8⟩ := h.lo
  have ad := (h.mem a).mpr (.inl rfl)
  have bd := (h.mem b).mpr (.inr rfl)
  have va : valV (tkv (canon dots (golT1 a b e x))) (Sum.inr a) = some (.str e) := by rw [canon_get ad]; exact congrArg some l3
  have vb : valV (tkv (canon dots (golT1 a b e x))) (Sum.inr b) = some .non := by rw [canon_get bd]; exact congrArg some l4
  have ve : valV (tkv (canon dots (golT1 a b e x))) (Sum.inr e) = none := tkv_none (by rw [canon_keys]; exact h.oe)
  have w1 : walkOf (canon dots (golT1 a b e x)) (dots.length + 1) a = [.str a, .str e] := by
    rw [h.hd.length_eq]
    show track _ 3 [] (.str a) = _
    rw [track_on va (by simp), track_out ve]
    rfl
  have w2 : walkOf (canon dots (golT1 a b e x)) (dots.length + 1) b = [.str b, .non] := by
    rw [h.hd.length_eq]
    show track _ 3 [] (.str b) = _
    rw [track_on vb (by simp), track_non]
    rfl
  constructor
  · unfold depthV
    rw [w1]
    show (if some (V.str e) = some (V.str e) then _ else _) = _
    rw [if_pos rfl]
    rfl
  · unfold depthV
    rw [w2]
    show (if some V.non = some (V.str e) then _ else _) = _
    rw [if_neg (fun q => by have q' := Option.some.inj q; cases q')]
theorem GolN.deep2 (h : GolN a b e x dots ends) : depthV (dots.length + 1) x (canon dots (golO2 a b e x)) a = .int 2 ∧ depthV (dots.length + 1) x (canon dots (golO2 a b e x)) b = .int 1 := by
  obtain ⟨l1, l2, l3, l4, l5, l6, l7, l8⟩ := h.lo
  have ad := (h.mem a).mpr (.inl rfl)
  have bd := (h.mem b).mpr (.inr rfl)
  have va : valV (tkv (canon dots (golO2 a b e x))) (Sum.inr a) = some (.str b) := by rw [canon_get ad]; exact congrArg some l5
  have vb : valV (tkv (canon dots (golO2 a b e x))) (Sum.inr b) = some (.str x) := by rw [canon_get bd]; exact congrArg some l6
  have ve : valV (tkv (canon dots (golO2 a b e x))) (Sum.inr x) = none := tkv_none (by rw [canon_keys]; exact h.oxo)
  have w1 : walkOf (canon dots (golO2 a b e x)) (dots.length + 1) a = [.str a, .str b, .str x] := by
    rw [h.hd.length_eq]
    show track _ 3 [] (.str a) = _
    rw [track_on va (by simp), track_on vb (by simp [h.ab.symm]), track_out ve]
    rfl
  have w2 : walkOf (canon dots (golO2 a b e x)) (dots.length + 1) b = [.str b, .str x] := by
    rw [h.hd.length_eq]
    show track _ 3 [] (.str b) = _
    rw [track_on vb (by simp), track_out ve]
    rfl
  constructor
  · unfold depthV
    rw [w1]
    show (if some (V.str x) = some (V.str x) then _ else _) = _
    rw [if_pos rfl]
    rfl
  · unfold depthV
    rw [w2]
    show (if some (V.str x) = some (V.str x) then _ else _) = _
    rw [if_pos rfl]
    rfl
end
theorem alike_depths {H : Hp} {D B : Addr} {dots : List Str} {g : Str → V} {rb : List (Str × V)} (hD : H D = some (.dK (tkv (dots.map fun z => (z, g z))))) (hB : H B = some (.dK (tkv rb))) (hl : rb.length = dots.length) (dn : (rb.map (·.1)).Nodup) (hv : ∀ z ∈ dots, (z, g z) ∈ rb ∧ flatB (g z) = true) : AlikeN (.ref D) (.ref B) H := by
  refine .inr ⟨D, B, _, _, rfl, rfl, hD, hB, by rw [tkv_len, tkv_len, List.length_map, hl], fun p hp => ?_⟩
  obtain ⟨q, hq, rfl⟩ := List.mem_map.mp hp
  obtain ⟨z, hz, rfl⟩ := List.mem_map.mp hq
  exact ⟨tkv_val dn (hv z hz).1, (hv z hz).2⟩
end Rw
end T_Q8

section T_Q9
set_option Elab.async false
set_option linter.all false
set_option maxRecDepth 100000
set_option maxHeartbeats 8000000
namespace Rw
open PySem PySem.Spec L2 PyProof.Rows
section
variable {P : Program} {w : World} {K : PySem.W.Frag} {mg : Str → Option Value} {base : Heap}
/-- a dict of two lists, read beside a mixture -/
theorem disp_lists {HC : Hp} {D p l1 l2 : Addr} {HB : Hp} {a b : Str} {dots : List Str} {f : Str → List V} (MX : MixAt HB HC D dots f) (hp : HC p = none) {HG : Hp} (zF : Evl.Ex HC HG) (pF : HG p = some (.dK (tkv [(a, .ref l1), (b, .ref l2)]))) (q1 : HG l1 = some (.lst (f a))) (q2 : HG l2 = some (.lst (f b)))
    (hd : dots.Perm [a, b]) (dn : dots.Nodup) (sp : ∀ z ∈ dots, ∀ v ∈ f z, Spot v) : AlikeD K (.ref D) (.ref p) HG := by
  refine alike_mix (MX.r.to zF) (fun o' u q => ?_) pF hd.symm dn sp (fun q hq => ?_)
  · obtain ⟨rs, d1, _⟩ := MX.ex
    rw [zF _ _ d1] at q
    cases q
  · rcases List.mem_cons.mp hq with rfl | hq
    · exact ⟨l1, rfl, q1⟩
    · rw [List.mem_singleton.mp hq]
      exact ⟨l2, rfl, q2⟩
def spGoalsRight : Sp := fun vs H Q _ => ∃ a b e x : Str, vs = [.str a, .str b, .str e, .str x] ∧ a ≠ b ∧ a ≠ e ∧ b ≠ e ∧ a ≠ x ∧ b ≠ x ∧ e ≠ x ∧ Nm a ∧ Nm b ∧ Nm e ∧ Nm x ∧ ∀ H', Evl.Ex H H' → Q (.bl true) H'
abbrev nGo : List Str := ["a", "b", "end", "other", "rows", "made", "both"]
theorem sc_go : FnScope nGo ["a", "b", "end", "other"] (defScope s_goals_right) := ⟨rfl, rfl, rfl, by decide +kernel, rfl, by decide +kernel, by decide +kernel⟩
theorem ok_goals_right {f C fi q1 q2 : Addr} {fd fdi : FuncData} {ds : List Value} (F : Fun K "_law_goals_right" "_law_goals_right" s_goals_right f fd) (T : NetTxt K C) (M : Mk K C fi) (I_ : FnOk P w K mg base CX0 4 fi fdi ["self", "tables", "sources", "posts"] (spInit K C)) (bi : Binds K fdi ["self", "tables", "sources", "posts"] ds) (vd : Vals [V.ref q1, V.ref q2] ds) (hE1 : ∀ H, SqT K H q1 []) (hE : ∀ H, SqT K H q2 []) (mNet : mg "Net" = some (.ref C))
    (Pg : Prp P w K mg base C 2 "changing" (spChanging C)) (CW : Cal P w K mg base 6 "ways" ["net", "done", "lot", "goal"] (spMix C)) (CL : Cal P w K mg base 6 "led" ["net", "done", "changed", "goal", "node"] (spLed C)) (CR : Cal P w K mg base 7 "reached" ["net", "done", "lot", "goal", "node"] (spReached C)) (CD : Cal P w K mg base 4 "depths" ["net", "goal", "is_new"] (spDepths C))
    (mTup : mg "tuple" = none) (mSorted : mg "sorted" = none) : FnOk P w K mg base CX0 8 f fd ["a", "b", "end", "other"] spGoalsRight := by
  obtain ⟨p0, g0, fd0, at0, F0, b0⟩ := Pg.ex
  obtain ⟨fW, fdW, WY, kW, bW, gW⟩ := CW.ex
  obtain ⟨fL, fdL, LD, kL, bL, gL⟩ := CL.ex
  obtain ⟨fR, fdR, RR, kR, bR, gR⟩ := CR.ex
  obtain ⟨fD, fdD, DP, kD, bD, gD⟩ := CD.ex
  refine F.ok sc_go (fun vs H Q E h => ?_) (fun cdv A outer s H vs Q E hr h => ?_)
  · obtain ⟨a, b, e, x, rfl, _⟩ := h
    rfl
  · obtain ⟨a, b, e, x, rfl, ab, ae, be, ax, bx, exn, na, nb, ne, nx, k⟩ := h
    have nd := sc_go.nd
    have hu := hu_of hr
    have hr3 : Room 3 _ := hr.mono (by decide)
    have hr4 : Room 4 _ := hr.mono (by decide)
    have hr5 : Room 5 _ := hr.mono (by decide)
    have hr6 : Room 6 _ := hr.mono (by decide)
    have un70 := hr.un
    have hu66 : (A.deeper (envOfC "_law_goals_right" (defScope s_goals_right) s.heap.objs.size f cdv)).units + 66 < cLine := by omega
    refine ⟨_, pss_cons (ps_set (i := 4) nd rfl (.inl rfl) (pe_disp (pps_cons (pv 2) (pe_tup (pa_cons (pe_disp (pps_cons (pv 0) (pv 2) (pps_cons (pv 1) (pv 0) pps_nil)) (by rfl) (by rfl) (fun z => by cases z) (by decide)) (pa_cons (pe_disp (pps_cons (pv 0) (pv 2) (pps_cons (pv 1) pe_non pps_nil)) (by rfl) (by rfl) (fun z => by cases z) (by decide)) pa_nil)))
          (pps_cons (pv 3) (pe_tup (pa_cons (pe_disp (pps_cons (pv 0) (pv 1) (pps_cons (pv 1) (pv 3) pps_nil)) (by rfl) (by rfl) (fun z => by cases z) (by decide)) (pa_cons (pe_disp (pps_cons (pv 0) (pv 3) (pps_cons (pv 1) (pv 3) pps_nil)) (by rfl) (by rfl) (fun z => by cases z) (by decide)) pa_nil))) pps_nil)) (by rfl) (by rfl) (fun z => by cases z) (by decide)))
      (pss_cons (ps_set (i := 5) nd rfl (.inl rfl) (pe_make M I_ hr5 rfl mNet bi vd pass0 (pa_cons (pv 4) pa_nil)))
      (pss_cons (ps_set (i := 6) nd rfl (.inl rfl) (pe_callTy call_tuple_of (by rfl) mTup (by decide +kernel) (pa_cons (pe_callB cr_sortedS (by rfl) mSorted (by decide +kernel) (pa_cons (pe_lst (pa_cons (pv 0) (pa_cons (pv 1) pa_nil))) pa_nil)) pa_nil)))
      (pss_cons (ps_if (PW.pt (pw_or (pt_cmpR (op_neD hr.units) (pe_prop (pv 5) T.cl at0 F0 hr3 b0 .nil pass0 rfl) (pv 6) (nomark _))
          (pw_or1 (pt_cmpR (op_neDD hu66) (pe_call WY hr6 rfl gW kW bW .nil pass0 (pa_cons (pv 5) (pa_cons (pe_tup pa_nil) (pa_cons (pv 6) (pa_cons (pv 2) pa_nil)))))
            (pe_disp (pps_cons (pv 0) (pe_lst (pa_cons (pv 2) pa_nil)) (pps_cons (pv 1) (pe_lst (pa_cons (pv 0) (pa_cons pe_non pa_nil))) pps_nil)) (by rfl) (by rfl) (fun z => by cases z) (by decide)) (nomark _))))) (pss_one (ps_ret pe_bl)) pss_nil)
      (pss_cons (ps_if (PW.pt (pw_or (pt_cmpR (op_neDD hu66) (pe_call WY hr6 rfl gW kW bW .nil pass0 (pa_cons (pv 5) (pa_cons (pe_tup pa_nil) (pa_cons (pv 6) (pa_cons (pv 3) pa_nil)))))
            (pe_disp (pps_cons (pv 0) (pe_lst (pa_cons (pv 1) (pa_cons (pv 3) pa_nil))) (pps_cons (pv 1) (pe_lst (pa_cons (pv 3) pa_nil)) pps_nil)) (by rfl) (by rfl) (fun z => by cases z) (by decide)) (nomark _))
          (pw_or1 (pt_cmpR (op_neD hr.units) (pe_call LD hr6 rfl gL kL bL .nil pass0 (pa_cons (pv 5) (pa_cons (pe_tup (pa_cons (pv 1) pa_nil)) (pa_cons (pe_tup pa_nil) (pa_cons (pv 2) (pa_cons (pv 1) pa_nil)))))) (pe_lst (pa_cons (pv 1) (pa_cons pe_non pa_nil))) (nomark _))))) (pss_one (ps_ret pe_bl)) pss_nil)
      (pss_cons (ps_if (pt_cmpR (op_neD hr.units) (pe_call RR hr rfl gR kR bR .nil pass0 (pa_cons (pv 5) (pa_cons (pe_tup pa_nil) (pa_cons (pe_tup (pa_cons (pv 1) pa_nil)) (pa_cons (pv 2) (pa_cons (pv 1) pa_nil)))))) (pe_tup (pa_cons (pv 6) (pa_cons pe_bl (pa_cons pe_bl pa_nil)))) (nomark _)) (pss_one (ps_ret pe_bl)) pss_nil)
      (pss_cons (ps_if (pt_cmpR (op_neD hr.units) (pe_call RR hr rfl gR kR bR .nil pass0 (pa_cons (pv 5) (pa_cons (pe_tup (pa_cons (pv 1) pa_nil)) (pa_cons (pe_tup pa_nil) (pa_cons (pv 2) (pa_cons (pv 1) pa_nil)))))) (pe_tup (pa_cons (pe_tup (pa_cons (pv 1) pa_nil)) (pa_cons pe_bl (pa_cons pe_bl pa_nil)))) (nomark _)) (pss_one (ps_ret pe_bl)) pss_nil)
      (pss_one (ps_ret (pe_and (pe_cmpR (op_eqN hu66) (pe_call DP hr4 rfl gD kD bD .nil pass0 (pa_cons (pv 5) (pa_cons (pv 2) (pa_cons pe_bl pa_nil)))) (pe_disp (pps_cons (pv 0) pe_int (pps_cons (pv 1) pe_non pps_nil)) (by rfl) (by rfl) (fun z => by cases z) (by decide)) (nomark _))
        (pe_one (pe_cmpR (op_eqN hu66) (pe_call DP hr4 rfl gD kD bD .nil pass0 (pa_cons (pv 5) (pa_cons (pv 3) (pa_cons pe_bl pa_nil)))) (pe_disp (pps_cons (pv 0) pe_int (pps_cons (pv 1) pe_int pps_nil)) (by rfl) (by rfl) (fun z => by cases z) (by decide)) (nomark _)))))))))))), ?_⟩
    obtain ⟨dots, hd, hs⟩ := sort_ex [a, b]
    obtain ⟨ends, hed, hes⟩ := sort_ex [e, x]
    have GN : GolN a b e x dots ends := ⟨ab, ae, be, ax, bx, exn, na, nb, ne, nx, hd, hs, hed, hes⟩
    have ok := GN.ok
    have d6 := ok.d6
    have e2 := ok.e2
    have ad : a ∈ dots := (GN.mem a).mpr (.inl rfl)
    have bd : b ∈ dots := (GN.mem b).mpr (.inr rfl)
    have he : e ∈ ends := (GN.memE e).mpr (.inl rfl)
    have hx : x ∈ ends := (GN.memE x).mpr (.inr rfl)
    have exd : [e, x].Nodup := by simp [exn]
    -- rows
    refine fun tb htb => ⟨.str e, rfl, ?_⟩
    have x1 : Evl.Ex H (upd H tb (.dK [])) := Evl.Ex.new htb
    have b1 : (upd H tb (.dK [])) tb = some (.dK []) := upd_same
    generalize upd H tb (.dK []) = H1 at x1 b1
    refine fun po hpo => ⟨.str a, rfl, .str e, rfl, .str b, rfl, .str a, rfl, upd_same, tkv (golO1 a b e x), rfl, by show 2 ≤ 15; decide, ?_⟩
    rw [upd_upd, merge_tkv (tb := golO1 a b e x) GN.nd]
    have x2 : Evl.Ex H1 (upd H1 po (.dK (tkv (golO1 a b e x)))) := Evl.Ex.new hpo
    have o2 : (upd H1 po (.dK (tkv (golO1 a b e x)))) po = some (.dK (tkv (golO1 a b e x))) := upd_same
    have npo : po ≠ tb := (ne_of_none b1 hpo).symm
    have b2 := x2 _ _ b1
    generalize upd H1 po (.dK (tkv (golO1 a b e x))) = H2 at x2 o2 b2
    refine fun pn hpn => ⟨.str a, rfl, .str e, rfl, .str b, rfl, upd_same, tkv (golT1 a b e x), rfl, by show 2 ≤ 15; decide, ?_⟩
    rw [upd_upd, merge_tkv (tb := golT1 a b e x) GN.nd]
    have x3 : Evl.Ex H2 (upd H2 pn (.dK (tkv (golT1 a b e x)))) := Evl.Ex.new hpn
    have n3 : (upd H2 pn (.dK (tkv (golT1 a b e x)))) pn = some (.dK (tkv (golT1 a b e x))) := upd_same
    have npn : pn ≠ tb := (ne_of_none b2 hpn).symm
    have b3 := x3 _ _ b2
    generalize upd H2 pn (.dK (tkv (golT1 a b e x))) = H3 at x3 n3 b3
    refine ⟨by show 2 ≤ sizeLine; decide, fun t ht => ?_⟩
    have x4 : Evl.Ex H3 (upd H3 t (.tup [.ref po, .ref pn])) := Evl.Ex.new ht
    have t4 : (upd H3 t (.tup [.ref po, .ref pn])) t = some (.tup [.ref po, .ref pn]) := upd_same
    have nt_ : t ≠ tb := (ne_of_none b3 ht).symm
    have b4 := x4 _ _ b3
    generalize upd H3 t (.tup [.ref po, .ref pn]) = H4 at x4 t4 b4
    refine ⟨.str x, rfl, ?_⟩
    refine fun po2 hpo2 => ⟨.str a, rfl, .str b, rfl, .str b, rfl, .str x, rfl, upd_same, tkv (golO2 a b e x), rfl, by show 2 ≤ 15; decide, ?_⟩
    rw [upd_upd, merge_tkv (tb := golO2 a b e x) GN.nd]
    have x5 : Evl.Ex H4 (upd H4 po2 (.dK (tkv (golO2 a b e x)))) := Evl.Ex.new hpo2
    have o5 : (upd H4 po2 (.dK (tkv (golO2 a b e x)))) po2 = some (.dK (tkv (golO2 a b e x))) := upd_same
    have npo2 : po2 ≠ tb := (ne_of_none b4 hpo2).symm
    have b5 := x5 _ _ b4
    generalize upd H4 po2 (.dK (tkv (golO2 a b e x))) = H5 at x5 o5 b5
    refine fun pn2 hpn2 => ⟨.str a, rfl, .str x, rfl, .str b, rfl, .str x, rfl, upd_same, tkv (golT2 a b e x), rfl, by show 2 ≤ 15; decide, ?_⟩
    rw [upd_upd, merge_tkv (tb := golT2 a b e x) GN.nd]
    have x6 : Evl.Ex H5 (upd H5 pn2 (.dK (tkv (golT2 a b e x)))) := Evl.Ex.new hpn2
    have n6 : (upd H5 pn2 (.dK (tkv (golT2 a b e x)))) pn2 = some (.dK (tkv (golT2 a b e x))) := upd_same
    have npn2 : pn2 ≠ tb := (ne_of_none b5 hpn2).symm
    have b6 := x6 _ _ b5
    generalize upd H5 pn2 (.dK (tkv (golT2 a b e x))) = H6 at x6 n6 b6
    refine ⟨by show 2 ≤ sizeLine; decide, fun t2 ht2 => ?_⟩
    have x7 : Evl.Ex H6 (upd H6 t2 (.tup [.ref po2, .ref pn2])) := Evl.Ex.new ht2
    have t7 : (upd H6 t2 (.tup [.ref po2, .ref pn2])) t2 = some (.tup [.ref po2, .ref pn2]) := upd_same
    have nt2 : t2 ≠ tb := (ne_of_none b6 ht2).symm
    have b7 := x7 _ _ b6
    generalize upd H6 t2 (.tup [.ref po2, .ref pn2]) = H7 at x7 t7 b7
    refine ⟨b7, tkv [(e, .ref t), (x, .ref t2)], rfl, by show 2 ≤ 15; decide, ?_⟩
    rw [merge_tkv (tb := [(e, V.ref t), (x, .ref t2)]) exd]
    have z47 := (x5.trans x6).trans x7
    have xr : Evl.Ex H (upd H7 tb (.dK (tkv [(e, .ref t), (x, .ref t2)]))) := ((((x1.trans x2).trans x3).trans x4).trans z47).mut htb
    have br : (upd H7 tb (.dK (tkv [(e, .ref t), (x, .ref t2)]))) tb = some (.dK (tkv [(e, .ref t), (x, .ref t2)])) := upd_same
    have tr : (upd H7 tb (.dK (tkv [(e, .ref t), (x, .ref t2)]))) t = some (.tup [.ref po, .ref pn]) := by rw [upd_ne nt_]; exact z47 _ _ t4
    have or_ : (upd H7 tb (.dK (tkv [(e, .ref t), (x, .ref t2)]))) po = some (.dK (tkv (golO1 a b e x))) := by rw [upd_ne npo]; exact z47 _ _ (x4 _ _ (x3 _ _ o2))
    have nr : (upd H7 tb (.dK (tkv [(e, .ref t), (x, .ref t2)]))) pn = some (.dK (tkv (golT1 a b e x))) := by rw [upd_ne npn]; exact z47 _ _ (x4 _ _ n3)
    have tr2 : (upd H7 tb (.dK (tkv [(e, .ref t), (x, .ref t2)]))) t2 = some (.tup [.ref po2, .ref pn2]) := by rw [upd_ne nt2]; exact t7
    have or2 : (upd H7 tb (.dK (tkv [(e, .ref t), (x, .ref t2)]))) po2 = some (.dK (tkv (golO2 a b e x))) := by rw [upd_ne npo2]; exact x7 _ _ (x6 _ _ o5)
    have nr2 : (upd H7 tb (.dK (tkv [(e, .ref t), (x, .ref t2)]))) pn2 = some (.dK (tkv (golT2 a b e x))) := by rw [upd_ne npn2]; exact x7 _ _ n6
    generalize upd H7 tb (.dK (tkv [(e, .ref t), (x, .ref t2)])) = Hr at xr br tr or_ nr tr2 or2 nr2
    clear x1 x2 x3 x4 x5 x6 x7 z47
    -- made
    refine ⟨.ref tb, rfl, fun m dx hm hdx nmd => ?_⟩
    have nob : (upd Hr dx (.own m)) m = none := by rw [upd_ne nmd.symm]; exact hm
    have xb : Evl.Ex Hr (upd Hr dx (.own m)) := Evl.Ex.new hdx
    have PA : PairAt (upd Hr dx (.own m)) dots e t po pn (golO1 a b e x) (golT1 a b e x) := ⟨xb _ _ tr, xb _ _ or_, xb _ _ nr, GN.o1, GN.t1⟩
    have PB : PairAt (upd Hr dx (.own m)) dots x t2 po2 pn2 (golO2 a b e x) (golT2 a b e x) := ⟨xb _ _ tr2, xb _ _ or2, xb _ _ nr2, GN.o2, GN.t2⟩
    refine ⟨upd Hr dx (.own m), m, dx, tb, q1, q2, ends, dots, [], [], [(e, .ref t), (x, .ref t2)], golO a b e x, golT a b e x, rfl, nob, Evl.Ex.new nob, upd_same, xb _ _ br, GN.he.symm, fun q hq => ?_, fun e' he' => ?_, .inr (hE1 _), .inr (hE _), ok, fun H8 x8 N0 => ⟨rfl, ?_⟩⟩
    · rcases List.mem_cons.mp hq with rfl | hq
      · exact ⟨t, po, pn, _, _, rfl, PA⟩
      · rw [List.mem_singleton.mp hq]
        exact ⟨t2, po2, pn2, _, _, rfl, PB⟩
    · rcases (GN.memE e').mp he' with rfl | rfl
      · exact ⟨t, po, pn, tkv_val exd (by simp), by rw [golO_e, golT_e]; exact PA⟩
      · exact ⟨t2, po2, pn2, tkv_val exd (by simp), by rw [GN.ox, GN.tx]; exact PB⟩
    have N8 : NetAt C H8 m ends dots [] [] (golO a b e x) (golT a b e x) := N0 H8 (rest_ex _ _) (fun z => x8 _ _ z)
    have X8 : Evl.Ex H H8 := xr.trans (xb.trans x8)
    clear N0 PA PB x8 xb nob xr
    -- both
    refine ⟨.str a, rfl, .str b, rfl, by show 2 ≤ sizeLine; decide, fun l hl => ⟨l, [a, b], rfl, Evl.sq_of upd_same, by show 2 < 64; decide, fun ys sl2 hys hso hsl2 => ⟨sl2, _, rfl, .inl ⟨Evl.sq_of upd_same, fun bt hbt => ?_⟩⟩⟩⟩
    have ey : ys = dots := sorted_uniq hso GN.ds (hys.trans GN.hd.symm)
    subst ey
    have x9 : Evl.Ex H8 (upd (upd (upd H8 l (.lst [.str a, .str b])) sl2 (.lst (ys.map V.str))) bt (.tup (ys.map V.str))) := ((Evl.Ex.new hl).trans (Evl.Ex.new hsl2)).trans (Evl.Ex.new hbt)
    have B9 : (upd (upd (upd H8 l (.lst [.str a, .str b])) sl2 (.lst (ys.map V.str))) bt (.tup (ys.map V.str))) bt = some (.tup (ys.map V.str)) := upd_same
    generalize upd (upd (upd H8 l (.lst [.str a, .str b])) sl2 (.lst (ys.map V.str))) bt (.tup (ys.map V.str)) = H9 at x9 B9
    have N9 := N8.to x9
    have fin : ∀ {Hx : Hp}, Evl.Ex H9 Hx → Q (.bl true) Hx := fun {Hx} z => k Hx ((X8.trans x9).trans z)
    clear N8 X8 x9 k
    have mvm : ∀ {z : Str}, z ∈ ys → z ∈ moving ends ys (golO a b e x) (golT a b e x) := fun {z} h => by rw [GN.moving]; exact h
    have all_ : ∀ {Hx : Hp}, Hx bt = some (.tup (ys.map V.str)) → LotAt Hx bt ys (moving ends ys (golO a b e x) (golT a b e x)) := fun {Hx} h => ⟨h, fun z hz => mvm hz, ok.dn, ok.ds, ok.dm, by omega⟩
    obtain ⟨rd1, rd2, rd3⟩ := row_data ok.dm
    -- made.changing != both
    obtain ⟨dx', T', N', S', P', rows', h1, _⟩ := N9.ex
    refine ⟨.ref m, rfl, m, dx', _, rfl, h1, m, ends, ys, [], [], _, _, rfl, N9, by omega, by omega, ok.en, fun cp HA xA _ hcp => ?_⟩
    rw [GN.moving] at hcp
    refine ⟨.ref bt, rfl, _, _, rd1 hcp, rd1 (xA _ _ B9), rd2, rd2, _, rfl, ?_⟩
    rw [rd3]
    refine iteF ?_
    -- ways(made, (), both, end)
    refine ⟨.ref m, rfl, by show 0 ≤ sizeLine; decide, fun u0 hu0 => ?_⟩
    have xB : Evl.Ex HA (upd HA u0 (.tup [])) := Evl.Ex.new hu0
    have uB : (upd HA u0 (.tup [])) u0 = some (.tup []) := upd_same
    generalize upd HA u0 (.tup []) = HB at xB uB
    have yB := xA.trans xB
    refine ⟨.ref bt, rfl, .str e, rfl, m, u0, bt, e, [], ys, ends, ys, [], [], _, _, rfl, N9.to yB, ok, he, lot_nil uB, all_ (yB _ _ B9), fun y _ hy => (nomatch hy), fun D HC xC hD MX => ?_⟩
    rw [golO_e, golT_e] at MX
    have yC := yB.trans xC
    have fb := GN.fb (zs := []) (ys := ys)
    rw [if_neg (by simp), if_pos bd] at fb
    refine fun p hp => ⟨.str a, rfl, .str e, rfl, by show 1 ≤ sizeLine; decide, fun l1 hl1 => ⟨.str b, rfl, .str a, rfl, by show 2 ≤ sizeLine; decide, fun l2 hl2 => ?_⟩⟩
    have z1 : Evl.Ex HC (upd HC p (.dK [])) := Evl.Ex.new hp
    have pD : (upd HC p (.dK [])) p = some (.dK []) := upd_same
    generalize upd HC p (.dK []) = HD at z1 pD hl1 hl2
    have z2 : Evl.Ex HD (upd HD l1 (.lst [.str e])) := Evl.Ex.new hl1
    have w1 : (upd HD l1 (.lst [.str e])) l1 = some (.lst [.str e]) := upd_same
    have n1 : l1 ≠ p := (ne_of_none pD hl1).symm
    generalize upd HD l1 (.lst [.str e]) = HE at z2 w1 hl2
    have z3 : Evl.Ex HE (upd HE l2 (.lst [.str a, .non])) := Evl.Ex.new hl2
    have w2 : (upd HE l2 (.lst [.str a, .non])) l2 = some (.lst [.str a, .non]) := upd_same
    have n2 : l2 ≠ p := (ne_of_none (z2 _ _ pD) hl2).symm
    generalize upd HE l2 (.lst [.str a, .non]) = HF at z3 w2
    refine ⟨(z2.trans z3) _ _ pD, tkv [(a, .ref l1), (b, .ref l2)], rfl, by show 2 ≤ 15; decide, ?_⟩
    rw [merge_tkv (tb := [(a, .ref l1), (b, .ref l2)]) GN.nd]
    have zF : Evl.Ex HC (upd HF p (.dK (tkv [(a, .ref l1), (b, .ref l2)]))) := ((z1.trans z2).trans z3).mut hp
    have pF : (upd HF p (.dK (tkv [(a, .ref l1), (b, .ref l2)]))) p = some (.dK (tkv [(a, .ref l1), (b, .ref l2)])) := upd_same
    have qF1 : (upd HF p (.dK (tkv [(a, .ref l1), (b, .ref l2)]))) l1 = some (.lst [.str e]) := by rw [upd_ne n1]; exact z3 _ _ w1
    have qF2 : (upd HF p (.dK (tkv [(a, .ref l1), (b, .ref l2)]))) l2 = some (.lst [.str a, .non]) := by rw [upd_ne n2]; exact w2
    generalize upd HF p (.dK (tkv [(a, .ref l1), (b, .ref l2)])) = HG at zF pF qF1 qF2
    have W1 : Webs ys (golF a b e x [] ys) := webs_of ok he GN.o1 GN.t1
    refine ⟨disp_lists (f := golF a b e x [] ys) MX hp zF pF (by rw [GN.fa]; exact qF1) (by rw [fb]; exact qF2) GN.hd ok.dn W1.sp, _, rfl, ?_⟩
    refine iteF ?_
    have yG := yC.trans zF
    clear z1 z2 z3 zF pF qF1 qF2 w1 w2 MX pD xA xB xC yB yC hcp
    -- ways(made, (), both, other)
    refine ⟨.ref m, rfl, by show 0 ≤ sizeLine; decide, fun u1 hu1 => ?_⟩
    have xB : Evl.Ex HG (upd HG u1 (.tup [])) := Evl.Ex.new hu1
    have uB : (upd HG u1 (.tup [])) u1 = some (.tup []) := upd_same
    generalize upd HG u1 (.tup []) = HB at xB uB
    have yB := yG.trans xB
    refine ⟨.ref bt, rfl, .str x, rfl, m, u1, bt, x, [], ys, ends, ys, [], [], _, _, rfl, N9.to yB, ok, hx, lot_nil uB, all_ (yB _ _ B9), fun y _ hy => (nomatch hy), fun D2 HC xC hD2 MX => ?_⟩
    rw [GN.ox, GN.tx] at MX
    have yC := yB.trans xC
    obtain ⟨fx1, fx2⟩ := GN.fx
    refine fun p2 hp2 => ⟨.str a, rfl, .str b, rfl, .str x, rfl, by show 2 ≤ sizeLine; decide, fun l1 hl1 => ⟨.str b, rfl, .str x, rfl, by show 1 ≤ sizeLine; decide, fun l2 hl2 => ?_⟩⟩
    have z1 : Evl.Ex HC (upd HC p2 (.dK [])) := Evl.Ex.new hp2
    have pD : (upd HC p2 (.dK [])) p2 = some (.dK []) := upd_same
    generalize upd HC p2 (.dK []) = HD at z1 pD hl1 hl2
    have z2 : Evl.Ex HD (upd HD l1 (.lst [.str b, .str x])) := Evl.Ex.new hl1
    have w1 : (upd HD l1 (.lst [.str b, .str x])) l1 = some (.lst [.str b, .str x]) := upd_same
    have n1 : l1 ≠ p2 := (ne_of_none pD hl1).symm
    generalize upd HD l1 (.lst [.str b, .str x]) = HE at z2 w1 hl2
    have z3 : Evl.Ex HE (upd HE l2 (.lst [.str x])) := Evl.Ex.new hl2
    have w2 : (upd HE l2 (.lst [.str x])) l2 = some (.lst [.str x]) := upd_same
    have n2 : l2 ≠ p2 := (ne_of_none (z2 _ _ pD) hl2).symm
    generalize upd HE l2 (.lst [.str x]) = HF at z3 w2
    refine ⟨(z2.trans z3) _ _ pD, tkv [(a, .ref l1), (b, .ref l2)], rfl, by show 2 ≤ 15; decide, ?_⟩
    rw [merge_tkv (tb := [(a, .ref l1), (b, .ref l2)]) GN.nd]
    have zF : Evl.Ex HC (upd HF p2 (.dK (tkv [(a, .ref l1), (b, .ref l2)]))) := ((z1.trans z2).trans z3).mut hp2
    have pF : (upd HF p2 (.dK (tkv [(a, .ref l1), (b, .ref l2)]))) p2 = some (.dK (tkv [(a, .ref l1), (b, .ref l2)])) := upd_same
    have qF1 : (upd HF p2 (.dK (tkv [(a, .ref l1), (b, .ref l2)]))) l1 = some (.lst [.str b, .str x]) := by rw [upd_ne n1]; exact z3 _ _ w1
    have qF2 : (upd HF p2 (.dK (tkv [(a, .ref l1), (b, .ref l2)]))) l2 = some (.lst [.str x]) := by rw [upd_ne n2]; exact w2
    generalize upd HF p2 (.dK (tkv [(a, .ref l1), (b, .ref l2)])) = HH at zF pF qF1 qF2
    have W2 : Webs ys (spotsOf (golO2 a b e x) (golT2 a b e x) [] ys) := webs_of ok hx GN.o2 GN.t2
    refine ⟨disp_lists (f := spotsOf (golO2 a b e x) (golT2 a b e x) [] ys) MX hp2 zF pF (by rw [fx1]; exact qF1) (by rw [fx2]; exact qF2) GN.hd ok.dn W2.sp, _, rfl, ?_⟩
    refine iteF ?_
    have yH := yC.trans zF
    clear z1 z2 z3 zF pF qF1 qF2 w1 w2 MX pD xB xC yB yC yG
    -- led(made, (b,), (), end, b) != [b, None]
    refine ⟨.ref m, rfl, .str b, rfl, by show 1 ≤ sizeLine; decide, fun u4 hu4 => ?_⟩
    have xM : Evl.Ex HH (upd HH u4 (.tup [.str b])) := Evl.Ex.new hu4
    have uM : (upd HH u4 (.tup [.str b])) u4 = some (.tup [.str b]) := upd_same
    generalize upd HH u4 (.tup [.str b]) = HM at xM uM
    refine ⟨by show 0 ≤ sizeLine; decide, fun u5 hu5 => ?_⟩
    have xN : Evl.Ex HM (upd HM u5 (.tup [])) := Evl.Ex.new hu5
    have uN : (upd HM u5 (.tup [])) u5 = some (.tup []) := upd_same
    generalize upd HM u5 (.tup []) = HN at xN uN
    have yN := (yH.trans xM).trans xN
    refine ⟨.str e, rfl, .str b, rfl, m, u4, u5, e, b, [b], [], ends, ys, [], [], _, _, rfl, N9.to yN, ok, he, bd, lot_one (xN _ _ uM) (mvm bd) nb, lot_nil uN, fun y hy _ => (nomatch hy), fun wk HR xR _ hwk => ?_⟩
    rw [golO_e, golT_e, GN.walk] at hwk
    have yR := yN.trans xR
    refine ⟨.str b, rfl, by show 2 ≤ sizeLine; decide, fun l3 hl3 => ?_⟩
    have xS : Evl.Ex HR (upd HR l3 (.lst [.str b, .non])) := Evl.Ex.new hl3
    have uS : (upd HR l3 (.lst [.str b, .non])) l3 = some (.lst [.str b, .non]) := upd_same
    generalize upd HR l3 (.lst [.str b, .non]) = HS at xS uS
    have yS := yR.trans xS
    have spl : ∀ v ∈ [V.str b, .non], Spot v := fun v hv => by
      rcases List.mem_cons.mp hv with rfl | hv
      · exact .inr ⟨b, rfl, nb⟩
      · rw [List.mem_singleton.mp hv]; exact .inl rfl
    obtain ⟨sd1, sd2⟩ := spots_dataL spl
    refine ⟨.list ([V.str b, .non].map spotD), .list ([V.str b, .non].map spotD), .lst (Evl.sq_of (xS _ _ hwk)) (dp_spots spl), .lst (Evl.sq_of uS) (dp_spots spl), sd2, sd2, _, rfl, ?_⟩
    rw [SeqAt.eqv_refl _ sd1]
    refine iteF ?_
    clear xM xN xR xS yN yR yH
    -- reached(made, (), (b,), end, b) != (both, True, True)
    refine ⟨.ref m, rfl, by show 0 ≤ sizeLine; decide, fun v4 hv4 => ?_⟩
    have xM : Evl.Ex HS (upd HS v4 (.tup [])) := Evl.Ex.new hv4
    have uM : (upd HS v4 (.tup [])) v4 = some (.tup []) := upd_same
    generalize upd HS v4 (.tup []) = HM at xM uM
    refine ⟨.str b, rfl, by show 1 ≤ sizeLine; decide, fun v5 hv5 => ?_⟩
    have xN : Evl.Ex HM (upd HM v5 (.tup [.str b])) := Evl.Ex.new hv5
    have uN : (upd HM v5 (.tup [.str b])) v5 = some (.tup [.str b]) := upd_same
    generalize upd HM v5 (.tup [.str b]) = HN at xN uN
    have yN := (yS.trans xM).trans xN
    have fb1 := GN.fb (zs := []) (ys := [b])
    rw [if_neg (by simp), if_pos (by simp)] at fb1
    have fb2 := GN.fb (zs := [b]) (ys := [])
    rw [if_pos (by simp)] at fb2
    refine ⟨.str e, rfl, .str b, rfl, m, v4, v5, e, b, [], [b], ends, ys, [], [], _, _, rfl, N9.to yN, ok, he, bd, by rw [golO_e]; exact GN.o1, by rw [golT_e]; exact GN.t1, lot_nil (xN _ _ uM), lot_one uN (mvm bd) nb, fun y _ hy => (nomatch hy), fun rp tp xs c1 c2 HP xP RA => ?_⟩
    rw [golO_e, golT_e] at RA
    have exs : xs = ys := sorted_uniq RA.so ok.ds ((List.perm_ext_iff_of_nodup RA.nd ok.dn).mpr fun y => (RA.all y).trans (GN.reach1 y))
    subst exs
    have ec1 : c1 = true := RA.c1.mpr ⟨a, ad, by show V.str e ∈ golF a b e x [] [b] a; rw [GN.fa]; simp⟩
    have ec2 : c2 = true := RA.c2.mpr ⟨b, bd, by show V.non ∈ golF a b e x [] [b] b; rw [fb1]; simp⟩
    subst ec1 ec2
    have yP := yN.trans xP
    refine ⟨.ref bt, rfl, by show 3 ≤ sizeLine; decide, fun et het => ?_⟩
    have xQ : Evl.Ex HP (upd HP et (.tup [.ref bt, .bl true, .bl true])) := Evl.Ex.new het
    have uQ : (upd HP et (.tup [.ref bt, .bl true, .bl true])) et = some (.tup [.ref bt, .bl true, .bl true]) := upd_same
    generalize upd HP et (.tup [.ref bt, .bl true, .bl true]) = HQ at xQ uQ
    have yQ := yP.trans xQ
    obtain ⟨rl1, rl2⟩ := reach_lay (b1 := true) (b2 := true) ok.dm
    refine ⟨_, _, reach_data (xQ _ _ RA.hp) (xQ _ _ RA.ha), reach_data uQ (yQ _ _ B9), rl1, rl1, _, rfl, ?_⟩
    rw [SeqAt.eqv_refl _ rl2]
    refine iteF ?_
    clear xM xN xP xQ yN yP yS RA
    -- reached(made, (b,), (), end, b) != ((b,), False, True)
    refine ⟨.ref m, rfl, .str b, rfl, by show 1 ≤ sizeLine; decide, fun v6 hv6 => ?_⟩
    have xM : Evl.Ex HQ (upd HQ v6 (.tup [.str b])) := Evl.Ex.new hv6
    have uM : (upd HQ v6 (.tup [.str b])) v6 = some (.tup [.str b]) := upd_same
    generalize upd HQ v6 (.tup [.str b]) = HM at xM uM
    refine ⟨by show 0 ≤ sizeLine; decide, fun v7 hv7 => ?_⟩
    have xN : Evl.Ex HM (upd HM v7 (.tup [])) := Evl.Ex.new hv7
    have uN : (upd HM v7 (.tup [])) v7 = some (.tup []) := upd_same
    generalize upd HM v7 (.tup []) = HN at xN uN
    have yN := (yQ.trans xM).trans xN
    refine ⟨.str e, rfl, .str b, rfl, m, v6, v7, e, b, [b], [], ends, xs, [], [], _, _, rfl, N9.to yN, ok, he, bd, by rw [golO_e]; exact GN.o1, by rw [golT_e]; exact GN.t1, lot_one (xN _ _ uM) (mvm bd) nb, lot_nil uN, fun y hy _ => (nomatch hy), fun rp2 tp2 xs2 c3 c4 HP xP RB => ?_⟩
    rw [golO_e, golT_e] at RB
    have exs2 : xs2 = [b] := sorted_uniq RB.so rfl ((List.perm_ext_iff_of_nodup RB.nd (List.nodup_cons.mpr ⟨by simp, List.nodup_nil⟩)).mpr fun y => (RB.all y).trans (GN.reach2 y))
    subst exs2
    have ec3 : c3 = false := by
      cases q : c3 with
      | false => rfl
      | true =>
        obtain ⟨y, hy, hn⟩ := RB.c1.mp q
        rw [List.mem_singleton.mp hy] at hn
        have hn' : V.str e ∈ golF a b e x [b] [] b := hn
        rw [fb2] at hn'
        exact nomatch (List.mem_singleton.mp hn')
    have ec4 : c4 = true := RB.c2.mpr ⟨b, by simp, by show V.non ∈ golF a b e x [b] [] b; rw [fb2]; simp⟩
    subst ec3 ec4
    have yP := yN.trans xP
    refine ⟨.str b, rfl, by show 1 ≤ sizeLine; decide, fun ob hob => ?_⟩
    have xT : Evl.Ex HP (upd HP ob (.tup [.str b])) := Evl.Ex.new hob
    have uT : (upd HP ob (.tup [.str b])) ob = some (.tup ([b].map V.str)) := upd_same
    generalize upd HP ob (.tup [.str b]) = HT at xT uT
    refine ⟨by show 3 ≤ sizeLine; decide, fun et2 het2 => ?_⟩
    have xU : Evl.Ex HT (upd HT et2 (.tup [.ref ob, .bl false, .bl true])) := Evl.Ex.new het2
    have uU : (upd HT et2 (.tup [.ref ob, .bl false, .bl true])) et2 = some (.tup [.ref ob, .bl false, .bl true]) := upd_same
    generalize upd HT et2 (.tup [.ref ob, .bl false, .bl true]) = HU at xU uU
    have xTU := xT.trans xU
    have yU := yP.trans xTU
    obtain ⟨rm1, rm2⟩ := reach_lay (xs := [b]) (b1 := false) (b2 := true) (fun z hz => by rw [List.mem_singleton.mp hz]; exact nb)
    refine ⟨_, _, reach_data (xTU _ _ RB.hp) (xTU _ _ RB.ha), reach_data uU (xU _ _ uT), rm1, rm1, _, rfl, ?_⟩
    rw [SeqAt.eqv_refl _ rm2]
    refine iteF ?_
    clear xM xN xP xT xU xTU yN yP yQ RB
    -- depths(made, end, True) == {a: 1, b: None}
    obtain ⟨dp1, dp2⟩ := GN.deep1
    obtain ⟨dp3, dp4⟩ := GN.deep2
    refine ⟨.ref m, rfl, .str e, rfl, m, e, true, ends, xs, [], [], _, _, rfl, N9.to yU, ok, he, fun D3 HV xV _ hD3 => ?_⟩
    rw [if_pos rfl, golT_e] at hD3
    refine fun p3 hp3 => ⟨.str a, rfl, .str b, rfl, upd_same, tkv [(a, .int 1), (b, .non)], rfl, by show 2 ≤ 15; decide, ?_⟩
    rw [upd_upd, merge_tkv (tb := [(a, V.int 1), (b, .non)]) GN.nd]
    have xW : Evl.Ex HV (upd HV p3 (.dK (tkv [(a, .int 1), (b, .non)]))) := Evl.Ex.new hp3
    have uW : (upd HV p3 (.dK (tkv [(a, .int 1), (b, .non)]))) p3 = some (.dK (tkv [(a, .int 1), (b, .non)])) := upd_same
    generalize upd HV p3 (.dK (tkv [(a, .int 1), (b, .non)])) = HW at xW uW
    have yW := (yU.trans xV).trans xW
    refine ⟨alike_depths (xW _ _ hD3) uW (by rw [GN.hd.length_eq]; rfl) GN.nd (fun z hz => ?_), ?_⟩
    · rcases (GN.mem z).mp hz with rfl | rfl
      · rw [dp1]; exact ⟨by simp, rfl⟩
      · rw [dp2]; exact ⟨by simp, rfl⟩
    refine ⟨true, rfl, iteT ?_⟩
    -- depths(made, other, False) == {a: 2, b: 1}
    refine ⟨.ref m, rfl, .str x, rfl, m, x, false, ends, xs, [], [], _, _, rfl, N9.to yW, ok, hx, fun D4 HX xX _ hD4 => ?_⟩
    rw [if_neg (by decide), GN.ox] at hD4
    refine fun p4 hp4 => ⟨.str a, rfl, .str b, rfl, upd_same, tkv [(a, .int 2), (b, .int 1)], rfl, by show 2 ≤ 15; decide, ?_⟩
    rw [upd_upd, merge_tkv (tb := [(a, V.int 2), (b, .int 1)]) GN.nd]
    have xY : Evl.Ex HX (upd HX p4 (.dK (tkv [(a, .int 2), (b, .int 1)]))) := Evl.Ex.new hp4
    have uY : (upd HX p4 (.dK (tkv [(a, .int 2), (b, .int 1)]))) p4 = some (.dK (tkv [(a, .int 2), (b, .int 1)])) := upd_same
    generalize upd HX p4 (.dK (tkv [(a, .int 2), (b, .int 1)])) = HY at xY uY
    refine ⟨alike_depths (xY _ _ hD4) uY (by rw [GN.hd.length_eq]; rfl) GN.nd (fun z hz => ?_), fin ((yW.trans xX).trans xY)⟩
    rcases (GN.mem z).mp hz with rfl | rfl
    · rw [dp3]; exact ⟨by simp, rfl⟩
    · rw [dp4]; exact ⟨by simp, rfl⟩
end
end Rw
end T_Q9

section T_D1
set_option Elab.async false
set_option linter.all false
set_option maxRecDepth 100000
set_option maxHeartbeats 4000000
namespace Rw
open PySem L2 PyProof.Rows
section
variable {P : Program} {w : World} {K : PySem.W.Frag} {mg : Str → Option Value} {base : Heap}
theorem sc_blend : FnScope ["draw", "turn", "found", "prime", "blend", "cell"] ["draw"] (defScope s_blend) := ⟨rfl, rfl, rfl, by decide +kernel, rfl, by decide +kernel, by decide +kernel⟩
theorem ok_blend {f : Addr} {fd : FuncData} (F : Fun K "_law_blend" "_law_blend" s_blend f fd) (mInt : mg "int" = none) : FnOk P w K mg base CX0 1 f fd ["draw"] spBlend := by
  refine F.ok sc_blend (fun vs H Q E h => ?_) (fun cdv A outer s H vs Q E hr h => ?_)
  · obtain ⟨d, g, c, rfl, _⟩ := h
    rfl
  · obtain ⟨d, g, c, rfl, D, k⟩ := h
    have hu := hu_of hr
    have nd := sc_blend.nd
    refine ⟨_, pss_cons (ps_set (i := 1) nd rfl (.inl rfl) (pe_op op_add (pe_dget hu (pv 0) pe_str (fun _ _ => rfl)) pe_int))
      (pss_cons (ps_dput hu (pv 0) pe_str (pv 1) rfl)
      (pss_cons (ps_set (i := 2) nd rfl (.inl rfl) pe_int)
      (pss_cons (ps_for PassesOwn.never rfl (pi_list (pe_lst (pa_cons pe_int (pa_cons pe_int (pa_cons pe_int (pa_cons pe_int pa_nil)))))) (pg_name (i := 3) nd rfl (.inl rfl))
        (pss_cons (ps_set (i := 4) nd rfl (.inl rfl) (pe_op op_mod (pe_callTy call_int1 (by rfl) mInt boot_int (pa_cons (pe_op op_add (pe_op op_mul (pv 1) pe_int) (pe_op op_fdiv (pv 3) pe_int)) pa_nil)) (pv 3)))
        (pss_cons (ps_for PassesOwn.never rfl (pi_list (pe_dget hu (pv 0) pe_str (fun _ _ => rfl))) (pg_name (i := 5) nd rfl (.inl rfl))
          (pss_one (ps_set (i := 4) nd rfl (.inl rfl) (pe_op op_mod (pe_callTy call_int1 (by rfl) mInt boot_int (pa_cons (pe_op op_add (pe_op op_mul (pv 4) pe_int) (pv 5)) pa_nil)) (pv 3)))))
        (pss_one (ps_set (i := 2) nd rfl (.inl rfl) (pe_op op_add (pe_op op_mul (pv 2) pe_int) (pe_op op_mod (pe_callTy call_int1 (by rfl) mInt boot_int (pa_cons (pe_op op_pow (pv 4) pe_int) pa_nil)) (pv 3))))))))
      (pss_one (ps_ret (pv 2)))))), ?_⟩
    obtain ⟨⟨r, t, hd⟩, ⟨gs, hg⟩, ⟨cs, hc⟩, ncg⟩ := id D
    have ndg : d ≠ g := ne_of hd hg (by intro z; cases z)
    have ndc : d ≠ c := ne_of hd hc (by intro z; cases z)
    -- turn = draw['turn'] + 1
    refine ⟨.ref d, rfl, d, _, rfl, by have := DGet.k (k := Sum.inr "turn") hd; rw [dkv_turn] at this; exact this, t, 1, rfl, rfl, ?_⟩
    -- draw['turn'] = turn
    refine ⟨_, rfl, _, rfl, d, _, rfl, DPut.k (k := Sum.inr "turn") hd (by show 4 < sizeLine; decide), ?_⟩
    rw [dkv_put_turn]
    have hc1 : SqL K (upd H d (.dK (dkv g c r (t + 1)))) c (cs.map V.int) := .inl (.inl (by rw [upd_ne ndc.symm]; exact hc))
    have hd1 : (upd H d (.dK (dkv g c r (t + 1)))) d = some (.dK (dkv g c r (t + 1))) := upd_same
    generalize hH1 : upd H d (.dK (dkv g c r (t + 1))) = H1 at hc1 hd1 ⊢
    have kp : ∀ a o, H a = some o → a ≠ d → H1 a = some o := fun a o e ne => by rw [← hH1, upd_ne ne]; exact e
    -- found = 0; the primes
    refine ⟨by show 4 ≤ sizeLine; decide, fun p hp => ?_⟩
    have npd : d ≠ p := ne_of_none hd1 hp
    have hp2 : (upd H1 p (.lst ([2147483629, 2147483587, 2147483579, 2147483563].map V.int))) p = some (.lst ([2147483629, 2147483587, 2147483579, 2147483563].map V.int)) := upd_same
    have hd2 : (upd H1 p (.lst ([2147483629, 2147483587, 2147483579, 2147483563].map V.int))) d = some (.dK (dkv g c r (t + 1))) := by rw [upd_ne npd]; exact hd1
    have s12 : Same H1 (upd H1 p (.lst ([2147483629, 2147483587, 2147483579, 2147483563].map V.int))) := fun b o e => by rw [upd_ne (ne_of_none e hp)]; exact e
    refine ⟨p, rfl, ⟨_, .inl (.inl hp2)⟩, for_list (K := K) (a := p) (xs := [2147483629, 2147483587, 2147483579, 2147483563].map V.int)
      (fun i σ H2 => H2 = upd H1 p (.lst ([2147483629, 2147483587, 2147483579, 2147483563].map V.int)) ∧ ∃ (fo : Int) (x3 x4 x5 : Option V), σ = [some (.ref d), some (.int (t + 1)), some (.int fo), x3, x4, x5])
      ⟨rfl, 0, none, none, none, rfl⟩ (fun i σ H2 _ h => h.1 ▸ .inl (.inl hp2)) ?_ ?_⟩
    · rintro i x σ H2 hi ⟨rfl, fo, x3, x4, x5, rfl⟩
      obtain ⟨q, rfl, hq0, hq1⟩ : ∃ q : Int, x = .int q ∧ 0 < q ∧ q < 2147483648 := by
        match i, hi with
        | 0, hi => exact ⟨_, (Option.some.inj hi).symm, by decide, by decide⟩
        | 1, hi => exact ⟨_, (Option.some.inj hi).symm, by decide, by decide⟩
        | 2, hi => exact ⟨_, (Option.some.inj hi).symm, by decide, by decide⟩
        | 3, hi => exact ⟨_, (Option.some.inj hi).symm, by decide, by decide⟩
        | n + 4, hi => exact absurd hi (by simp)
      refine ⟨_, rfl, t + 1, 69621, rfl, rfl, .inr ⟨by decide, by decide⟩, _, rfl, q, 7, rfl, rfl, ⟨by decide, by decide⟩, _, _, rfl, rfl, .inl ⟨_, rfl, ?_⟩⟩
      refine ⟨_, rfl, _, q, rfl, rfl, hq0, ?_⟩
      -- the cells
      refine ⟨.ref d, rfl, d, _, rfl, by have := DGet.k (k := Sum.inr "cells") hd2; rw [dkv_cells] at this; exact this, c, rfl, ⟨_, s12.seq hc1⟩, for_list (K := K) (a := c) (xs := cs.map V.int)
        (fun j σ H3 => H3 = upd H1 p (.lst ([2147483629, 2147483587, 2147483579, 2147483563].map V.int)) ∧ ∃ (bl : Int) (x5 : Option V), 0 ≤ bl ∧ bl < q ∧ σ = [some (.ref d), some (.int (t + 1)), some (.int fo), some (.int q), some (.int bl), x5])
        ⟨rfl, _, x5, Int.emod_nonneg _ (by omega), Int.emod_lt_of_pos _ hq0, rfl⟩ (fun j σ H3 _ h => h.1 ▸ s12.seq hc1) ?_ ?_⟩
      · rintro j y σ H3 hj ⟨rfl, bl, x5', hb0, hb1, rfl⟩
        obtain ⟨z, rfl⟩ : ∃ z, y = V.int z := by
          rw [List.getElem?_map] at hj
          cases e : cs[j]? with
          | none => rw [e] at hj; cases hj
          | some z => rw [e] at hj; exact ⟨z, (Option.some.inj hj).symm⟩
        refine ⟨_, rfl, bl, 48271, rfl, rfl, .inr ⟨by decide, by decide⟩, _, rfl, _, z, rfl, rfl, .inl ⟨_, rfl, ?_⟩⟩
        refine ⟨_, rfl, _, q, rfl, rfl, hq0, ?_⟩
        exact ⟨rfl, _, _, Int.emod_nonneg _ (by omega), Int.emod_lt_of_pos _ hq0, rfl⟩
      · rintro σ H3 ⟨rfl, bl, x5', hb0, hb1, rfl⟩
        refine ⟨_, rfl, fo, 2147483647, rfl, rfl, .inr ⟨by decide, by decide⟩, _, rfl, bl, 5, rfl, rfl, ⟨by decide, by decide, by omega⟩, .inl ⟨_, rfl, ?_⟩⟩
        refine ⟨_, rfl, _, q, rfl, rfl, hq0, _, _, rfl, rfl, ?_⟩
        exact ⟨rfl, _, _, _, _, rfl⟩
    · rintro σ H2 ⟨rfl, fo, x3, x4, x5, rfl⟩
      refine ⟨_, rfl, k fo _ ⟨⟨r, t + 1, hd2⟩, ⟨gs, s12 _ _ (kp _ _ hg ndg.symm)⟩, ⟨cs, s12 _ _ (kp _ _ hc ndc.symm)⟩, ncg⟩ (fun a o e n1 _ => s12 _ _ (kp a o e n1))⟩
theorem sc_take : FnScope ["draw", "size", "found"] ["draw", "size"] (defScope s_take) := ⟨rfl, rfl, rfl, by decide +kernel, rfl, by decide +kernel, by decide +kernel⟩
theorem ok_take {f fB : Addr} {fd fdB : FuncData} (F : Fun K "_law_take" "_law_take" s_take f fd) (FB : Fun K "_law_blend" "_law_blend" s_blend fB fdB) (bB : Binds K fdB ["draw"] []) (gB : mg "_law_blend" = some (.ref fB)) (mInt : mg "int" = none) :
    FnOk P w K mg base CX0 2 f fd ["draw", "size"] spTake := by
  have GB : FnOk P w K mg base CX0 1 fB fdB ["draw"] spBlend := ok_blend FB mInt
  refine F.ok sc_take (fun vs H Q E h => ?_) (fun cdv A outer s H vs Q E hr h => ?_)
  · obtain ⟨d, g, c, n, rfl, _⟩ := h
    rfl
  · obtain ⟨d, g, c, n, rfl, hn0, hn1, D, k⟩ := h
    have hu := hu_of hr
    have nd := sc_take.nd
    refine ⟨_, C8.pss_cut (ps_if (PW.pt (pw_and (pt_cmpR op_eq (pe_dget hu (pv 0) pe_str (fun _ _ => rfl)) pe_int (nomark _)) (pw_and1 (pt_cmpR (op_neD hr.units) (pe_dget hu (pv 0) pe_str (fun _ _ => rfl)) (pe_lst pa_nil) (nomark _)))))
        (pss_one (ps_dput hu (pv 0) pe_str (pe_bm PySem.F.plainAttrs_list PySem.F.slot_list_pop PySem.F.type_list_pop mt_popAt (pe_dget hu (pv 0) pe_str (fun _ _ => rfl)) (pa_cons pe_int pa_nil)) rfl)) pss_nil)
      (C8.pss_cut (ps_if (pt_cmpR op_eq (pe_dget hu (pv 0) pe_str (fun _ _ => rfl)) pe_int (nomark _))
        (pss_one (ps_dput hu (pv 0) pe_str (pe_call GB hr rfl gB FB.kp bB .nil pass0 (pa_cons (pv 0) pa_nil)) rfl)) pss_nil)
      (pss_cons (ps_set (i := 2) nd rfl (.inl rfl) (pe_op op_mod (pe_callTy call_int1 (by rfl) mInt boot_int (pa_cons (pe_dget hu (pv 0) pe_str (fun _ _ => rfl)) pa_nil)) (pv 1)))
      (pss_cons (ps_dput hu (pv 0) pe_str (pe_op op_fdiv (pe_dget hu (pv 0) pe_str (fun _ _ => rfl)) (pv 1)) rfl)
      (pss_one (ps_ret (pv 2)))))), ?_⟩
    have gr : ∀ {H1 : Hp} {r t : Int}, H1 d = some (.dK (dkv g c r t)) → DGet H1 d (.str "rest") (some (.int r)) := fun {H1 r t} e => by
      have := DGet.k (k := Sum.inr "rest") e
      rw [dkv_rest] at this
      exact this
    have gg : ∀ {H1 : Hp} {r t : Int}, H1 d = some (.dK (dkv g c r t)) → DGet H1 d (.str "great") (some (.ref g)) := fun {H1 r t} e => by
      have := DGet.k (k := Sum.inr "great") e
      rw [dkv_great] at this
      exact this
    have pr : ∀ {H1 : Hp} {r t : Int} (x : Int), H1 d = some (.dK (dkv g c r t)) → DPut H1 d (.str "rest") (.int x) (upd H1 d (.dK (dkv g c x t))) := fun {H1 r t} x e => by
      have := DPut.k (k := Sum.inr "rest") (v := .int x) e (by show 4 < sizeLine; decide)
      rw [dkv_put_rest] at this
      exact this
    -- what is stored at d leaves the draws
    have st : ∀ {H1 : Hp} {r t : Int}, DrawAt H1 d g c → SameD d g H H1 → DrawAt (upd H1 d (.dK (dkv g c r t))) d g c ∧ SameD d g H (upd H1 d (.dK (dkv g c r t))) := fun {H1 r t} D1 S1 => by
      obtain ⟨⟨r', t', hd'⟩, ⟨gs', hg'⟩, ⟨cs', hc'⟩, ncg'⟩ := D1
      exact ⟨⟨⟨r, t, upd_same⟩, ⟨gs', by rw [upd_ne (ne_of hd' hg' (by intro z; cases z)).symm]; exact hg'⟩, ⟨cs', by rw [upd_ne (ne_of hd' hc' (by intro z; cases z)).symm]; exact hc'⟩, ncg'⟩, fun a o e n1 n2 => by rw [upd_ne n1]; exact S1 a o e n1 n2⟩
    have s0 : SameD d g H H := fun a o e _ _ => e
    obtain ⟨⟨r, t, hd⟩, ⟨gs, hg⟩, ⟨cs, hc⟩, ncg⟩ := id D
    have ndg : d ≠ g := ne_of hd hg (by intro z; cases z)
    -- if draw['rest'] == 0 and draw['great'] != []
    refine ⟨fun σ' H' => σ' = [some (.ref d), some (.int n), none] ∧ DrawAt H' d g c ∧ SameD d g H H', ?_, ?_⟩
    · refine ⟨.ref d, rfl, d, _, rfl, gr hd, rfl, _, rfl, ite2 (fun _ => ?_) (fun _ => ?_)⟩
      · refine ⟨.ref d, rfl, d, _, rfl, gg hd, Nat.zero_le _, fun p hp => ?_⟩
        have npg : g ≠ p := ne_of_none hg hp
        have npd : d ≠ p := ne_of_none hd hp
        have hg1 : (upd H p (.lst [])) g = some (.lst (gs.map V.int)) := by rw [upd_ne npg]; exact hg
        have hd1 : (upd H p (.lst [])) d = some (.dK (dkv g c r t)) := by rw [upd_ne npd]; exact hd
        have hc1 : (upd H p (.lst [])) c = some (.lst (cs.map V.int)) := by rw [upd_ne (ne_of_none hc hp)]; exact hc
        have S1 : SameD d g H (upd H p (.lst [])) := fun a o e _ _ => by rw [upd_ne (ne_of_none e hp)]; exact e
        have D1 : DrawAt (upd H p (.lst [])) d g c := ⟨⟨r, t, hd1⟩, ⟨gs, hg1⟩, ⟨cs, hc1⟩, ncg⟩
        refine ⟨_, _, .lst (.inl (.inl hg1)) (dp_ints gs), .lst (.inl (.inl upd_same)) .nil, shaped_ints gs, shaped_ints [], _, rfl, ?_⟩
        rw [eqv_nil]
        cases gs with
        | nil => exact ⟨rfl, D1, S1⟩
        | cons x gs =>
          refine iteT ?_
          generalize upd H p (.lst []) = H1 at hg1 hd1 hc1 S1 D1
          refine ⟨.ref d, rfl, d, _, rfl, gg hd1, .inl ⟨rfl, _, .inl (.inl hg1)⟩, g, _, 0, 0, .int x, rfl, rfl, hg1, by decide, by decide, ?_, rfl, .ref d, rfl, d, _, rfl, pr x (r := r) (t := t) (by rw [upd_ne ndg]; exact hd1), ?_⟩
          · simp [seqIndex?]
          · have D2 : DrawAt (upd H1 g (.lst (((x :: gs).map V.int).eraseIdx 0))) d g c := ⟨⟨r, t, by rw [upd_ne ndg]; exact hd1⟩, ⟨gs, upd_same⟩, ⟨cs, by
              rw [upd_ne (show c ≠ g from fun z => ncg z)]
              exact hc1⟩, ncg⟩
            have S2 : SameD d g H (upd H1 g (.lst (((x :: gs).map V.int).eraseIdx 0))) := fun a o e n1 n2 => by rw [upd_ne n2]; exact S1 a o e n1 n2
            have z := st (r := x) (t := t) D2 S2
            exact ⟨rfl, z.1, z.2⟩
      · exact ⟨rfl, D, s0⟩
    · rintro σ' H' ⟨rfl, D1, S1⟩
      obtain ⟨⟨r1, t1, hd1⟩, _, _⟩ := id D1
      -- if draw['rest'] == 0
      refine ⟨fun σ' H' => σ' = [some (.ref d), some (.int n), none] ∧ DrawAt H' d g c ∧ SameD d g H H', ?_, ?_⟩
      · refine ⟨.ref d, rfl, d, _, rfl, gr hd1, rfl, _, rfl, ite2 (fun _ => ?_) (fun _ => ⟨rfl, D1, S1⟩)⟩
        refine ⟨.ref d, rfl, d, g, c, rfl, D1, fun x H2 D2 S2 => ?_⟩
        obtain ⟨⟨r2, t2, hd2⟩, _, _⟩ := id D2
        have S3 : SameD d g H H2 := fun a o e n1 n2 => S2 a o (S1 a o e n1 n2) n1 n2
        have z := st (r := x) (t := t2) D2 S3
        exact ⟨.ref d, rfl, d, _, rfl, pr x hd2, rfl, z.1, z.2⟩
      · rintro σ' H2 ⟨rfl, D2, S2⟩
        obtain ⟨⟨r2, t2, hd2⟩, _, _⟩ := id D2
        refine ⟨.ref d, rfl, d, _, rfl, gr hd2, .inl ⟨r2, rfl, _, rfl, r2, n, rfl, rfl, hn0, ?_⟩⟩
        refine ⟨.ref d, rfl, d, _, rfl, gr hd2, _, rfl, r2, n, rfl, rfl, ⟨hn0, hn1⟩, .ref d, rfl, d, _, rfl, pr _ hd2, _, rfl, ?_⟩
        have z := st (r := r2 / n) (t := t2) D2 S2
        exact k _ _ (Int.emod_nonneg _ (by omega)) (Int.emod_lt_of_pos _ hn0) z.1 (off_same z.2)
theorem sc_pick : FnScope ["draw", "some"] ["draw", "some"] (defScope s_pick) := ⟨rfl, rfl, rfl, by decide +kernel, rfl, by decide +kernel, by decide +kernel⟩
theorem ok_pickL {f fT : Addr} {fd fdT : FuncData} (F : Fun K "_law_pick" "_law_pick" s_pick f fd) (T : FnOk P w K mg base CX0 2 fT fdT ["draw", "size"] spTake) (kT : PySem.W.keepIn K (.ref fT) = true) (bT : Binds K fdT ["draw", "size"] []) (gT : mg "_law_take" = some (.ref fT)) (mLen : mg "len" = none) :
    FnOk P w K mg base CX0 3 f fd ["draw", "some"] (spPickL K) := by
  refine F.ok sc_pick (fun vs H Q E h => ?_) (fun cdv A outer s H vs Q E hr h => ?_)
  · obtain ⟨d, g, c, a, xs, rfl, _⟩ := h
    rfl
  · obtain ⟨d, g, c, a, xs, rfl, D, hS, h0, h1, k⟩ := h
    refine ⟨_, pss_one (ps_ret (pe_ix ix_list (pv 1) (pe_call T hr rfl gT kT bT .nil pass0 (pa_cons (pv 0) (pa_cons (pe_callB call_len (by rfl) mLen PySem.boot_len (pa_cons (pv 1) pa_nil)) pa_nil))) (fun _ _ => rfl))), ?_⟩
    refine ⟨.ref a, rfl, .ref d, rfl, .ref a, rfl, .ref a, xs.length, rfl, .inl ⟨xs, Evl.ex_l (ex_off d g H) hS, rfl⟩, ?_⟩
    refine ⟨d, g, c, (xs.length : Int), rfl, by omega, by omega, D, fun i H1 i0 i1 D1 e1 => ?_⟩
    have hi : i.toNat < xs.length := by omega
    have ei : xs[i.toNat]? = some xs[i.toNat] := List.getElem?_eq_getElem hi
    refine ⟨a, xs, i, xs[i.toNat], rfl, rfl, Evl.ex_l ((e1).trans (ex_off d g H1)) hS, ?_, k i.toNat _ H1 ei D1 e1⟩
    have z := atI_nat ei
    rw [show ((i.toNat : Nat) : Int) = i by omega] at z
    exact z
theorem ok_pickS {f fT : Addr} {fd fdT : FuncData} (F : Fun K "_law_pick" "_law_pick" s_pick f fd) (T : FnOk P w K mg base CX0 2 fT fdT ["draw", "size"] spTake) (kT : PySem.W.keepIn K (.ref fT) = true) (bT : Binds K fdT ["draw", "size"] []) (gT : mg "_law_take" = some (.ref fT)) (mLen : mg "len" = none) :
    FnOk P w K mg base CX0 3 f fd ["draw", "some"] spPickS := by
  refine F.ok sc_pick (fun vs H Q E h => ?_) (fun cdv A outer s H vs Q E hr h => ?_)
  · obtain ⟨d, g, c, z, rfl, _⟩ := h
    rfl
  · obtain ⟨d, g, c, z, rfl, D, h0, h1, k⟩ := h
    refine ⟨_, pss_one (ps_ret (pe_ix ix_str (pv 1) (pe_call T hr rfl gT kT bT .nil pass0 (pa_cons (pv 0) (pa_cons (pe_callB call_len (by rfl) mLen PySem.boot_len (pa_cons (pv 1) pa_nil)) pa_nil))) (fun _ _ => rfl))), ?_⟩
    refine ⟨.str z, rfl, .ref d, rfl, .str z, rfl, .str z, z.length, rfl, ⟨Nat.le_of_lt (small1000 h1), rfl⟩, ?_⟩
    refine ⟨d, g, c, (z.length : Int), rfl, by omega, by omega, D, fun i H1 i0 i1 D1 e1 => ?_⟩
    have hz : z.length = z.cps.toList.length := rfl
    have hi : i.toNat < z.cps.toList.length := by omega
    have ei : z.cps.toList[i.toNat]? = some z.cps.toList[i.toNat] := List.getElem?_eq_getElem hi
    refine ⟨z, i, z.cps.toList[i.toNat], rfl, rfl, Nat.le_of_lt (small1000 h1), ?_, k i.toNat _ H1 ei D1 e1⟩
    have y := atI_nat ei
    rw [show ((i.toNat : Nat) : Int) = i by omega] at y
    exact y
end
end Rw
end T_D1

section T_B1
set_option Elab.async false
set_option linter.all false
set_option maxRecDepth 100000
set_option maxHeartbeats 4000000
namespace Rw
open PySem L2 PyProof.Rows
section
variable {P : Program} {w : World} {K : PySem.W.Frag} {mg : Str → Option Value} {base : Heap}
theorem sc_begin : FnScope ["script", "great", "cell"] ["script"] (defScope s_begin) := ⟨rfl, rfl, rfl, by decide +kernel, rfl, by decide +kernel, by decide +kernel⟩
theorem ok_begin {f : Addr} {fd : FuncData} (F : Fun K "_law_begin" "_law_begin" s_begin f fd) (mAbs : mg "abs" = none) : FnOk P w K mg base CX0 1 f fd ["script"] (spBegin K) := by
  refine F.ok sc_begin (fun vs H Q E h => ?_) (fun cdv A outer s H vs Q E hr h => ?_)
  · obtain ⟨a, ns, rfl, _⟩ := h
    rfl
  · obtain ⟨a, ns, rfl, hS, hl, k⟩ := h
    have nd := sc_begin.nd
    refine ⟨_, pss_cons (ps_setLc (i := 1) (own := [("cell", 2)]) (g := gName 2) (by rfl) nd rfl rfl (sw_true rfl rfl rfl (by decide +kernel)) (pi_list (pv 0)) (blkOk_by (own := [("cell", 2)]) (N := ["script", "great", "cell"]) (sc := defScope s_begin) (by decide +kernel))
          (fun _ _ _ _ _ => pg_name (i := 2) nd rfl (Or.inl rfl)) (fun _ _ _ _ _ => pts_one (pt_cmpR op_ge (pe_callB call_abs (by rfl) mAbs boot_abs (pa_cons (pv 2) pa_nil)) (pe_op op_pow pe_int pe_int) (nomark _)))
          (fun _ _ _ _ _ => pe_op op_sub (pe_callB call_abs (by rfl) mAbs boot_abs (pa_cons (pv 2) pa_nil)) (pe_op op_pow pe_int pe_int)))
      (pss_one (ps_ret (pe_disp (pps_cons pe_str (pv 1) (pps_cons pe_str pe_int (pps_cons pe_str
          (pe_lc (own := [("cell", 2)]) (g := gName 2) (tt := tYes) rfl nd (pi_list (pv 0)) (blkOk_by (own := [("cell", 2)]) (N := ["script", "great", "cell"]) (sc := defScope s_begin) (by decide +kernel))
            (fun _ _ _ _ _ => pg_name (i := 2) nd rfl (Or.inl rfl)) (fun _ _ _ _ _ => pts_nil) (fun _ _ _ _ _ => pe_callB call_abs (by rfl) mAbs boot_abs (pa_cons (pv 2) pa_nil)))
          (pps_cons pe_str pe_int pps_nil)))) (by rfl) (by rfl) (fun z => by cases z) (by decide)))), ?_⟩
    -- great = [..]
    have int_at : ∀ {i : Nat} {x : V}, (ns.map V.int)[i]? = some x → ∃ z : Int, x = V.int z := fun {i x} hi => by
      rw [List.getElem?_map] at hi
      cases e : ns[i]? with
      | none => rw [e] at hi; cases hi
      | some z => rw [e] at hi; exact ⟨z, (Option.some.inj hi).symm⟩
    refine ⟨.ref a, rfl, a, rfl, ⟨_, hS⟩, fun g hg => lc_list (K := K) (a := a) (xs := ns.map V.int)
      (fun i H1 => ∃ gs : List Int, gs.length ≤ i ∧ H1 = upd H g (.lst (gs.map V.int))) ⟨[], Nat.le_refl _, rfl⟩ ?_ ?_ ?_⟩
    · rintro i H1 _ ⟨gs, _, rfl⟩
      exact Evl.ex_l (Evl.Ex.new hg) hS
    · rintro i x H1 hi ⟨gs, hgl, rfl⟩
      obtain ⟨z, rfl⟩ := int_at hi
      have hil : i < (ns.map V.int).length := (List.getElem?_eq_some_iff.mp hi).1
      rw [List.length_map] at hil
      refine ⟨rfl, _, rfl, z, rfl, 10, 18, rfl, rfl, ⟨by decide, by decide, by decide⟩, _, _, rfl, rfl, _, rfl, ite2 (fun _ => ?_) (fun _ => ⟨gs, by omega, rfl⟩)⟩
      refine ⟨_, rfl, z, rfl, 10, 18, rfl, rfl, ⟨by decide, by decide, by decide⟩, _, _, rfl, rfl, _, upd_same, ?_, gs ++ [(if z < 0 then -z else z) - 10 ^ (18 : Int).toNat], ?_, ?_⟩
      · rw [List.length_map]; exact small1000 (by omega)
      · rw [List.length_append]; show gs.length + 1 ≤ i + 1; omega
      · rw [upd_upd, List.map_append]; rfl
    · rintro H1 ⟨gs, _, rfl⟩
      -- the dict
      intro d hd
      have hng : g ≠ d := ne_of_none upd_same hd
      have hSd : SqL K (upd (upd H g (.lst (gs.map V.int))) d (.dK [])) a (ns.map V.int) := Evl.ex_l (Evl.Ex.new hd) (Evl.ex_l (Evl.Ex.new hg) hS)
      refine ⟨.ref g, rfl, .ref a, rfl, a, rfl, ⟨_, hSd⟩, fun c hc => lc_list (K := K) (a := a) (xs := ns.map V.int)
        (fun i H1 => ∃ cs : List Int, cs.length ≤ i ∧ H1 = upd (upd (upd H g (.lst (gs.map V.int))) d (.dK [])) c (.lst (cs.map V.int))) ⟨[], Nat.le_refl _, rfl⟩ ?_ ?_ ?_⟩
      · rintro i H1 _ ⟨cs, _, rfl⟩
        exact Evl.ex_l (Evl.Ex.new hc) hSd
      · rintro i x H1 hi ⟨cs, hcl, rfl⟩
        obtain ⟨z, rfl⟩ := int_at hi
        have hil : i < (ns.map V.int).length := (List.getElem?_eq_some_iff.mp hi).1
        rw [List.length_map] at hil
        refine ⟨rfl, ?_⟩
        refine yes_if ?_
        refine ⟨_, rfl, z, rfl, _, upd_same, ?_, cs ++ [if z < 0 then -z else z], ?_, ?_⟩
        · rw [List.length_map]; exact small1000 (by omega)
        · rw [List.length_append]; show cs.length + 1 ≤ i + 1; omega
        · rw [upd_upd, List.map_append]; rfl
      · rintro H1 ⟨cs, _, rfl⟩
        have ndc : d ≠ c := ne_of_none upd_same hc
        have ngc : g ≠ c := ne_of_none (o := .lst (gs.map V.int)) (by rw [upd_ne hng]; exact upd_same) hc
        have dn : H d = none := by rw [upd_ne hng.symm] at hd; exact hd
        have cn : H c = none := by rw [upd_ne ndc.symm, upd_ne ngc.symm] at hc; exact hc
        refine ⟨by rw [upd_ne ndc]; exact upd_same, dkv g c 0 0, rfl, by show 4 ≤ 15; decide, ?_⟩
        refine k d g c _ ⟨⟨0, 0, ?_⟩, ⟨gs, ?_⟩, ⟨cs, ?_⟩, ngc.symm⟩ fun b o e => off_of ?_ (ne_of_none e dn) (ne_of_none e hg)
        · rw [upd_same]
          exact congrArg (fun z => some (HO.dK z)) (by kernel_rfl)
        · rw [upd_ne hng, upd_ne ngc, upd_ne hng, upd_same]
        · rw [upd_ne ndc.symm, upd_same]
        · rw [upd_ne (ne_of_none e dn), upd_ne (ne_of_none e cn), upd_ne (ne_of_none e dn), upd_ne (ne_of_none e hg)]
          exact e
end
end Rw
end T_B1

section T_B3
set_option Elab.async false
set_option linter.all false
set_option maxRecDepth 100000
set_option maxHeartbeats 4000000
namespace Rw
open PySem L2 PyProof.Rows
section
variable {P : Program} {w : World} {K : PySem.W.Frag} {mg : Str → Option Value} {base : Heap}
abbrev nWords : List Str := ["draw", "count", "letters", "found", "some", "k", "word", "span", "near", "j", "letter", "uno"]
theorem sc_words : FnScope nWords ["draw", "count"] (defScope s_words) := ⟨rfl, rfl, rfl, by decide +kernel, rfl, by decide +kernel, by decide +kernel⟩
theorem ok_words {f fT fP : Addr} {fd fdT fdP : FuncData} (F : Fun K "_law_words" "_law_words" s_words f fd)
    (T : FnOk P w K mg base CX0 2 fT fdT ["draw", "size"] spTake) (kT : PySem.W.keepIn K (.ref fT) = true) (bT : Binds K fdT ["draw", "size"] []) (gT : mg "_law_take" = some (.ref fT))
    (PL : FnOk P w K mg base CX0 3 fP fdP ["draw", "some"] (spPickL K)) (PS_ : FnOk P w K mg base CX0 3 fP fdP ["draw", "some"] spPickS) (kP : PySem.W.keepIn K (.ref fP) = true) (bP : Binds K fdP ["draw", "some"] []) (gP : mg "_law_pick" = some (.ref fP))
    (mRange : mg "range" = none) :
    FnOk P w K mg base CX0 4 f fd ["draw", "count"] (spWords K) := by
  refine F.ok sc_words (fun vs H Q E h => ?_) (fun cdv A outer s H vs Q E hr h => ?_)
  · obtain ⟨d, g, c, n, rfl, _⟩ := h
    rfl
  · obtain ⟨d, g, c, n, rfl, D, hn, k⟩ := h
    have nd := sc_words.nd
    have hr2 : Room 2 _ := hr.mono (by decide)
    refine ⟨_, pss_cons (ps_asg (pe_tup (pa_cons pe_str (pa_cons (pe_lst pa_nil) pa_nil))) (pg_tup rfl (pgs_cons (pg_name (i := 2) nd rfl (.inr rfl)) (pgs_cons (pg_name (i := 3) nd rfl (.inr rfl)) pgs_nil))))
      (pss_cons (ps_set (i := 4) nd rfl (.inl rfl) (pe_lst (pa_cons pe_str (pa_cons pe_str (pa_cons pe_str (pa_cons pe_str (pa_cons pe_str (pa_cons pe_str (pa_cons pe_str (pa_cons pe_str (pa_cons pe_str (pa_cons pe_str pa_nil))))))))))))
      (pss_cons (ps_for PassesOwn.never rfl (pi_range1 (by rfl) mRange (pa_cons (pv 1) pa_nil)) (pg_name (i := 5) nd rfl (.inl rfl))
        (pss_cons (ps_set (i := 6) nd rfl (.inr rfl) (pe_call PL hr rfl gP kP bP .nil pass0 (pa_cons (pv 0) (pa_cons (pv 4) pa_nil))))
        (C8.pss_cut (ps_if (pt_cmpR op_gt (pe_call T hr2 rfl gT kT bT .nil pass0 (pa_cons (pv 0) (pa_cons pe_int pa_nil))) pe_int (nomark _))
          (pss_cons (ps_set (i := 7) nd rfl (.inl rfl) (pe_op op_add pe_int (pe_call T hr2 rfl gT kT bT .nil pass0 (pa_cons (pv 0) (pa_cons (pe_call PL hr rfl gP kP bP .nil pass0 (pa_cons (pv 0) (pa_cons (pe_lst (pa_cons pe_int (pa_cons pe_int (pa_cons pe_int pa_nil)))) pa_nil))) pa_nil)))))
          (pss_one (ps_set (i := 6) nd rfl (.inr rfl) (pe_join pe_str
            (pe_lc (own := [("j", 9)]) (g := gName 9) (tt := tYes) rfl nd (pi_range1 (by rfl) mRange (pa_cons (pv 7) pa_nil)) (blkOk_by (own := [("j", 9)]) (N := nWords) (sc := defScope s_words) (by decide +kernel))
              (fun _ _ _ _ _ => pg_name (i := 9) nd rfl (Or.inl rfl)) (fun _ _ _ _ _ => pts_nil) (fun _ _ _ _ _ => pe_call PS_ hr rfl gP kP bP .nil pass0 (pa_cons (pv 0) (pa_cons (pv 2) pa_nil)))))))) pss_nil)
        (pss_cons (ps_set (i := 8) nd rfl (.inl rfl) (pe_op op_cat (pe_lst (pa_cons (pv 6) pa_nil))
            (pe_lc (own := [("letter", 10)]) (g := gName 10) (tt := tYes) rfl nd (pi_str (pv 2)) (blkOk_by (own := [("letter", 10)]) (N := nWords) (sc := defScope s_words) (by decide +kernel))
              (fun _ _ _ _ _ => pg_name (i := 10) nd rfl (Or.inl rfl)) (fun _ _ _ _ _ => pts_nil) (fun _ _ _ _ _ => pe_op op_add_str (pe_slice sl_str (pv 6) po_none (po_some pe_int)) (pv 10)))))
        (pss_one (ps_expr (pe_bm PySem.F.plainAttrs_list PySem.F.slot_list_append PySem.F.type_list_append mt_append (pv 3)
          (pa_cons (pe_ix ix_list (pe_lc (own := [("uno", 11)]) (g := gName 11) (tt := tTest (tOp (rIn K true) (tVar 11) (tVar 3))) rfl nd (pi_list (pv 8)) (blkOk_by (own := [("uno", 11)]) (N := nWords) (sc := defScope s_words) (by decide +kernel))
              (fun _ _ _ _ _ => pg_name (i := 11) nd rfl (Or.inl rfl)) (fun _ _ _ _ _ => pts_one (pt_cmpR op_notIn_seq (pv 11) (pv 3) rfl)) (fun _ _ _ _ _ => pv 11)) pe_int (fun _ _ => rfl)) pa_nil))))))))
      (pss_one (ps_ret (pv 3))))), ?_⟩
    have hz26 : (Str.ofString "abcdefghijklmnopqrstuvwxyz") = z26 := rfl
    -- letters, found = ('..', [])
    refine ⟨Nat.zero_le _, fun f hf => ⟨by show 2 ≤ sizeLine; decide, fun t ht => ⟨t, _, rfl, Evl.st_of upd_same, rfl, _, _, rfl, _, [], rfl, rfl, ?_⟩⟩⟩
    -- some = [..]
    refine ⟨by show 10 ≤ sizeLine; decide, fun sm hsm => ?_⟩
    have nf := D.ned hf
    have D1 : DrawAt (upd (upd (upd H f (.lst [])) t (.tup [.str z26, .ref f])) sm (.lst (words10.map V.str))) d g c := ((D.new hf).new ht).new hsm
    have nsm := ((D.new hf).new ht).ned hsm
    have S0 : StW H (upd (upd (upd H f (.lst [])) t (.tup [.str z26, .ref f])) sm (.lst (words10.map V.str))) d g c f sm [] :=
      ⟨Evl.Ex.new hsm _ _ (Evl.Ex.new ht _ _ upd_same), off_of upd_same nsm.1 nsm.2.1, D1, ((off_ex (Evl.Ex.new hf)).trans (off_ex (Evl.Ex.new ht))).trans (off_ex (Evl.Ex.new hsm)), nf.1, nf.2.1, ne_of_none (Evl.Ex.new ht _ _ upd_same) hsm⟩
    -- for k in range(count)
    refine ⟨.int (n : Int), rfl, (n : Int), rfl, by omega, by omega, for_range (lo := 0) (n := (n : Int).toNat)
      (fun i σ H' => ∃ (x5 x6 x7 x8 : Option V) (zs : List Str), σ = [some (.ref d), some (.int (n : Int)), some (.str z26), some (.ref f), some (.ref sm), x5, x6, x7, x8, none, none, none] ∧ zs.length = i ∧ zs.Nodup ∧ (∀ z ∈ zs, Nm z) ∧ StW H H' d g c f sm zs)
      ⟨none, none, none, none, [], rfl, rfl, List.nodup_nil, (fun z hz => by cases hz), S0⟩ ?_ ?_⟩
    · rintro i σ H1 hi ⟨x5, x6, x7, x8, zs, rfl, hlen, hnd, hnm, S1⟩
      rw [Int.toNat_natCast] at hi
      -- word = _law_pick(draw, some)
      refine ⟨.ref d, rfl, .ref sm, rfl, d, g, c, sm, words10.map V.str, rfl, S1.dr, Evl.sq_of S1.hs, by decide, by decide, fun i1 v H2 hv D2 e2 => ?_⟩
      have S2 := S1.call D2 e2
      obtain ⟨w0, rfl, hw0⟩ : ∃ w0 : Str, v = V.str w0 ∧ Nm w0 := by
        obtain ⟨z, hz, e⟩ := List.mem_map.mp (List.mem_of_getElem? hv)
        exact ⟨z, e.symm, words10_nm z hz⟩
      -- if _law_take(draw, 3) > 0
      refine ⟨fun σ' H' => ∃ (x7 : Option V) (w1 : Str), Nm w1 ∧ σ' = [some (.ref d), some (.int (n : Int)), some (.str z26), some (.ref f), some (.ref sm), some (.int (0 + (i : Int))), some (.str w1), x7, x8, none, none, none] ∧ StW H H' d g c f sm zs, ?_, ?_⟩
      · refine ⟨.ref d, rfl, d, g, c, 3, rfl, by decide, by decide, D2, fun q H3 q0 q1 D3 e3 => ?_⟩
        have S3 := S2.call D3 e3
        refine ⟨q, 0, rfl, rfl, _, rfl, ite2 (fun _ => ?_) (fun _ => ⟨x7, w0, hw0, rfl, S3⟩)⟩
        -- span = 1 + ..
        refine ⟨.ref d, rfl, .ref d, rfl, by show 3 ≤ sizeLine; decide, fun l6 hl6 => ?_⟩
        have S4 := S3.new (o := .lst [.int 1, .int 2, .int 6]) hl6
        have n6 := S3.dr.ned hl6
        refine ⟨d, g, c, l6, [.int 1, .int 2, .int 6], rfl, S4.dr, Evl.sq_of (off_of upd_same n6.1 n6.2.1), by decide, by decide, fun i2 v2 H5 hv2 D5 e5 => ?_⟩
        have S5 := S4.call D5 e5
        obtain ⟨m, rfl, hm0, hm1⟩ : ∃ m : Int, v2 = .int m ∧ 0 < m ∧ m ≤ 6 := by
          match i2, hv2 with
          | 0, hv2 => exact ⟨_, (Option.some.inj hv2).symm, by decide, by decide⟩
          | 1, hv2 => exact ⟨_, (Option.some.inj hv2).symm, by decide, by decide⟩
          | 2, hv2 => exact ⟨_, (Option.some.inj hv2).symm, by decide, by decide⟩
          | n + 3, hv2 => exact absurd hv2 (by simp)
        refine ⟨d, g, c, m, rfl, hm0, by omega, D5, fun r H6 r0 r1 D6 e6 => ?_⟩
        have S6 := S5.call D6 e6
        refine ⟨1, r, rfl, rfl, ?_⟩
        -- word = ''.join([..])
        refine ⟨⟨_, rfl⟩, .int (1 + r), rfl, 1 + r, rfl, by omega, by omega, fun D hD => lc_range (lo := 0) (n := (1 + r).toNat)
          (fun j H' => ∃ cs : List Nat, cs.length = j ∧ (∀ x ∈ cs, 97 ≤ x ∧ x ≤ 122) ∧ H' D = some (.lst (cs.map fun x => V.str (SX.S [x]))) ∧ StW H H' d g c f sm zs) ⟨[], rfl, (fun x hx => by cases hx), upd_same, S6.new hD⟩ ?_ ?_⟩
        · rintro j H7 hj ⟨cs, hcl, hcs, hD7, S7⟩
          refine ⟨rfl, ?_⟩
          refine yes_if ?_
          refine ⟨.ref d, rfl, .str z26, rfl, d, g, c, z26, rfl, S7.dr, by decide +kernel, by decide +kernel, fun i3 ch H8 hch D8 e8 => ?_⟩
          have S8 := S7.call D8 e8
          have fD := S6.free hD
          have hD8 : H8 D = some (.lst (cs.map fun x => V.str (SX.S [x]))) := ex_off d g H8 _ _ (e8 _ _ (off_of hD7 fD.2.2.2.1 fD.2.2.2.2.1))
          refine ⟨_, hD8, by rw [List.length_map]; exact small1000 (by omega), cs ++ [ch], by simp [hcl], fun x hx => ?_, ?_, S8.mut fD.1 fD.2.1 fD.2.2.1 fD.2.2.2.1 fD.2.2.2.2.1 fD.2.2.2.2.2⟩
          · rcases List.mem_append.mp hx with hx | hx
            · exact hcs x hx
            · rw [List.mem_singleton.mp hx]
              have z := List.mem_of_getElem? hch
              rw [z26_eq] at z
              obtain ⟨y, hy, rfl⟩ := List.mem_map.mp z
              have := List.mem_range.mp hy
              omega
          · rw [upd_same, List.map_append]
            rfl
        · rintro H7 ⟨cs, hcl, hcs, hD7, S7⟩
          have el : (cs.map fun x => V.str (SX.S [x])) = (cs.map fun x => SX.S [x]).map V.str := by rw [List.map_map]; rfl
          rw [el] at hD7
          have hsum : ((cs.map fun x => SX.S [x]).map (·.length)).sum = cs.length := by
            clear hD7 el hcs hcl S7
            induction cs with
            | nil => rfl
            | cons x r ih =>
              show (SX.S [x]).length + ((r.map fun x => SX.S [x]).map (·.length)).sum = r.length + 1
              rw [ih, SX.S_len]
              show 1 + r.length = r.length + 1
              omega
          refine ⟨_, D, cs.map fun x => SX.S [x], rfl, rfl, .inl (Evl.sq_of hD7), ?_, ?_⟩
          · rw [hsum, List.length_map]
            show cs.length + cs.length * 0 ≤ 16777216
            omega
          · rw [show Txt.join (Str.ofString "") (cs.map fun x => SX.S [x]) = SX.S cs from join_signs cs]
            exact ⟨_, SX.S cs, ⟨cs, rfl, by omega, by omega, hcs⟩, rfl, S7⟩
      · rintro σ' H3 ⟨x7', w1, ⟨lw, rfl, hw1, hw2, hw3⟩, rfl, S3⟩
        have lenw : (SX.S lw).length ≤ 6 := by rw [SX.S_len]; exact hw2
        -- near = [word] + [..]
        refine ⟨.str (SX.S lw), rfl, by show 1 ≤ sizeLine; decide, fun q hq => ?_⟩
        have S4 := S3.new (o := .lst [.str (SX.S lw)]) hq
        have hq4 : (upd H3 q (.lst [.str (SX.S lw)])) q = some (.lst [.str (SX.S lw)]) := upd_same
        generalize upd H3 q (.lst [.str (SX.S lw)]) = H4 at S4 hq4
        refine ⟨.str z26, rfl, z26, rfl, fun D hD => lc_it walk_str (fun j H' => H' = upd H4 D (.lst ((((List.range 26).take j).map fun k => SX.S (lw.take 5 ++ [97 + k])).map V.str))) rfl (fun _ _ _ _ => trivial) ?_ ?_⟩
        · rintro j x H5 H5' hj rfl ⟨rfl, ch, hch, rfl⟩
          refine ⟨rfl, ?_⟩
          refine yes_if ?_
          have hj' : j < 26 := hj
          have ech : ch = 97 + j := by
            have z : z26.cps.toList[j]? = some ch := by rw [Array.getElem?_toList]; exact hch
            rw [z26_eq, List.getElem?_map, List.getElem?_range hj'] at z
            exact (Option.some.inj z).symm
          subst ech
          refine ⟨.str (SX.S lw), rfl, 5, rfl, SX.S lw, rfl, Nat.le_of_lt (small1000 (by omega)), .str (SX.S [97 + j]), rfl, cutS (SX.S lw) none (some 5), SX.S [97 + j], rfl, rfl, ?_, ?_⟩
          · rw [cut5, SX.S_len, SX.S_len, List.length_take]
            show min 5 lw.length + 1 ≤ sizeLine
            exact Nat.le_of_lt (small1000 (by omega))
          · rw [cut5, SX.S_cat]
            refine ⟨_, upd_same, ?_, ?_⟩
            · rw [List.length_map, List.length_map, List.length_take, List.length_range]
              exact small1000 (by omega)
            · show upd (upd H4 D _) D _ = _
              rw [upd_upd, List.take_add_one (i := j) (l := List.range 26), List.getElem?_range hj', List.map_append, List.map_append]
              rfl
        · rintro H5 rfl
          have hDq : q ≠ D := ne_of_none hq4 hD
          have S5 := S4.new (o := .lst ((((List.range 26).take z26.cps.size).map fun k => SX.S (lw.take 5 ++ [97 + k])).map V.str)) hD
          refine ⟨q, D, _, _, rfl, rfl, by rw [upd_ne hDq]; exact hq4, upd_same, ?_, fun p hp => ?_⟩
          · rw [List.length_map, List.length_map, List.length_take, List.length_range]
            show 1 + min z26.cps.size 26 ≤ sizeLine
            exact Nat.le_of_lt (small1000 (by omega))
          · have en : ([V.str (SX.S lw)] ++ (((List.range 26).take z26.cps.size).map fun k => SX.S (lw.take 5 ++ [97 + k])).map V.str) = (near lw).map V.str := by
              rw [show z26.cps.size = 26 by decide +kernel, show (List.range 26).take 26 = List.range 26 by decide]
              rfl
            rw [en]
            have S6 := S5.new (o := .lst ((near lw).map V.str)) hp
            have hp6 : (upd (upd H4 D (.lst ((((List.range 26).take z26.cps.size).map fun k => SX.S (lw.take 5 ++ [97 + k])).map V.str))) p (.lst ((near lw).map V.str))) p = some (.lst ((near lw).map V.str)) := upd_same
            generalize upd (upd H4 D (.lst ((((List.range 26).take z26.cps.size).map fun k => SX.S (lw.take 5 ++ [97 + k])).map V.str))) p (.lst ((near lw).map V.str)) = H6 at S6 hp6
            -- found.append([..][0])
            refine ⟨.ref f, rfl, .inl ⟨rfl, _, Evl.sq_of S6.hf⟩, .ref p, rfl, p, rfl, ⟨_, Evl.sq_of hp6⟩, fun D2 hD2 => lc_list (K := K) (a := p) (xs := (near lw).map V.str)
              (fun j H' => H' = upd H6 D2 (.lst ((((near lw).take j).filter fun z => decide (z ∉ zs)).map V.str))) rfl (fun j H' _ h => by rw [h]; exact Evl.ex_l (Evl.Ex.new hD2) (Evl.sq_of hp6)) ?_ ?_⟩
            · rintro j x H7 hj rfl
              obtain ⟨z, hz, rfl⟩ : ∃ z, (near lw)[j]? = some z ∧ x = V.str z := by
                rw [List.getElem?_map] at hj
                cases e : (near lw)[j]? with
                | none => rw [e] at hj; cases hj
                | some z => rw [e] at hj; exact ⟨z, rfl, (Option.some.inj hj).symm⟩
              have hjl : j < (near lw).length := (List.getElem?_eq_some_iff.mp hz).1
              have hnl : (near lw).length = 27 := by simp [near]
              refine ⟨rfl, _, rfl, .ref f, rfl, f, _, rfl, .inl (Evl.ex_l (Evl.Ex.new hD2) (Evl.sq_of S6.hf)), rfl, flat_strs zs, _, rfl, ?_⟩
              rw [inV_str]
              have etake : (near lw).take (j + 1) = (near lw).take j ++ [z] := by rw [List.take_add_one, hz]; rfl
              by_cases hin : z ∈ zs
              · rw [decide_eq_true hin]
                show upd H6 D2 _ = _
                rw [etake, List.filter_append, List.filter_cons_of_neg (by simp [hin]), List.filter_nil, List.append_nil]
              · rw [decide_eq_false hin]
                refine ⟨_, rfl, _, upd_same, ?_, ?_⟩
                · rw [List.length_map]
                  refine small1000 (Nat.le_trans (List.length_filter_le _ _) ?_)
                  rw [List.length_take]
                  omega
                · show upd (upd H6 D2 _) D2 _ = _
                  rw [upd_upd, etake, List.filter_append, List.filter_cons_of_pos (by simp [hin]), List.filter_nil, List.map_append]
                  rfl
            · rintro H7 rfl
              rw [List.length_map, List.take_length]
              obtain ⟨z, rest, ez⟩ := near_some lw zs (by omega)
              rw [ez]
              have hzm : z ∈ (near lw).filter fun z => decide (z ∉ zs) := by rw [ez]; exact List.mem_cons_self
              have hz1 := List.mem_filter.mp hzm
              have S7 := S6.new (o := .lst ((z :: rest).map V.str)) hD2
              refine ⟨D2, _, 0, .str z, rfl, rfl, Evl.sq_of upd_same, atI_nat (j := 0) rfl, f, _, .str z, rfl, rfl, S7.hf, ?_, ?_⟩
              · rw [List.length_map]
                exact small1000 (by omega)
              · have nf2 := nf
                have nfs : f ≠ sm := S7.n3
                refine ⟨_, _, _, _, zs ++ [z], rfl, by simp [hlen], ?_, fun y hy => ?_, ?_⟩
                · exact List.nodup_append.mpr ⟨hnd, (by simp), fun a ha b hb e => of_decide_eq_true hz1.2 (List.mem_singleton.mp hb ▸ e ▸ ha)⟩
                · rcases List.mem_append.mp hy with hy | hy
                  · exact hnm y hy
                  · rw [List.mem_singleton.mp hy]
                    exact near_nm hw1 hw2 hw3 z hz1.1
                · have hs7 := off_some S7.hs
                  refine ⟨by rw [upd_same, List.map_append]; rfl, off_of (by rw [upd_ne nfs.symm]; exact hs7.2.2) hs7.1 hs7.2.1, S7.dr.mut nf2.1 nf2.2.1 nf2.2.2, off_mut S7.ex (off_free hf), S7.n1, S7.n2, S7.n3⟩
    · rintro σ H1 ⟨x5, x6, x7, x8, zs, rfl, hlen, hnd, hnm, S1⟩
      rw [Int.toNat_natCast] at hlen
      exact ⟨.ref f, rfl, k f zs H1 hlen hnd hnm S1.dr S1.ex hf (off_of S1.hf S1.n1 S1.n2)⟩
end
end Rw
end T_B3

section T_QA
set_option Elab.async false
set_option linter.all false
set_option maxRecDepth 100000
set_option maxHeartbeats 8000000
namespace Rw
open PySem PySem.Spec L2 PyProof.Rows
section
variable {P : Program} {w : World} {K : PySem.W.Frag} {mg : Str → Option Value} {base : Heap}
def spLaw (K : PySem.W.Frag) : Sp := fun vs H Q _ => ∃ (a : Addr) (ns : List Int), vs = [.ref a] ∧ SqL K H a (ns.map V.int) ∧ ns.length ≤ 63 ∧ ∀ H', Q (.bl true) H'
abbrev nLaw : List Str := ["script", "draw", "turn", "a", "b", "c", "end", "other"]
theorem sc_law : FnScope nLaw ["script"] (defScope s_law) := ⟨rfl, rfl, rfl, by decide +kernel, rfl, by decide +kernel, by decide +kernel⟩
theorem ok_law {f : Addr} {fd : FuncData} (F : Fun K "law" "law" s_law f fd)
    (CB : Cal P w K mg base 1 "_law_begin" ["script"] (spBegin K)) (CW : Cal P w K mg base 4 "_law_words" ["draw", "count"] (spWords K)) (CP : Cal P w K mg base 8 "_law_pair_right" ["a", "b", "end"] spPairRight) (CT : Cal P w K mg base 8 "_law_three_right" ["a", "b", "c", "end"] spThreeRight) (CG : Cal P w K mg base 8 "_law_goals_right" ["a", "b", "end", "other"] spGoalsRight)
    (mRange : mg "range" = none) (mMin : mg "min" = none) (mLen : mg "len" = none) : FnG P w K mg base CX0 9 f fd ["script"] (spLaw K) := by
  obtain ⟨fB, fdB, BG, kB, bB, gB⟩ := CB.ex
  obtain ⟨fW, fdW, WD, kW, bW, gW⟩ := CW.ex
  obtain ⟨fP, fdP, PR, kP, bP, gP⟩ := CP.ex
  obtain ⟨fT, fdT, TR, kT, bT, gT⟩ := CT.ex
  obtain ⟨fG, fdG, GR, kG, bG, gG⟩ := CG.ex
  refine Rw.Fun.okG F sc_law (fun vs H Q E h => ?_) (fun cdv A outer s H vs Q E guard hr h => ?_)
  · obtain ⟨a, ns, rfl, _⟩ := h
    rfl
  · obtain ⟨a, ns, rfl, hS, hl, k⟩ := h
    have nd := sc_law.nd
    have hr1 : Room 1 _ := hr.mono (by decide)
    have hr4 : Room 4 _ := hr.mono (by decide)
    refine ⟨_, PSs.nox (pss_cons (ps_set (i := 1) nd rfl (.inl rfl) (pe_call BG hr1 rfl gB kB bB .nil pass0 (pa_cons (pv 0) pa_nil)))
      (pss_cons (ps_for PassesOwn.never rfl (pi_range1 (by rfl) mRange (pa_cons (pe_op op_add pe_int (pe_callB (call_min2 rfl) (by rfl) mMin (by decide +kernel) (pa_cons (pe_callB call_len (by rfl) mLen PySem.boot_len (pa_cons (pv 0) pa_nil)) (pa_cons pe_int pa_nil)))) pa_nil)) (pg_name (i := 2) nd rfl (.inl rfl))
        (pss_cons (ps_asg (pe_call WD hr4 rfl gW kW bW .nil pass0 (pa_cons (pv 1) (pa_cons pe_int pa_nil))) (pg_unl rfl (pgs_cons (pg_name (i := 3) nd rfl (.inl rfl)) (pgs_cons (pg_name (i := 4) nd rfl (.inl rfl)) (pgs_cons (pg_name (i := 5) nd rfl (.inl rfl)) (pgs_cons (pg_name (i := 6) nd rfl (.inl rfl)) (pgs_cons (pg_name (i := 7) nd rfl (.inl rfl)) pgs_nil)))))))
        (pss_cons (ps_if (PW.pt (pw_or (pt_not (pt_val (pe_call PR hr rfl gP kP bP .nil pass0 (pa_cons (pv 3) (pa_cons (pv 4) (pa_cons (pv 6) pa_nil)))))) (pw_or1 (pt_not (pt_val (pe_call TR hr rfl gT kT bT .nil pass0 (pa_cons (pv 3) (pa_cons (pv 4) (pa_cons (pv 5) (pa_cons (pv 6) pa_nil)))))))))) (pss_one (ps_ret pe_bl)) pss_nil)
        (pss_one (ps_if (pt_not (pt_val (pe_call GR hr rfl gG kG bG .nil pass0 (pa_cons (pv 3) (pa_cons (pv 4) (pa_cons (pv 6) (pa_cons (pv 7) pa_nil))))))) (pss_one (ps_ret pe_bl)) pss_nil)))))
      (pss_one (ps_ret pe_bl)))), ?_⟩
    -- draw = _law_begin(script)
    refine ⟨.ref a, rfl, a, ns, rfl, hS, hl, fun d g c H1 D1 x1 => ?_⟩
    refine ⟨.ref a, rfl, .ref a, _, rfl, .inl ⟨_, Evl.ex_l (x1.trans (ex_off d g H1)) hS, rfl⟩, _, _, rfl, _, _, rfl, rfl, ?_⟩
    obtain ⟨many, hmany⟩ : ∃ many : Int, many = (5 : Int) + (if (20 : Int) < ((ns.map V.int).length : Int) then 20 else ((ns.map V.int).length : Int)) := ⟨_, rfl⟩
    have bound : (0 : Int) ≤ many ∧ many ≤ 100 := by
      rw [hmany, List.length_map]
      split <;> omega
    refine ⟨many, by rw [hmany], by omega, by omega, for_range (lo := 0) (n := many.toNat)
      (fun i σ H' => ∃ x2 x3 x4 x5 x6 x7 : Option V, σ = [some (.ref a), some (.ref d), x2, x3, x4, x5, x6, x7] ∧ DrawAt H' d g c)
      ⟨none, none, none, none, none, none, rfl, D1⟩ ?_ ?_⟩
    · rintro i σ H2 hi ⟨x2, x3, x4, x5, x6, x7, rfl, D2⟩
      refine ⟨.ref d, rfl, d, g, c, 5, rfl, D2, by decide, fun wl ws H3 wlen wnd wnm D3 x3' _ hwl => ?_⟩
      obtain ⟨a', b', c', e', o', rfl⟩ : ∃ a' b' c' e' o', ws = [a', b', c', e', o'] := by
        match ws, wlen with
        | [a', b', c', e', o'], _ => exact ⟨a', b', c', e', o', rfl⟩
      have hw := (off_some hwl).2.2
      simp only [List.nodup_cons, List.mem_cons, List.not_mem_nil, or_false, not_or, not_false_eq_true, List.nodup_nil, and_true] at wnd
      obtain ⟨⟨ab, ac, ae, ao⟩, ⟨bc, be, bo⟩, ⟨ce, co⟩, eo⟩ := wnd
      have na := wnm a' (by simp)
      have nb := wnm b' (by simp)
      have nc := wnm c' (by simp)
      have ne := wnm e' (by simp)
      have no := wnm o' (by simp)
      refine ⟨wl, _, rfl, Evl.sq_of hw, rfl, _, _, rfl, _, _, rfl, _, _, rfl, _, _, rfl, _, [], rfl, rfl, ?_⟩
      refine ⟨.str a', rfl, .str b', rfl, .str e', rfl, a', b', e', rfl, ab, ae, be, na, nb, ne, fun H4 y4 => ⟨true, rfl, ?_⟩⟩
      refine iteF ?_
      have D4 := D3.ext y4
      refine ⟨.str a', rfl, .str b', rfl, .str c', rfl, .str e', rfl, a', b', c', e', rfl, ab, ac, bc, ae, be, ce, na, nb, nc, ne, fun H5 y5 => ⟨true, rfl, ?_⟩⟩
      refine iteF ?_
      have D5 := D4.ext y5
      refine ⟨.str a', rfl, .str b', rfl, .str e', rfl, .str o', rfl, a', b', e', o', rfl, ab, ae, be, ao, bo, eo, na, nb, ne, no, fun H6 y6 => ⟨true, rfl, ?_⟩⟩
      refine iteF ?_
      exact ⟨_, _, _, _, _, _, rfl, D5.ext y6⟩
    · rintro σ H2 ⟨x2, x3, x4, x5, x6, x7, rfl, D2⟩
      exact k H2
end
end Rw
end T_QA

section T_Z0
set_option Elab.async false
set_option linter.all false
set_option maxRecDepth 100000
set_option maxHeartbeats 8000000
namespace Rw
open PySem L2 PyProof.Rows
theorem all_mk {P : Program} {w : World} {K : PySem.W.Frag} {h : Heap} {mg : Str → Option Value} {fa : Addr} (X : K.In h) (G : h.Ns mainGlobals mg) (hfa : mg "law" = some (.ref fa))
    {C fI TI q1 q2 : Addr} {odI anI odT : Option Addr} {slI slT : Array (Option Value)} {ocI kVI dcI pmI cdI ctI ocT : Value} {nT : Nat}
    {f_s_begin : Addr} {od_s_begin an_s_begin : Option Addr} {sl_s_begin : Array (Option Value)} {oc_s_begin kV_s_begin dc_s_begin pm_s_begin cd_s_begin ct_s_begin : Value}
    {f_s_blend : Addr} {od_s_blend an_s_blend : Option Addr} {sl_s_blend : Array (Option Value)} {oc_s_blend kV_s_blend dc_s_blend pm_s_blend cd_s_blend ct_s_blend : Value}
    {f_s_take : Addr} {od_s_take an_s_take : Option Addr} {sl_s_take : Array (Option Value)} {oc_s_take kV_s_take dc_s_take pm_s_take cd_s_take ct_s_take : Value}
    {f_s_pick : Addr} {od_s_pick an_s_pick : Option Addr} {sl_s_pick : Array (Option Value)} {oc_s_pick kV_s_pick dc_s_pick pm_s_pick cd_s_pick ct_s_pick : Value}
    {f_s_words : Addr} {od_s_words an_s_words : Option Addr} {sl_s_words : Array (Option Value)} {oc_s_words kV_s_words dc_s_words pm_s_words cd_s_words ct_s_words : Value}
    {f_s_pair_right : Addr} {od_s_pair_right an_s_pair_right : Option Addr} {sl_s_pair_right : Array (Option Value)} {oc_s_pair_right kV_s_pair_right dc_s_pair_right pm_s_pair_right cd_s_pair_right ct_s_pair_right : Value}
    {f_s_three_right : Addr} {od_s_three_right an_s_three_right : Option Addr} {sl_s_three_right : Array (Option Value)} {oc_s_three_right kV_s_three_right dc_s_three_right pm_s_three_right cd_s_three_right ct_s_three_right : Value}
    {f_s_goals_right : Addr} {od_s_goals_right an_s_goals_right : Option Addr} {sl_s_goals_right : Array (Option Value)} {oc_s_goals_right kV_s_goals_right dc_s_goals_right pm_s_goals_right cd_s_goals_right ct_s_goals_right : Value}
    {f_p_is_list : Addr} {od_p_is_list an_p_is_list : Option Addr} {sl_p_is_list : Array (Option Value)} {oc_p_is_list kV_p_is_list dc_p_is_list pm_p_is_list cd_p_is_list ct_p_is_list : Value}
    {f_p_is_name : Addr} {od_p_is_name an_p_is_name : Option Addr} {sl_p_is_name : Array (Option Value)} {oc_p_is_name kV_p_is_name dc_p_is_name pm_p_is_name cd_p_is_name ct_p_is_name : Value}
    {f_p_is_place : Addr} {od_p_is_place an_p_is_place : Option Addr} {sl_p_is_place : Array (Option Value)} {oc_p_is_place kV_p_is_place dc_p_is_place pm_p_is_place cd_p_is_place ct_p_is_place : Value}
    {f_p_is_table : Addr} {od_p_is_table an_p_is_table : Option Addr} {sl_p_is_table : Array (Option Value)} {oc_p_is_table kV_p_is_table dc_p_is_table pm_p_is_table cd_p_is_table ct_p_is_table : Value}
    {f_p_are_different : Addr} {od_p_are_different an_p_are_different : Option Addr} {sl_p_are_different : Array (Option Value)} {oc_p_are_different kV_p_are_different dc_p_are_different pm_p_are_different cd_p_are_different ct_p_are_different : Value}
    {f_p_are_nodes : Addr} {od_p_are_nodes an_p_are_nodes : Option Addr} {sl_p_are_nodes : Array (Option Value)} {oc_p_are_nodes kV_p_are_nodes dc_p_are_nodes pm_p_are_nodes cd_p_are_nodes ct_p_are_nodes : Value}
    {f_p_is_pair_of_dicts : Addr} {od_p_is_pair_of_dicts an_p_is_pair_of_dicts : Option Addr} {sl_p_is_pair_of_dicts : Array (Option Value)} {oc_p_is_pair_of_dicts kV_p_is_pair_of_dicts dc_p_is_pair_of_dicts pm_p_is_pair_of_dicts cd_p_is_pair_of_dicts ct_p_is_pair_of_dicts : Value}
    {f_p_are_tables : Addr} {od_p_are_tables an_p_are_tables : Option Addr} {sl_p_are_tables : Array (Option Value)} {oc_p_are_tables kV_p_are_tables dc_p_are_tables pm_p_are_tables cd_p_are_tables ct_p_are_tables : Value}
    {f_p_check_net : Addr} {od_p_check_net an_p_check_net : Option Addr} {sl_p_check_net : Array (Option Value)} {oc_p_check_net kV_p_check_net dc_p_check_net pm_p_check_net cd_p_check_net ct_p_check_net : Value}
    {f_p_check_goal : Addr} {od_p_check_goal an_p_check_goal : Option Addr} {sl_p_check_goal : Array (Option Value)} {oc_p_check_goal kV_p_check_goal dc_p_check_goal pm_p_check_goal cd_p_check_goal ct_p_check_goal : Value}
    {f_p_check_lot : Addr} {od_p_check_lot an_p_check_lot : Option Addr} {sl_p_check_lot : Array (Option Value)} {oc_p_check_lot kV_p_check_lot dc_p_check_lot pm_p_check_lot cd_p_check_lot ct_p_check_lot : Value}
    {f_p_check_round : Addr} {od_p_check_round an_p_check_round : Option Addr} {sl_p_check_round : Array (Option Value)} {oc_p_check_round kV_p_check_round dc_p_check_round pm_p_check_round cd_p_check_round ct_p_check_round : Value}
    {f_p_is_lot_of : Addr} {od_p_is_lot_of an_p_is_lot_of : Option Addr} {sl_p_is_lot_of : Array (Option Value)} {oc_p_is_lot_of kV_p_is_lot_of dc_p_is_lot_of pm_p_is_lot_of cd_p_is_lot_of ct_p_is_lot_of : Value}
    {f_g_goals : Addr} {od_g_goals an_g_goals : Option Addr} {sl_g_goals : Array (Option Value)} {oc_g_goals kV_g_goals dc_g_goals pm_g_goals cd_g_goals ct_g_goals : Value}
    {p_g_goals : Addr} {r_g_goals : List Value}
    {f_g_nodes : Addr} {od_g_nodes an_g_nodes : Option Addr} {sl_g_nodes : Array (Option Value)} {oc_g_nodes kV_g_nodes dc_g_nodes pm_g_nodes cd_g_nodes ct_g_nodes : Value}
    {p_g_nodes : Addr} {r_g_nodes : List Value}
    {f_g_changing : Addr} {od_g_changing an_g_changing : Option Addr} {sl_g_changing : Array (Option Value)} {oc_g_changing kV_g_changing dc_g_changing pm_g_changing cd_g_changing ct_g_changing : Value}
    {p_g_changing : Addr} {r_g_changing : List Value}
    {f_p_check_node : Addr} {od_p_check_node an_p_check_node : Option Addr} {sl_p_check_node : Array (Option Value)} {oc_p_check_node kV_p_check_node dc_p_check_node pm_p_check_node cd_p_check_node ct_p_check_node : Value}
    {f_p_followed : Addr} {od_p_followed an_p_followed : Option Addr} {sl_p_followed : Array (Option Value)} {oc_p_followed kV_p_followed dc_p_followed pm_p_followed cd_p_followed ct_p_followed : Value}
    {f_p_ways : Addr} {od_p_ways an_p_ways : Option Addr} {sl_p_ways : Array (Option Value)} {oc_p_ways kV_p_ways dc_p_ways pm_p_ways cd_p_ways ct_p_ways : Value}
    {f_p_ring : Addr} {od_p_ring an_p_ring : Option Addr} {sl_p_ring : Array (Option Value)} {oc_p_ring kV_p_ring dc_p_ring pm_p_ring cd_p_ring ct_p_ring : Value}
    {f_p_least_ring : Addr} {od_p_least_ring an_p_least_ring : Option Addr} {sl_p_least_ring : Array (Option Value)} {oc_p_least_ring kV_p_least_ring dc_p_least_ring pm_p_least_ring cd_p_least_ring ct_p_least_ring : Value}
    {f_p_ranks : Addr} {od_p_ranks an_p_ranks : Option Addr} {sl_p_ranks : Array (Option Value)} {oc_p_ranks kV_p_ranks dc_p_ranks pm_p_ranks cd_p_ranks ct_p_ranks : Value}
    {f_p_least_ranks : Addr} {od_p_least_ranks an_p_least_ranks : Option Addr} {sl_p_least_ranks : Array (Option Value)} {oc_p_least_ranks kV_p_least_ranks dc_p_least_ranks pm_p_least_ranks cd_p_least_ranks ct_p_least_ranks : Value}
    {f_p_led : Addr} {od_p_led an_p_led : Option Addr} {sl_p_led : Array (Option Value)} {oc_p_led kV_p_led dc_p_led pm_p_led cd_p_led ct_p_led : Value}
    {f_p_reached : Addr} {od_p_reached an_p_reached : Option Addr} {sl_p_reached : Array (Option Value)} {oc_p_reached kV_p_reached dc_p_reached pm_p_reached cd_p_reached ct_p_reached : Value}
    {f_p_nodes_reached : Addr} {od_p_nodes_reached an_p_nodes_reached : Option Addr} {sl_p_nodes_reached : Array (Option Value)} {oc_p_nodes_reached kV_p_nodes_reached dc_p_nodes_reached pm_p_nodes_reached cd_p_nodes_reached ct_p_nodes_reached : Value}
    {f_p_twice : Addr} {od_p_twice an_p_twice : Option Addr} {sl_p_twice : Array (Option Value)} {oc_p_twice kV_p_twice dc_p_twice pm_p_twice cd_p_twice ct_p_twice : Value}
    {f_p_with_moments : Addr} {od_p_with_moments an_p_with_moments : Option Addr} {sl_p_with_moments : Array (Option Value)} {oc_p_with_moments kV_p_with_moments dc_p_with_moments pm_p_with_moments cd_p_with_moments ct_p_with_moments : Value}
    {f_p_joined : Addr} {od_p_joined an_p_joined : Option Addr} {sl_p_joined : Array (Option Value)} {oc_p_joined kV_p_joined dc_p_joined pm_p_joined cd_p_joined ct_p_joined : Value}
    {f_p_ways_at : Addr} {od_p_ways_at an_p_ways_at : Option Addr} {sl_p_ways_at : Array (Option Value)} {oc_p_ways_at kV_p_ways_at dc_p_ways_at pm_p_ways_at cd_p_ways_at ct_p_ways_at : Value}
    {f_p_nodes_behind : Addr} {od_p_nodes_behind an_p_nodes_behind : Option Addr} {sl_p_nodes_behind : Array (Option Value)} {oc_p_nodes_behind kV_p_nodes_behind dc_p_nodes_behind pm_p_nodes_behind cd_p_nodes_behind ct_p_nodes_behind : Value}
    {f_g_tables : Addr} {od_g_tables an_g_tables : Option Addr} {sl_g_tables : Array (Option Value)} {oc_g_tables kV_g_tables dc_g_tables pm_g_tables cd_g_tables ct_g_tables : Value}
    {p_g_tables : Addr} {r_g_tables : List Value}
    {f_m_way : Addr} {od_m_way an_m_way : Option Addr} {sl_m_way : Array (Option Value)} {oc_m_way kV_m_way dc_m_way pm_m_way cd_m_way ct_m_way : Value}
    {f_p_depths : Addr} {od_p_depths an_p_depths : Option Addr} {sl_p_depths : Array (Option Value)} {oc_p_depths kV_p_depths dc_p_depths pm_p_depths cd_p_depths ct_p_depths : Value}
    {f_p_is_sound : Addr} {od_p_is_sound an_p_is_sound : Option Addr} {sl_p_is_sound : Array (Option Value)} {oc_p_is_sound kV_p_is_sound dc_p_is_sound pm_p_is_sound cd_p_is_sound ct_p_is_sound : Value}
    {f_p_goes_on : Addr} {od_p_goes_on an_p_goes_on : Option Addr} {sl_p_goes_on : Array (Option Value)} {oc_p_goes_on kV_p_goes_on dc_p_goes_on pm_p_goes_on cd_p_goes_on ct_p_goes_on : Value}
    {f_p_is_place_with_moment : Addr} {od_p_is_place_with_moment an_p_is_place_with_moment : Option Addr} {sl_p_is_place_with_moment : Array (Option Value)} {oc_p_is_place_with_moment kV_p_is_place_with_moment dc_p_is_place_with_moment pm_p_is_place_with_moment cd_p_is_place_with_moment ct_p_is_place_with_moment : Value}
    {f_p_is_moving : Addr} {od_p_is_moving an_p_is_moving : Option Addr} {sl_p_is_moving : Array (Option Value)} {oc_p_is_moving kV_p_is_moving dc_p_is_moving pm_p_is_moving cd_p_is_moving ct_p_is_moving : Value}
    {f_law : Addr} {od_law an_law : Option Addr} {sl_law : Array (Option Value)} {oc_law kV_law dc_law pm_law cd_law ct_law : Value}
    {odq1 odq2 : Option Addr} {slq1 slq2 : Array (Option Value)} {nq1 nq2 : Nat}
    {t_MOST_POSTS : Tok}
    {t_MOST_NODES : Tok}
    {t_MOST_GOALS : Tok}
    {t_MOST_LETTERS : Tok}
    (aC : PySem.W.nsIn K mainGlobals "Net" = some (some (.ref C)))
    (a_s_begin : PySem.W.nsIn K mainGlobals "_law_begin" = some (some (.ref f_s_begin)))
    (l_s_begin : K.lookup f_s_begin = some ⟨oc_s_begin, od_s_begin, .func (PySem.W.fnOf "_law_begin" "_law_begin" (defArgs s_begin) (defBody s_begin) (defScope s_begin) .none kV_s_begin dc_s_begin pm_s_begin an_s_begin cd_s_begin ct_s_begin), sl_s_begin⟩)
    (c_s_begin : PySem.W.codeIn K cd_s_begin "_law_begin" = true)
    (k_s_begin : PySem.W.keepIn K (.ref f_s_begin) = true)
    (a_s_blend : PySem.W.nsIn K mainGlobals "_law_blend" = some (some (.ref f_s_blend)))
    (l_s_blend : K.lookup f_s_blend = some ⟨oc_s_blend, od_s_blend, .func (PySem.W.fnOf "_law_blend" "_law_blend" (defArgs s_blend) (defBody s_blend) (defScope s_blend) .none kV_s_blend dc_s_blend pm_s_blend an_s_blend cd_s_blend ct_s_blend), sl_s_blend⟩)
    (c_s_blend : PySem.W.codeIn K cd_s_blend "_law_blend" = true)
    (k_s_blend : PySem.W.keepIn K (.ref f_s_blend) = true)
    (a_s_take : PySem.W.nsIn K mainGlobals "_law_take" = some (some (.ref f_s_take)))
    (l_s_take : K.lookup f_s_take = some ⟨oc_s_take, od_s_take, .func (PySem.W.fnOf "_law_take" "_law_take" (defArgs s_take) (defBody s_take) (defScope s_take) .none kV_s_take dc_s_take pm_s_take an_s_take cd_s_take ct_s_take), sl_s_take⟩)
    (c_s_take : PySem.W.codeIn K cd_s_take "_law_take" = true)
    (k_s_take : PySem.W.keepIn K (.ref f_s_take) = true)
    (a_s_pick : PySem.W.nsIn K mainGlobals "_law_pick" = some (some (.ref f_s_pick)))
    (l_s_pick : K.lookup f_s_pick = some ⟨oc_s_pick, od_s_pick, .func (PySem.W.fnOf "_law_pick" "_law_pick" (defArgs s_pick) (defBody s_pick) (defScope s_pick) .none kV_s_pick dc_s_pick pm_s_pick an_s_pick cd_s_pick ct_s_pick), sl_s_pick⟩)
    (c_s_pick : PySem.W.codeIn K cd_s_pick "_law_pick" = true)
    (k_s_pick : PySem.W.keepIn K (.ref f_s_pick) = true)
    (a_s_words : PySem.W.nsIn K mainGlobals "_law_words" = some (some (.ref f_s_words)))
    (l_s_words : K.lookup f_s_words = some ⟨oc_s_words, od_s_words, .func (PySem.W.fnOf "_law_words" "_law_words" (defArgs s_words) (defBody s_words) (defScope s_words) .none kV_s_words dc_s_words pm_s_words an_s_words cd_s_words ct_s_words), sl_s_words⟩)
    (c_s_words : PySem.W.codeIn K cd_s_words "_law_words" = true)
    (k_s_words : PySem.W.keepIn K (.ref f_s_words) = true)
    (a_s_pair_right : PySem.W.nsIn K mainGlobals "_law_pair_right" = some (some (.ref f_s_pair_right)))
    (l_s_pair_right : K.lookup f_s_pair_right = some ⟨oc_s_pair_right, od_s_pair_right, .func (PySem.W.fnOf "_law_pair_right" "_law_pair_right" (defArgs s_pair_right) (defBody s_pair_right) (defScope s_pair_right) .none kV_s_pair_right dc_s_pair_right pm_s_pair_right an_s_pair_right cd_s_pair_right ct_s_pair_right), sl_s_pair_right⟩)
    (c_s_pair_right : PySem.W.codeIn K cd_s_pair_right "_law_pair_right" = true)
    (k_s_pair_right : PySem.W.keepIn K (.ref f_s_pair_right) = true)
    (a_s_three_right : PySem.W.nsIn K mainGlobals "_law_three_right" = some (some (.ref f_s_three_right)))
    (l_s_three_right : K.lookup f_s_three_right = some ⟨oc_s_three_right, od_s_three_right, .func (PySem.W.fnOf "_law_three_right" "_law_three_right" (defArgs s_three_right) (defBody s_three_right) (defScope s_three_right) .none kV_s_three_right dc_s_three_right pm_s_three_right an_s_three_right cd_s_three_right ct_s_three_right), sl_s_three_right⟩)
    (c_s_three_right : PySem.W.codeIn K cd_s_three_right "_law_three_right" = true)
    (k_s_three_right : PySem.W.keepIn K (.ref f_s_three_right) = true)
    (a_s_goals_right : PySem.W.nsIn K mainGlobals "_law_goals_right" = some (some (.ref f_s_goals_right)))
    (l_s_goals_right : K.lookup f_s_goals_right = some ⟨oc_s_goals_right, od_s_goals_right, .func (PySem.W.fnOf "_law_goals_right" "_law_goals_right" (defArgs s_goals_right) (defBody s_goals_right) (defScope s_goals_right) .none kV_s_goals_right dc_s_goals_right pm_s_goals_right an_s_goals_right cd_s_goals_right ct_s_goals_right), sl_s_goals_right⟩)
    (c_s_goals_right : PySem.W.codeIn K cd_s_goals_right "_law_goals_right" = true)
    (k_s_goals_right : PySem.W.keepIn K (.ref f_s_goals_right) = true)
    (a_p_is_list : PySem.W.nsIn K mainGlobals "is_list" = some (some (.ref f_p_is_list)))
    (l_p_is_list : K.lookup f_p_is_list = some ⟨oc_p_is_list, od_p_is_list, .func (PySem.W.fnOf "is_list" "is_list" (defArgs p_is_list) (defBody p_is_list) (defScope p_is_list) .none kV_p_is_list dc_p_is_list pm_p_is_list an_p_is_list cd_p_is_list ct_p_is_list), sl_p_is_list⟩)
    (c_p_is_list : PySem.W.codeIn K cd_p_is_list "is_list" = true)
    (k_p_is_list : PySem.W.keepIn K (.ref f_p_is_list) = true)
    (a_p_is_name : PySem.W.nsIn K mainGlobals "is_name" = some (some (.ref f_p_is_name)))
    (l_p_is_name : K.lookup f_p_is_name = some ⟨oc_p_is_name, od_p_is_name, .func (PySem.W.fnOf "is_name" "is_name" (defArgs p_is_name) (defBody p_is_name) (defScope p_is_name) .none kV_p_is_name dc_p_is_name pm_p_is_name an_p_is_name cd_p_is_name ct_p_is_name), sl_p_is_name⟩)
    (c_p_is_name : PySem.W.codeIn K cd_p_is_name "is_name" = true)
    (k_p_is_name : PySem.W.keepIn K (.ref f_p_is_name) = true)
    (a_p_is_place : PySem.W.nsIn K mainGlobals "is_place" = some (some (.ref f_p_is_place)))
    (l_p_is_place : K.lookup f_p_is_place = some ⟨oc_p_is_place, od_p_is_place, .func (PySem.W.fnOf "is_place" "is_place" (defArgs p_is_place) (defBody p_is_place) (defScope p_is_place) .none kV_p_is_place dc_p_is_place pm_p_is_place an_p_is_place cd_p_is_place ct_p_is_place), sl_p_is_place⟩)
    (c_p_is_place : PySem.W.codeIn K cd_p_is_place "is_place" = true)
    (k_p_is_place : PySem.W.keepIn K (.ref f_p_is_place) = true)
    (a_p_is_table : PySem.W.nsIn K mainGlobals "is_table" = some (some (.ref f_p_is_table)))
    (l_p_is_table : K.lookup f_p_is_table = some ⟨oc_p_is_table, od_p_is_table, .func (PySem.W.fnOf "is_table" "is_table" (defArgs p_is_table) (defBody p_is_table) (defScope p_is_table) .none kV_p_is_table dc_p_is_table pm_p_is_table an_p_is_table cd_p_is_table ct_p_is_table), sl_p_is_table⟩)
    (c_p_is_table : PySem.W.codeIn K cd_p_is_table "is_table" = true)
    (k_p_is_table : PySem.W.keepIn K (.ref f_p_is_table) = true)
    (a_p_are_different : PySem.W.nsIn K mainGlobals "are_different" = some (some (.ref f_p_are_different)))
    (l_p_are_different : K.lookup f_p_are_different = some ⟨oc_p_are_different, od_p_are_different, .func (PySem.W.fnOf "are_different" "are_different" (defArgs p_are_different) (defBody p_are_different) (defScope p_are_different) .none kV_p_are_different dc_p_are_different pm_p_are_different an_p_are_different cd_p_are_different ct_p_are_different), sl_p_are_different⟩)
    (c_p_are_different : PySem.W.codeIn K cd_p_are_different "are_different" = true)
    (k_p_are_different : PySem.W.keepIn K (.ref f_p_are_different) = true)
    (a_p_are_nodes : PySem.W.nsIn K mainGlobals "are_nodes" = some (some (.ref f_p_are_nodes)))
    (l_p_are_nodes : K.lookup f_p_are_nodes = some ⟨oc_p_are_nodes, od_p_are_nodes, .func (PySem.W.fnOf "are_nodes" "are_nodes" (defArgs p_are_nodes) (defBody p_are_nodes) (defScope p_are_nodes) .none kV_p_are_nodes dc_p_are_nodes pm_p_are_nodes an_p_are_nodes cd_p_are_nodes ct_p_are_nodes), sl_p_are_nodes⟩)
    (c_p_are_nodes : PySem.W.codeIn K cd_p_are_nodes "are_nodes" = true)
    (k_p_are_nodes : PySem.W.keepIn K (.ref f_p_are_nodes) = true)
    (a_p_is_pair_of_dicts : PySem.W.nsIn K mainGlobals "is_pair_of_dicts" = some (some (.ref f_p_is_pair_of_dicts)))
    (l_p_is_pair_of_dicts : K.lookup f_p_is_pair_of_dicts = some ⟨oc_p_is_pair_of_dicts, od_p_is_pair_of_dicts, .func (PySem.W.fnOf "is_pair_of_dicts" "is_pair_of_dicts" (defArgs p_is_pair_of_dicts) (defBody p_is_pair_of_dicts) (defScope p_is_pair_of_dicts) .none kV_p_is_pair_of_dicts dc_p_is_pair_of_dicts pm_p_is_pair_of_dicts an_p_is_pair_of_dicts cd_p_is_pair_of_dicts ct_p_is_pair_of_dicts), sl_p_is_pair_of_dicts⟩)
    (c_p_is_pair_of_dicts : PySem.W.codeIn K cd_p_is_pair_of_dicts "is_pair_of_dicts" = true)
    (k_p_is_pair_of_dicts : PySem.W.keepIn K (.ref f_p_is_pair_of_dicts) = true)
    (a_p_are_tables : PySem.W.nsIn K mainGlobals "are_tables" = some (some (.ref f_p_are_tables)))
    (l_p_are_tables : K.lookup f_p_are_tables = some ⟨oc_p_are_tables, od_p_are_tables, .func (PySem.W.fnOf "are_tables" "are_tables" (defArgs p_are_tables) (defBody p_are_tables) (defScope p_are_tables) .none kV_p_are_tables dc_p_are_tables pm_p_are_tables an_p_are_tables cd_p_are_tables ct_p_are_tables), sl_p_are_tables⟩)
    (c_p_are_tables : PySem.W.codeIn K cd_p_are_tables "are_tables" = true)
    (k_p_are_tables : PySem.W.keepIn K (.ref f_p_are_tables) = true)
    (a_p_check_net : PySem.W.nsIn K mainGlobals "check_net" = some (some (.ref f_p_check_net)))
    (l_p_check_net : K.lookup f_p_check_net = some ⟨oc_p_check_net, od_p_check_net, .func (PySem.W.fnOf "check_net" "check_net" (defArgs p_check_net) (defBody p_check_net) (defScope p_check_net) .none kV_p_check_net dc_p_check_net pm_p_check_net an_p_check_net cd_p_check_net ct_p_check_net), sl_p_check_net⟩)
    (c_p_check_net : PySem.W.codeIn K cd_p_check_net "check_net" = true)
    (k_p_check_net : PySem.W.keepIn K (.ref f_p_check_net) = true)
    (a_p_check_goal : PySem.W.nsIn K mainGlobals "check_goal" = some (some (.ref f_p_check_goal)))
    (l_p_check_goal : K.lookup f_p_check_goal = some ⟨oc_p_check_goal, od_p_check_goal, .func (PySem.W.fnOf "check_goal" "check_goal" (defArgs p_check_goal) (defBody p_check_goal) (defScope p_check_goal) .none kV_p_check_goal dc_p_check_goal pm_p_check_goal an_p_check_goal cd_p_check_goal ct_p_check_goal), sl_p_check_goal⟩)
    (c_p_check_goal : PySem.W.codeIn K cd_p_check_goal "check_goal" = true)
    (k_p_check_goal : PySem.W.keepIn K (.ref f_p_check_goal) = true)
    (a_p_check_lot : PySem.W.nsIn K mainGlobals "check_lot" = some (some (.ref f_p_check_lot)))
    (l_p_check_lot : K.lookup f_p_check_lot = some ⟨oc_p_check_lot, od_p_check_lot, .func (PySem.W.fnOf "check_lot" "check_lot" (defArgs p_check_lot) (defBody p_check_lot) (defScope p_check_lot) .none kV_p_check_lot dc_p_check_lot pm_p_check_lot an_p_check_lot cd_p_check_lot ct_p_check_lot), sl_p_check_lot⟩)
    (c_p_check_lot : PySem.W.codeIn K cd_p_check_lot "check_lot" = true)
    (k_p_check_lot : PySem.W.keepIn K (.ref f_p_check_lot) = true)
    (a_p_check_round : PySem.W.nsIn K mainGlobals "check_round" = some (some (.ref f_p_check_round)))
    (l_p_check_round : K.lookup f_p_check_round = some ⟨oc_p_check_round, od_p_check_round, .func (PySem.W.fnOf "check_round" "check_round" (defArgs p_check_round) (defBody p_check_round) (defScope p_check_round) .none kV_p_check_round dc_p_check_round pm_p_check_round an_p_check_round cd_p_check_round ct_p_check_round), sl_p_check_round⟩)
    (c_p_check_round : PySem.W.codeIn K cd_p_check_round "check_round" = true)
    (k_p_check_round : PySem.W.keepIn K (.ref f_p_check_round) = true)
    (a_p_is_lot_of : PySem.W.nsIn K mainGlobals "is_lot_of" = some (some (.ref f_p_is_lot_of)))
    (l_p_is_lot_of : K.lookup f_p_is_lot_of = some ⟨oc_p_is_lot_of, od_p_is_lot_of, .func (PySem.W.fnOf "is_lot_of" "is_lot_of" (defArgs p_is_lot_of) (defBody p_is_lot_of) (defScope p_is_lot_of) .none kV_p_is_lot_of dc_p_is_lot_of pm_p_is_lot_of an_p_is_lot_of cd_p_is_lot_of ct_p_is_lot_of), sl_p_is_lot_of⟩)
    (c_p_is_lot_of : PySem.W.codeIn K cd_p_is_lot_of "is_lot_of" = true)
    (k_p_is_lot_of : PySem.W.keepIn K (.ref f_p_is_lot_of) = true)
    (a_g_goals : PySem.W.findIn K (.ref C) "goals" = some (some (.ref p_g_goals)))
    (ge_g_goals : PySem.W.specialIn K (.ref p_g_goals) "__get__" = some (some (.builtin "property.__get__")))
    (ta_g_goals : PySem.W.takesIn K (.ref p_g_goals) = some true)
    (re_g_goals : PySem.W.recIn K p_g_goals "property" = some (.ref f_g_goals :: r_g_goals))
    (l_g_goals : K.lookup f_g_goals = some ⟨oc_g_goals, od_g_goals, .func (PySem.W.fnOf "goals" "Net.goals" (defArgs c_Net_goals) (defBody c_Net_goals) (defScope c_Net_goals) .none kV_g_goals dc_g_goals pm_g_goals an_g_goals cd_g_goals ct_g_goals), sl_g_goals⟩)
    (c_g_goals : PySem.W.codeIn K cd_g_goals "Net.goals" = true)
    (k_g_goals : PySem.W.keepIn K (.ref f_g_goals) = true)
    (a_g_nodes : PySem.W.findIn K (.ref C) "nodes" = some (some (.ref p_g_nodes)))
    (ge_g_nodes : PySem.W.specialIn K (.ref p_g_nodes) "__get__" = some (some (.builtin "property.__get__")))
    (ta_g_nodes : PySem.W.takesIn K (.ref p_g_nodes) = some true)
    (re_g_nodes : PySem.W.recIn K p_g_nodes "property" = some (.ref f_g_nodes :: r_g_nodes))
    (l_g_nodes : K.lookup f_g_nodes = some ⟨oc_g_nodes, od_g_nodes, .func (PySem.W.fnOf "nodes" "Net.nodes" (defArgs c_Net_nodes) (defBody c_Net_nodes) (defScope c_Net_nodes) .none kV_g_nodes dc_g_nodes pm_g_nodes an_g_nodes cd_g_nodes ct_g_nodes), sl_g_nodes⟩)
    (c_g_nodes : PySem.W.codeIn K cd_g_nodes "Net.nodes" = true)
    (k_g_nodes : PySem.W.keepIn K (.ref f_g_nodes) = true)
    (a_g_changing : PySem.W.findIn K (.ref C) "changing" = some (some (.ref p_g_changing)))
    (ge_g_changing : PySem.W.specialIn K (.ref p_g_changing) "__get__" = some (some (.builtin "property.__get__")))
    (ta_g_changing : PySem.W.takesIn K (.ref p_g_changing) = some true)
    (re_g_changing : PySem.W.recIn K p_g_changing "property" = some (.ref f_g_changing :: r_g_changing))
    (l_g_changing : K.lookup f_g_changing = some ⟨oc_g_changing, od_g_changing, .func (PySem.W.fnOf "changing" "Net.changing" (defArgs c_Net_changing) (defBody c_Net_changing) (defScope c_Net_changing) .none kV_g_changing dc_g_changing pm_g_changing an_g_changing cd_g_changing ct_g_changing), sl_g_changing⟩)
    (c_g_changing : PySem.W.codeIn K cd_g_changing "Net.changing" = true)
    (k_g_changing : PySem.W.keepIn K (.ref f_g_changing) = true)
    (a_p_check_node : PySem.W.nsIn K mainGlobals "check_node" = some (some (.ref f_p_check_node)))
    (l_p_check_node : K.lookup f_p_check_node = some ⟨oc_p_check_node, od_p_check_node, .func (PySem.W.fnOf "check_node" "check_node" (defArgs p_check_node) (defBody p_check_node) (defScope p_check_node) .none kV_p_check_node dc_p_check_node pm_p_check_node an_p_check_node cd_p_check_node ct_p_check_node), sl_p_check_node⟩)
    (c_p_check_node : PySem.W.codeIn K cd_p_check_node "check_node" = true)
    (k_p_check_node : PySem.W.keepIn K (.ref f_p_check_node) = true)
    (a_p_followed : PySem.W.nsIn K mainGlobals "followed" = some (some (.ref f_p_followed)))
    (l_p_followed : K.lookup f_p_followed = some ⟨oc_p_followed, od_p_followed, .func (PySem.W.fnOf "followed" "followed" (defArgs p_followed) (defBody p_followed) (defScope p_followed) .none kV_p_followed dc_p_followed pm_p_followed an_p_followed cd_p_followed ct_p_followed), sl_p_followed⟩)
    (c_p_followed : PySem.W.codeIn K cd_p_followed "followed" = true)
    (k_p_followed : PySem.W.keepIn K (.ref f_p_followed) = true)
    (a_p_ways : PySem.W.nsIn K mainGlobals "ways" = some (some (.ref f_p_ways)))
    (l_p_ways : K.lookup f_p_ways = some ⟨oc_p_ways, od_p_ways, .func (PySem.W.fnOf "ways" "ways" (defArgs p_ways) (defBody p_ways) (defScope p_ways) .none kV_p_ways dc_p_ways pm_p_ways an_p_ways cd_p_ways ct_p_ways), sl_p_ways⟩)
    (c_p_ways : PySem.W.codeIn K cd_p_ways "ways" = true)
    (k_p_ways : PySem.W.keepIn K (.ref f_p_ways) = true)
    (a_p_ring : PySem.W.nsIn K mainGlobals "ring" = some (some (.ref f_p_ring)))
    (l_p_ring : K.lookup f_p_ring = some ⟨oc_p_ring, od_p_ring, .func (PySem.W.fnOf "ring" "ring" (defArgs p_ring) (defBody p_ring) (defScope p_ring) .none kV_p_ring dc_p_ring pm_p_ring an_p_ring cd_p_ring ct_p_ring), sl_p_ring⟩)
    (c_p_ring : PySem.W.codeIn K cd_p_ring "ring" = true)
    (k_p_ring : PySem.W.keepIn K (.ref f_p_ring) = true)
    (a_p_least_ring : PySem.W.nsIn K mainGlobals "least_ring" = some (some (.ref f_p_least_ring)))
    (l_p_least_ring : K.lookup f_p_least_ring = some ⟨oc_p_least_ring, od_p_least_ring, .func (PySem.W.fnOf "least_ring" "least_ring" (defArgs p_least_ring) (defBody p_least_ring) (defScope p_least_ring) .none kV_p_least_ring dc_p_least_ring pm_p_least_ring an_p_least_ring cd_p_least_ring ct_p_least_ring), sl_p_least_ring⟩)
    (c_p_least_ring : PySem.W.codeIn K cd_p_least_ring "least_ring" = true)
    (k_p_least_ring : PySem.W.keepIn K (.ref f_p_least_ring) = true)
    (a_p_ranks : PySem.W.nsIn K mainGlobals "ranks" = some (some (.ref f_p_ranks)))
    (l_p_ranks : K.lookup f_p_ranks = some ⟨oc_p_ranks, od_p_ranks, .func (PySem.W.fnOf "ranks" "ranks" (defArgs p_ranks) (defBody p_ranks) (defScope p_ranks) .none kV_p_ranks dc_p_ranks pm_p_ranks an_p_ranks cd_p_ranks ct_p_ranks), sl_p_ranks⟩)
    (c_p_ranks : PySem.W.codeIn K cd_p_ranks "ranks" = true)
    (k_p_ranks : PySem.W.keepIn K (.ref f_p_ranks) = true)
    (a_p_least_ranks : PySem.W.nsIn K mainGlobals "least_ranks" = some (some (.ref f_p_least_ranks)))
    (l_p_least_ranks : K.lookup f_p_least_ranks = some ⟨oc_p_least_ranks, od_p_least_ranks, .func (PySem.W.fnOf "least_ranks" "least_ranks" (defArgs p_least_ranks) (defBody p_least_ranks) (defScope p_least_ranks) .none kV_p_least_ranks dc_p_least_ranks pm_p_least_ranks an_p_least_ranks cd_p_least_ranks ct_p_least_ranks), sl_p_least_ranks⟩)
    (c_p_least_ranks : PySem.W.codeIn K cd_p_least_ranks "least_ranks" = true)
    (k_p_least_ranks : PySem.W.keepIn K (.ref f_p_least_ranks) = true)
    (a_p_led : PySem.W.nsIn K mainGlobals "led" = some (some (.ref f_p_led)))
    (l_p_led : K.lookup f_p_led = some ⟨oc_p_led, od_p_led, .func (PySem.W.fnOf "led" "led" (defArgs p_led) (defBody p_led) (defScope p_led) .none kV_p_led dc_p_led pm_p_led an_p_led cd_p_led ct_p_led), sl_p_led⟩)
    (c_p_led : PySem.W.codeIn K cd_p_led "led" = true)
    (k_p_led : PySem.W.keepIn K (.ref f_p_led) = true)
    (a_p_reached : PySem.W.nsIn K mainGlobals "reached" = some (some (.ref f_p_reached)))
    (l_p_reached : K.lookup f_p_reached = some ⟨oc_p_reached, od_p_reached, .func (PySem.W.fnOf "reached" "reached" (defArgs p_reached) (defBody p_reached) (defScope p_reached) .none kV_p_reached dc_p_reached pm_p_reached an_p_reached cd_p_reached ct_p_reached), sl_p_reached⟩)
    (c_p_reached : PySem.W.codeIn K cd_p_reached "reached" = true)
    (k_p_reached : PySem.W.keepIn K (.ref f_p_reached) = true)
    (a_p_nodes_reached : PySem.W.nsIn K mainGlobals "nodes_reached" = some (some (.ref f_p_nodes_reached)))
    (l_p_nodes_reached : K.lookup f_p_nodes_reached = some ⟨oc_p_nodes_reached, od_p_nodes_reached, .func (PySem.W.fnOf "nodes_reached" "nodes_reached" (defArgs p_nodes_reached) (defBody p_nodes_reached) (defScope p_nodes_reached) .none kV_p_nodes_reached dc_p_nodes_reached pm_p_nodes_reached an_p_nodes_reached cd_p_nodes_reached ct_p_nodes_reached), sl_p_nodes_reached⟩)
    (c_p_nodes_reached : PySem.W.codeIn K cd_p_nodes_reached "nodes_reached" = true)
    (k_p_nodes_reached : PySem.W.keepIn K (.ref f_p_nodes_reached) = true)
    (a_p_twice : PySem.W.nsIn K mainGlobals "twice" = some (some (.ref f_p_twice)))
    (l_p_twice : K.lookup f_p_twice = some ⟨oc_p_twice, od_p_twice, .func (PySem.W.fnOf "twice" "twice" (defArgs p_twice) (defBody p_twice) (defScope p_twice) .none kV_p_twice dc_p_twice pm_p_twice an_p_twice cd_p_twice ct_p_twice), sl_p_twice⟩)
    (c_p_twice : PySem.W.codeIn K cd_p_twice "twice" = true)
    (k_p_twice : PySem.W.keepIn K (.ref f_p_twice) = true)
    (a_p_with_moments : PySem.W.nsIn K mainGlobals "with_moments" = some (some (.ref f_p_with_moments)))
    (l_p_with_moments : K.lookup f_p_with_moments = some ⟨oc_p_with_moments, od_p_with_moments, .func (PySem.W.fnOf "with_moments" "with_moments" (defArgs p_with_moments) (defBody p_with_moments) (defScope p_with_moments) .none kV_p_with_moments dc_p_with_moments pm_p_with_moments an_p_with_moments cd_p_with_moments ct_p_with_moments), sl_p_with_moments⟩)
    (c_p_with_moments : PySem.W.codeIn K cd_p_with_moments "with_moments" = true)
    (k_p_with_moments : PySem.W.keepIn K (.ref f_p_with_moments) = true)
    (a_p_joined : PySem.W.nsIn K mainGlobals "joined" = some (some (.ref f_p_joined)))
    (l_p_joined : K.lookup f_p_joined = some ⟨oc_p_joined, od_p_joined, .func (PySem.W.fnOf "joined" "joined" (defArgs p_joined) (defBody p_joined) (defScope p_joined) .none kV_p_joined dc_p_joined pm_p_joined an_p_joined cd_p_joined ct_p_joined), sl_p_joined⟩)
    (c_p_joined : PySem.W.codeIn K cd_p_joined "joined" = true)
    (k_p_joined : PySem.W.keepIn K (.ref f_p_joined) = true)
    (a_p_ways_at : PySem.W.nsIn K mainGlobals "ways_at" = some (some (.ref f_p_ways_at)))
    (l_p_ways_at : K.lookup f_p_ways_at = some ⟨oc_p_ways_at, od_p_ways_at, .func (PySem.W.fnOf "ways_at" "ways_at" (defArgs p_ways_at) (defBody p_ways_at) (defScope p_ways_at) .none kV_p_ways_at dc_p_ways_at pm_p_ways_at an_p_ways_at cd_p_ways_at ct_p_ways_at), sl_p_ways_at⟩)
    (c_p_ways_at : PySem.W.codeIn K cd_p_ways_at "ways_at" = true)
    (k_p_ways_at : PySem.W.keepIn K (.ref f_p_ways_at) = true)
    (a_p_nodes_behind : PySem.W.nsIn K mainGlobals "nodes_behind" = some (some (.ref f_p_nodes_behind)))
    (l_p_nodes_behind : K.lookup f_p_nodes_behind = some ⟨oc_p_nodes_behind, od_p_nodes_behind, .func (PySem.W.fnOf "nodes_behind" "nodes_behind" (defArgs p_nodes_behind) (defBody p_nodes_behind) (defScope p_nodes_behind) .none kV_p_nodes_behind dc_p_nodes_behind pm_p_nodes_behind an_p_nodes_behind cd_p_nodes_behind ct_p_nodes_behind), sl_p_nodes_behind⟩)
    (c_p_nodes_behind : PySem.W.codeIn K cd_p_nodes_behind "nodes_behind" = true)
    (k_p_nodes_behind : PySem.W.keepIn K (.ref f_p_nodes_behind) = true)
    (a_g_tables : PySem.W.findIn K (.ref C) "tables" = some (some (.ref p_g_tables)))
    (ge_g_tables : PySem.W.specialIn K (.ref p_g_tables) "__get__" = some (some (.builtin "property.__get__")))
    (ta_g_tables : PySem.W.takesIn K (.ref p_g_tables) = some true)
    (re_g_tables : PySem.W.recIn K p_g_tables "property" = some (.ref f_g_tables :: r_g_tables))
    (l_g_tables : K.lookup f_g_tables = some ⟨oc_g_tables, od_g_tables, .func (PySem.W.fnOf "tables" "Net.tables" (defArgs c_Net_tables) (defBody c_Net_tables) (defScope c_Net_tables) .none kV_g_tables dc_g_tables pm_g_tables an_g_tables cd_g_tables ct_g_tables), sl_g_tables⟩)
    (c_g_tables : PySem.W.codeIn K cd_g_tables "Net.tables" = true)
    (k_g_tables : PySem.W.keepIn K (.ref f_g_tables) = true)
    (a_m_way : PySem.W.findIn K (.ref C) "way" = some (some (.ref f_m_way)))
    (i_m_way : PySem.W.isFn K (.ref f_m_way) = true)
    (l_m_way : K.lookup f_m_way = some ⟨oc_m_way, od_m_way, .func (PySem.W.fnOf "way" "Net.way" (defArgs c_Net_way) (defBody c_Net_way) (defScope c_Net_way) .none kV_m_way dc_m_way pm_m_way an_m_way cd_m_way ct_m_way), sl_m_way⟩)
    (c_m_way : PySem.W.codeIn K cd_m_way "Net.way" = true)
    (k_m_way : PySem.W.keepIn K (.ref f_m_way) = true)
    (a_p_depths : PySem.W.nsIn K mainGlobals "depths" = some (some (.ref f_p_depths)))
    (l_p_depths : K.lookup f_p_depths = some ⟨oc_p_depths, od_p_depths, .func (PySem.W.fnOf "depths" "depths" (defArgs p_depths) (defBody p_depths) (defScope p_depths) .none kV_p_depths dc_p_depths pm_p_depths an_p_depths cd_p_depths ct_p_depths), sl_p_depths⟩)
    (c_p_depths : PySem.W.codeIn K cd_p_depths "depths" = true)
    (k_p_depths : PySem.W.keepIn K (.ref f_p_depths) = true)
    (a_p_is_sound : PySem.W.nsIn K mainGlobals "is_sound" = some (some (.ref f_p_is_sound)))
    (l_p_is_sound : K.lookup f_p_is_sound = some ⟨oc_p_is_sound, od_p_is_sound, .func (PySem.W.fnOf "is_sound" "is_sound" (defArgs p_is_sound) (defBody p_is_sound) (defScope p_is_sound) .none kV_p_is_sound dc_p_is_sound pm_p_is_sound an_p_is_sound cd_p_is_sound ct_p_is_sound), sl_p_is_sound⟩)
    (c_p_is_sound : PySem.W.codeIn K cd_p_is_sound "is_sound" = true)
    (k_p_is_sound : PySem.W.keepIn K (.ref f_p_is_sound) = true)
    (a_p_goes_on : PySem.W.nsIn K mainGlobals "goes_on" = some (some (.ref f_p_goes_on)))
    (l_p_goes_on : K.lookup f_p_goes_on = some ⟨oc_p_goes_on, od_p_goes_on, .func (PySem.W.fnOf "goes_on" "goes_on" (defArgs p_goes_on) (defBody p_goes_on) (defScope p_goes_on) .none kV_p_goes_on dc_p_goes_on pm_p_goes_on an_p_goes_on cd_p_goes_on ct_p_goes_on), sl_p_goes_on⟩)
    (c_p_goes_on : PySem.W.codeIn K cd_p_goes_on "goes_on" = true)
    (k_p_goes_on : PySem.W.keepIn K (.ref f_p_goes_on) = true)
    (a_p_is_place_with_moment : PySem.W.nsIn K mainGlobals "is_place_with_moment" = some (some (.ref f_p_is_place_with_moment)))
    (l_p_is_place_with_moment : K.lookup f_p_is_place_with_moment = some ⟨oc_p_is_place_with_moment, od_p_is_place_with_moment, .func (PySem.W.fnOf "is_place_with_moment" "is_place_with_moment" (defArgs p_is_place_with_moment) (defBody p_is_place_with_moment) (defScope p_is_place_with_moment) .none kV_p_is_place_with_moment dc_p_is_place_with_moment pm_p_is_place_with_moment an_p_is_place_with_moment cd_p_is_place_with_moment ct_p_is_place_with_moment), sl_p_is_place_with_moment⟩)
    (c_p_is_place_with_moment : PySem.W.codeIn K cd_p_is_place_with_moment "is_place_with_moment" = true)
    (k_p_is_place_with_moment : PySem.W.keepIn K (.ref f_p_is_place_with_moment) = true)
    (a_p_is_moving : PySem.W.nsIn K mainGlobals "is_moving" = some (some (.ref f_p_is_moving)))
    (l_p_is_moving : K.lookup f_p_is_moving = some ⟨oc_p_is_moving, od_p_is_moving, .func (PySem.W.fnOf "is_moving" "is_moving" (defArgs p_is_moving) (defBody p_is_moving) (defScope p_is_moving) .none kV_p_is_moving dc_p_is_moving pm_p_is_moving an_p_is_moving cd_p_is_moving ct_p_is_moving), sl_p_is_moving⟩)
    (c_p_is_moving : PySem.W.codeIn K cd_p_is_moving "is_moving" = true)
    (k_p_is_moving : PySem.W.keepIn K (.ref f_p_is_moving) = true)
    (a_law : PySem.W.nsIn K mainGlobals "law" = some (some (.ref f_law)))
    (l_law : K.lookup f_law = some ⟨oc_law, od_law, .func (PySem.W.fnOf "law" "law" (defArgs s_law) (defBody s_law) (defScope s_law) .none kV_law dc_law pm_law an_law cd_law ct_law), sl_law⟩)
    (c_law : PySem.W.codeIn K cd_law "law" = true)
    (k_law : PySem.W.keepIn K (.ref f_law) = true)
    (aI : PySem.W.findIn K (.ref C) "__init__" = some (some (.ref fI)))
    (iI : PySem.W.isFn K (.ref fI) = true)
    (lI : K.lookup fI = some ⟨ocI, odI, .func (PySem.W.fnOf "__init__" "Net.__init__" (defArgs c_Net_init) (defBody c_Net_init) (defScope c_Net_init) (.ref TI) kVI dcI pmI anI cdI ctI), slI⟩)
    (cI : PySem.W.codeIn K cdI "Net.__init__" = true)
    (kI : PySem.W.keepIn K (.ref fI) = true)
    (lT : K.lookup TI = some ⟨ocT, odT, .seq [Value.ref q1, Value.ref q2].toArray nT, slT⟩)
    (lq1 : K.lookup q1 = some ⟨.type "tuple", odq1, .seq #[] nq1, slq1⟩)
    (lq2 : K.lookup q2 = some ⟨.type "tuple", odq2, .seq #[] nq2, slq2⟩)
    (pg : PySem.W.plainGet K C Str.empty = true)
    (hd : PySem.W.hasDictIn K C = true)
    (po : PySem.W.plainOver K C = true)
    (sa : PySem.W.findIn K (.ref C) "__setattr__" = some (some (.builtin "object.__setattr__")))
    (mk : PySem.W.makesIn K C = true)
    (kc : PySem.W.keepIn K (.ref C) = true)
    (nT_ : PySem.W.findIn K (.ref C) "_tables" = some none)
    (nN_ : PySem.W.findIn K (.ref C) "_nodes" = some none)
    (nS_ : PySem.W.findIn K (.ref C) "_sources" = some none)
    (nP_ : PySem.W.findIn K (.ref C) "_posts" = some none)
    (ha : PySem.W.findIn K (.ref C) "__class__" = some (some (.builtin "object.__class__")))
    (hn : PySem.W.specialIn K (.builtin "object.__class__") "__get__" = some (some (.builtin "getset_descriptor.__get__")))
    (hk : PySem.W.takesIn K (.builtin "object.__class__") = some true)
    (hm : PySem.W.mroIn K C (.type "object") = some true)
    (v_MOST_POSTS : PySem.W.nsIn K mainGlobals "MOST_POSTS" = some (some (.int 2 t_MOST_POSTS)))
    (v_MOST_NODES : PySem.W.nsIn K mainGlobals "MOST_NODES" = some (some (.int 6 t_MOST_NODES)))
    (v_MOST_GOALS : PySem.W.nsIn K mainGlobals "MOST_GOALS" = some (some (.int 2 t_MOST_GOALS)))
    (v_MOST_LETTERS : PySem.W.nsIn K mainGlobals "MOST_LETTERS" = some (some (.int 6 t_MOST_LETTERS)))
    (z_int : PySem.W.nsIn K mainGlobals "int" = some none)
    (z_len : PySem.W.nsIn K mainGlobals "len" = some none)
    (z_abs : PySem.W.nsIn K mainGlobals "abs" = some none)
    (z_list : PySem.W.nsIn K mainGlobals "list" = some none)
    (z_dict : PySem.W.nsIn K mainGlobals "dict" = some none)
    (z_sorted : PySem.W.nsIn K mainGlobals "sorted" = some none)
    (z_range : PySem.W.nsIn K mainGlobals "range" = some none)
    (z_isinstance : PySem.W.nsIn K mainGlobals "isinstance" = some none)
    (z_str : PySem.W.nsIn K mainGlobals "str" = some none)
    (z_tuple : PySem.W.nsIn K mainGlobals "tuple" = some none)
    (z_all : PySem.W.nsIn K mainGlobals "all" = some none)
    (z_any : PySem.W.nsIn K mainGlobals "any" = some none)
    (z_set : PySem.W.nsIn K mainGlobals "set" = some none)
    (z_enumerate : PySem.W.nsIn K mainGlobals "enumerate" = some none)
    (z_min : PySem.W.nsIn K mainGlobals "min" = some none)
    (z_repr : PySem.W.nsIn K mainGlobals "repr" = some none)
    (z_max : PySem.W.nsIn K mainGlobals "max" = some none)
    (z_zip : PySem.W.nsIn K mainGlobals "zip" = some none)
    : ∃ fd : FuncData, (∀ (s : Shared) (v : Value), BindsTo s fd ⟨[v], []⟩ [("script", v)]) ∧ ∀ base : Heap, K.In base → base.Ns mainGlobals mg → FnG P w K mg base CX0 9 fa fd ["script"] (spLaw K) := by
  have e := hfa.symm.trans (PySem.W.mg_of X G a_law)
  cases e
  have T : NetTxt K C := ⟨⟨pg, hd, po, sa⟩, nT_, nN_, nS_, nP_⟩
  have Is : NetIsi K C := ⟨ha, hn, hk, hm, if_pos (beq_self_eq_true _)⟩
  have mNet := PySem.W.mg_of X G aC
  have F_s_begin := fun_mk (st := s_begin) l_s_begin c_s_begin k_s_begin
  have b_s_begin := F_s_begin.binds (ps := ["script"]) fun _ _ _ _ _ _ us hl => match us, hl with | [_], _ => rfl
  have g_s_begin := PySem.W.mg_of X G a_s_begin
  have F_s_blend := fun_mk (st := s_blend) l_s_blend c_s_blend k_s_blend
  have b_s_blend := F_s_blend.binds (ps := ["draw"]) fun _ _ _ _ _ _ us hl => match us, hl with | [_], _ => rfl
  have g_s_blend := PySem.W.mg_of X G a_s_blend
  have F_s_take := fun_mk (st := s_take) l_s_take c_s_take k_s_take
  have b_s_take := F_s_take.binds (ps := ["draw", "size"]) fun _ _ _ _ _ _ us hl => match us, hl with | [_, _], _ => rfl
  have g_s_take := PySem.W.mg_of X G a_s_take
  have F_s_pick := fun_mk (st := s_pick) l_s_pick c_s_pick k_s_pick
  have b_s_pick := F_s_pick.binds (ps := ["draw", "some"]) fun _ _ _ _ _ _ us hl => match us, hl with | [_, _], _ => rfl
  have g_s_pick := PySem.W.mg_of X G a_s_pick
  have F_s_words := fun_mk (st := s_words) l_s_words c_s_words k_s_words
  have b_s_words := F_s_words.binds (ps := ["draw", "count"]) fun _ _ _ _ _ _ us hl => match us, hl with | [_, _], _ => rfl
  have g_s_words := PySem.W.mg_of X G a_s_words
  have F_s_pair_right := fun_mk (st := s_pair_right) l_s_pair_right c_s_pair_right k_s_pair_right
  have b_s_pair_right := F_s_pair_right.binds (ps := ["a", "b", "end"]) fun _ _ _ _ _ _ us hl => match us, hl with | [_, _, _], _ => rfl
  have g_s_pair_right := PySem.W.mg_of X G a_s_pair_right
  have F_s_three_right := fun_mk (st := s_three_right) l_s_three_right c_s_three_right k_s_three_right
  have b_s_three_right := F_s_three_right.binds (ps := ["a", "b", "c", "end"]) fun _ _ _ _ _ _ us hl => match us, hl with | [_, _, _, _], _ => rfl
  have g_s_three_right := PySem.W.mg_of X G a_s_three_right
  have F_s_goals_right := fun_mk (st := s_goals_right) l_s_goals_right c_s_goals_right k_s_goals_right
  have b_s_goals_right := F_s_goals_right.binds (ps := ["a", "b", "end", "other"]) fun _ _ _ _ _ _ us hl => match us, hl with | [_, _, _, _], _ => rfl
  have g_s_goals_right := PySem.W.mg_of X G a_s_goals_right
  have F_p_is_list := fun_mk (st := p_is_list) l_p_is_list c_p_is_list k_p_is_list
  have b_p_is_list := F_p_is_list.binds (ps := ["value"]) fun _ _ _ _ _ _ us hl => match us, hl with | [_], _ => rfl
  have g_p_is_list := PySem.W.mg_of X G a_p_is_list
  have F_p_is_name := fun_mk (st := p_is_name) l_p_is_name c_p_is_name k_p_is_name
  have b_p_is_name := F_p_is_name.binds (ps := ["value"]) fun _ _ _ _ _ _ us hl => match us, hl with | [_], _ => rfl
  have g_p_is_name := PySem.W.mg_of X G a_p_is_name
  have F_p_is_place := fun_mk (st := p_is_place) l_p_is_place c_p_is_place k_p_is_place
  have b_p_is_place := F_p_is_place.binds (ps := ["value", "node", "nodes", "goal"]) fun _ _ _ _ _ _ us hl => match us, hl with | [_, _, _, _], _ => rfl
  have g_p_is_place := PySem.W.mg_of X G a_p_is_place
  have F_p_is_table := fun_mk (st := p_is_table) l_p_is_table c_p_is_table k_p_is_table
  have b_p_is_table := F_p_is_table.binds (ps := ["table", "nodes", "goal"]) fun _ _ _ _ _ _ us hl => match us, hl with | [_, _, _], _ => rfl
  have g_p_is_table := PySem.W.mg_of X G a_p_is_table
  have F_p_are_different := fun_mk (st := p_are_different) l_p_are_different c_p_are_different k_p_are_different
  have b_p_are_different := F_p_are_different.binds (ps := ["value", "nodes"]) fun _ _ _ _ _ _ us hl => match us, hl with | [_, _], _ => rfl
  have g_p_are_different := PySem.W.mg_of X G a_p_are_different
  have F_p_are_nodes := fun_mk (st := p_are_nodes) l_p_are_nodes c_p_are_nodes k_p_are_nodes
  have b_p_are_nodes := F_p_are_nodes.binds (ps := ["names", "goals"]) fun _ _ _ _ _ _ us hl => match us, hl with | [_, _], _ => rfl
  have g_p_are_nodes := PySem.W.mg_of X G a_p_are_nodes
  have F_p_is_pair_of_dicts := fun_mk (st := p_is_pair_of_dicts) l_p_is_pair_of_dicts c_p_is_pair_of_dicts k_p_is_pair_of_dicts
  have b_p_is_pair_of_dicts := F_p_is_pair_of_dicts.binds (ps := ["value"]) fun _ _ _ _ _ _ us hl => match us, hl with | [_], _ => rfl
  have g_p_is_pair_of_dicts := PySem.W.mg_of X G a_p_is_pair_of_dicts
  have F_p_are_tables := fun_mk (st := p_are_tables) l_p_are_tables c_p_are_tables k_p_are_tables
  have b_p_are_tables := F_p_are_tables.binds (ps := ["value"]) fun _ _ _ _ _ _ us hl => match us, hl with | [_], _ => rfl
  have g_p_are_tables := PySem.W.mg_of X G a_p_are_tables
  have F_p_check_net := fun_mk (st := p_check_net) l_p_check_net c_p_check_net k_p_check_net
  have b_p_check_net := F_p_check_net.binds (ps := ["net"]) fun _ _ _ _ _ _ us hl => match us, hl with | [_], _ => rfl
  have g_p_check_net := PySem.W.mg_of X G a_p_check_net
  have F_p_check_goal := fun_mk (st := p_check_goal) l_p_check_goal c_p_check_goal k_p_check_goal
  have b_p_check_goal := F_p_check_goal.binds (ps := ["net", "goal"]) fun _ _ _ _ _ _ us hl => match us, hl with | [_, _], _ => rfl
  have g_p_check_goal := PySem.W.mg_of X G a_p_check_goal
  have F_p_check_lot := fun_mk (st := p_check_lot) l_p_check_lot c_p_check_lot k_p_check_lot
  have b_p_check_lot := F_p_check_lot.binds (ps := ["net", "lot", "part"]) fun _ _ _ _ _ _ us hl => match us, hl with | [_, _, _], _ => rfl
  have g_p_check_lot := PySem.W.mg_of X G a_p_check_lot
  have F_p_check_round := fun_mk (st := p_check_round) l_p_check_round c_p_check_round k_p_check_round
  have b_p_check_round := F_p_check_round.binds (ps := ["net", "done", "lot", "part"]) fun _ _ _ _ _ _ us hl => match us, hl with | [_, _, _, _], _ => rfl
  have g_p_check_round := PySem.W.mg_of X G a_p_check_round
  have F_p_is_lot_of := fun_mk (st := p_is_lot_of) l_p_is_lot_of c_p_is_lot_of k_p_is_lot_of
  have b_p_is_lot_of := F_p_is_lot_of.binds (ps := ["value", "nodes"]) fun _ _ _ _ _ _ us hl => match us, hl with | [_, _], _ => rfl
  have g_p_is_lot_of := PySem.W.mg_of X G a_p_is_lot_of
  have F_g_goals := fun_mk (st := c_Net_goals) l_g_goals c_g_goals k_g_goals
  have b_g_goals := F_g_goals.binds (ps := ["self"]) fun _ _ _ _ _ _ us hl => match us, hl with | [_], _ => rfl
  have F_g_nodes := fun_mk (st := c_Net_nodes) l_g_nodes c_g_nodes k_g_nodes
  have b_g_nodes := F_g_nodes.binds (ps := ["self"]) fun _ _ _ _ _ _ us hl => match us, hl with | [_], _ => rfl
  have F_g_changing := fun_mk (st := c_Net_changing) l_g_changing c_g_changing k_g_changing
  have b_g_changing := F_g_changing.binds (ps := ["self"]) fun _ _ _ _ _ _ us hl => match us, hl with | [_], _ => rfl
  have F_p_check_node := fun_mk (st := p_check_node) l_p_check_node c_p_check_node k_p_check_node
  have b_p_check_node := F_p_check_node.binds (ps := ["net", "node"]) fun _ _ _ _ _ _ us hl => match us, hl with | [_, _], _ => rfl
  have g_p_check_node := PySem.W.mg_of X G a_p_check_node
  have F_p_followed := fun_mk (st := p_followed) l_p_followed c_p_followed k_p_followed
  have b_p_followed := F_p_followed.binds (ps := ["table", "node"]) fun _ _ _ _ _ _ us hl => match us, hl with | [_, _], _ => rfl
  have g_p_followed := PySem.W.mg_of X G a_p_followed
  have F_p_ways := fun_mk (st := p_ways) l_p_ways c_p_ways k_p_ways
  have b_p_ways := F_p_ways.binds (ps := ["net", "done", "lot", "goal"]) fun _ _ _ _ _ _ us hl => match us, hl with | [_, _, _, _], _ => rfl
  have g_p_ways := PySem.W.mg_of X G a_p_ways
  have F_p_ring := fun_mk (st := p_ring) l_p_ring c_p_ring k_p_ring
  have b_p_ring := F_p_ring.binds (ps := ["net", "done", "lot", "goal"]) fun _ _ _ _ _ _ us hl => match us, hl with | [_, _, _, _], _ => rfl
  have g_p_ring := PySem.W.mg_of X G a_p_ring
  have F_p_least_ring := fun_mk (st := p_least_ring) l_p_least_ring c_p_least_ring k_p_least_ring
  have b_p_least_ring := F_p_least_ring.binds (ps := ["mixture"]) fun _ _ _ _ _ _ us hl => match us, hl with | [_], _ => rfl
  have g_p_least_ring := PySem.W.mg_of X G a_p_least_ring
  have F_p_ranks := fun_mk (st := p_ranks) l_p_ranks c_p_ranks k_p_ranks
  have b_p_ranks := F_p_ranks.binds (ps := ["net", "done", "lot", "goal"]) fun _ _ _ _ _ _ us hl => match us, hl with | [_, _, _, _], _ => rfl
  have g_p_ranks := PySem.W.mg_of X G a_p_ranks
  have F_p_least_ranks := fun_mk (st := p_least_ranks) l_p_least_ranks c_p_least_ranks k_p_least_ranks
  have b_p_least_ranks := F_p_least_ranks.binds (ps := ["mixture"]) fun _ _ _ _ _ _ us hl => match us, hl with | [_], _ => rfl
  have g_p_least_ranks := PySem.W.mg_of X G a_p_least_ranks
  have F_p_led := fun_mk (st := p_led) l_p_led c_p_led k_p_led
  have b_p_led := F_p_led.binds (ps := ["net", "done", "changed", "goal", "node"]) fun _ _ _ _ _ _ us hl => match us, hl with | [_, _, _, _, _], _ => rfl
  have g_p_led := PySem.W.mg_of X G a_p_led
  have F_p_reached := fun_mk (st := p_reached) l_p_reached c_p_reached k_p_reached
  have b_p_reached := F_p_reached.binds (ps := ["net", "done", "lot", "goal", "node"]) fun _ _ _ _ _ _ us hl => match us, hl with | [_, _, _, _, _], _ => rfl
  have g_p_reached := PySem.W.mg_of X G a_p_reached
  have F_p_nodes_reached := fun_mk (st := p_nodes_reached) l_p_nodes_reached c_p_nodes_reached k_p_nodes_reached
  have b_p_nodes_reached := F_p_nodes_reached.binds (ps := ["mixture", "starts"]) fun _ _ _ _ _ _ us hl => match us, hl with | [_, _], _ => rfl
  have g_p_nodes_reached := PySem.W.mg_of X G a_p_nodes_reached
  have F_p_twice := fun_mk (st := p_twice) l_p_twice c_p_twice k_p_twice
  have b_p_twice := F_p_twice.binds (ps := ["net", "done", "lot", "goal", "node"]) fun _ _ _ _ _ _ us hl => match us, hl with | [_, _, _, _, _], _ => rfl
  have g_p_twice := PySem.W.mg_of X G a_p_twice
  have F_p_with_moments := fun_mk (st := p_with_moments) l_p_with_moments c_p_with_moments k_p_with_moments
  have b_p_with_moments := F_p_with_moments.binds (ps := ["net", "lot", "goal", "places"]) fun _ _ _ _ _ _ us hl => match us, hl with | [_, _, _, _], _ => rfl
  have g_p_with_moments := PySem.W.mg_of X G a_p_with_moments
  have F_p_joined := fun_mk (st := p_joined) l_p_joined c_p_joined k_p_joined
  have b_p_joined := F_p_joined.binds (ps := ["lot", "other"]) fun _ _ _ _ _ _ us hl => match us, hl with | [_, _], _ => rfl
  have g_p_joined := PySem.W.mg_of X G a_p_joined
  have F_p_ways_at := fun_mk (st := p_ways_at) l_p_ways_at c_p_ways_at k_p_ways_at
  have b_p_ways_at := F_p_ways_at.binds (ps := ["net", "done", "changed", "goal"]) fun _ _ _ _ _ _ us hl => match us, hl with | [_, _, _, _], _ => rfl
  have g_p_ways_at := PySem.W.mg_of X G a_p_ways_at
  have F_p_nodes_behind := fun_mk (st := p_nodes_behind) l_p_nodes_behind c_p_nodes_behind k_p_nodes_behind
  have b_p_nodes_behind := F_p_nodes_behind.binds (ps := ["mixture", "node"]) fun _ _ _ _ _ _ us hl => match us, hl with | [_, _], _ => rfl
  have g_p_nodes_behind := PySem.W.mg_of X G a_p_nodes_behind
  have F_g_tables := fun_mk (st := c_Net_tables) l_g_tables c_g_tables k_g_tables
  have b_g_tables := F_g_tables.binds (ps := ["self"]) fun _ _ _ _ _ _ us hl => match us, hl with | [_], _ => rfl
  have F_m_way := fun_mk (st := c_Net_way) l_m_way c_m_way k_m_way
  have b_m_way := F_m_way.binds (ps := ["self", "goal", "node", "is_new"]) fun _ _ _ _ _ _ us hl => match us, hl with | [_, _, _, _], _ => rfl
  have F_p_depths := fun_mk (st := p_depths) l_p_depths c_p_depths k_p_depths
  have b_p_depths := F_p_depths.binds (ps := ["net", "goal", "is_new"]) fun _ _ _ _ _ _ us hl => match us, hl with | [_, _, _], _ => rfl
  have g_p_depths := PySem.W.mg_of X G a_p_depths
  have F_p_is_sound := fun_mk (st := p_is_sound) l_p_is_sound c_p_is_sound k_p_is_sound
  have b_p_is_sound := F_p_is_sound.binds (ps := ["net"]) fun _ _ _ _ _ _ us hl => match us, hl with | [_], _ => rfl
  have g_p_is_sound := PySem.W.mg_of X G a_p_is_sound
  have F_p_goes_on := fun_mk (st := p_goes_on) l_p_goes_on c_p_goes_on k_p_goes_on
  have b_p_goes_on := F_p_goes_on.binds (ps := ["net", "done", "goal", "pair", "later"]) fun _ _ _ _ _ _ us hl => match us, hl with | [_, _, _, _, _], _ => rfl
  have g_p_goes_on := PySem.W.mg_of X G a_p_goes_on
  have F_p_is_place_with_moment := fun_mk (st := p_is_place_with_moment) l_p_is_place_with_moment c_p_is_place_with_moment k_p_is_place_with_moment
  have b_p_is_place_with_moment := F_p_is_place_with_moment.binds (ps := ["value", "lot"]) fun _ _ _ _ _ _ us hl => match us, hl with | [_, _], _ => rfl
  have g_p_is_place_with_moment := PySem.W.mg_of X G a_p_is_place_with_moment
  have F_p_is_moving := fun_mk (st := p_is_moving) l_p_is_moving c_p_is_moving k_p_is_moving
  have b_p_is_moving := F_p_is_moving.binds (ps := ["net", "done", "lot", "goal", "node", "thing"]) fun _ _ _ _ _ _ us hl => match us, hl with | [_, _, _, _, _, _], _ => rfl
  have g_p_is_moving := PySem.W.mg_of X G a_p_is_moving
  have F_law := fun_mk (st := s_law) l_law c_law k_law
  have w_MOST_POSTS := PySem.W.mg_of X G v_MOST_POSTS
  have w_MOST_NODES := PySem.W.mg_of X G v_MOST_NODES
  have w_MOST_GOALS := PySem.W.mg_of X G v_MOST_GOALS
  have w_MOST_LETTERS := PySem.W.mg_of X G v_MOST_LETTERS
  have m_int := PySem.W.mg_none_of X G z_int
  have m_len := PySem.W.mg_none_of X G z_len
  have m_abs := PySem.W.mg_none_of X G z_abs
  have m_list := PySem.W.mg_none_of X G z_list
  have m_dict := PySem.W.mg_none_of X G z_dict
  have m_sorted := PySem.W.mg_none_of X G z_sorted
  have m_range := PySem.W.mg_none_of X G z_range
  have m_isinstance := PySem.W.mg_none_of X G z_isinstance
  have m_str := PySem.W.mg_none_of X G z_str
  have m_tuple := PySem.W.mg_none_of X G z_tuple
  have m_all := PySem.W.mg_none_of X G z_all
  have m_any := PySem.W.mg_none_of X G z_any
  have m_set := PySem.W.mg_none_of X G z_set
  have m_enumerate := PySem.W.mg_none_of X G z_enumerate
  have m_min := PySem.W.mg_none_of X G z_min
  have m_repr := PySem.W.mg_none_of X G z_repr
  have m_max := PySem.W.mg_none_of X G z_max
  have m_zip := PySem.W.mg_none_of X G z_zip
  have FI : FunD K "__init__" "Net.__init__" (defArgs c_Net_init) (defBody c_Net_init) (defScope c_Net_init) [.ref q1, .ref q2] [] fI (PySem.W.fnOf "__init__" "Net.__init__" (defArgs c_Net_init) (defBody c_Net_init) (defScope c_Net_init) (.ref TI) kVI dcI pmI anI cdI ctI) := ⟨⟨ocI, odI, .ref TI, kVI, dcI, pmI, anI, cdI, ctI, slI, rfl, lI, cI, .inr ⟨by simp, TI, _, [.ref q1, .ref q2], nT, rfl, lT, rfl, .cons rfl (.cons rfl .nil)⟩, .inl rfl⟩, kI⟩
  have bI : Binds K (PySem.W.fnOf "__init__" "Net.__init__" (defArgs c_Net_init) (defBody c_Net_init) (defScope c_Net_init) (.ref TI) kVI dcI pmI anI cdI ctI) ["self", "tables", "sources", "posts"] [] := by
    obtain ⟨ds, r, b⟩ := FI.binds1 (ps := ["self", "tables", "sources", "posts"]) 4 2 (by simp) rfl (fun TT kV doc pm an cdv ct us its l1 l2 => match us, l1, its, l2 with | [a, b, c, d], _, [i1, i2], _ => ⟨_, rfl, rfl⟩)
    cases r
    exact b
  obtain ⟨ds1, vd1, bI1⟩ := FI.binds1 (ps := ["self", "tables", "sources", "posts"]) 3 1 (by simp) rfl (fun TT kV doc pm an cdv ct us its l1 l2 => match us, l1, its, l2 with | [a, b, c], _, [i1, i2], _ => ⟨_, rfl, rfl⟩)
  obtain ⟨ds2, vd2, bI2⟩ := FI.binds1 (ps := ["self", "tables", "sources", "posts"]) 2 0 (by simp) rfl (fun TT kV doc pm an cdv ct us its l1 l2 => match us, l1, its, l2 with | [a, b], _, [i1, i2], _ => ⟨_, rfl, rfl⟩)
  have hE1 : ∀ H, SqT K H q1 [] := fun H => .inr ⟨_, #[], nq1, lq1, rfl, rfl, by show 0 ≤ sizeLine; decide, .nil⟩
  have hE2 : ∀ H, SqT K H q2 [] := fun H => .inr ⟨_, #[], nq2, lq2, rfl, rfl, by show 0 ≤ sizeLine; decide, .nil⟩
  refine ⟨_, fun s v => .of_eq (show bindArgs (PySem.W.fnOf "law" "law" (defArgs s_law) (defBody s_law) (defScope s_law) .none kV_law dc_law pm_law an_law cd_law ct_law) ⟨[v], []⟩ = _ from rfl), fun base _ _ => ?_⟩
  have O_s_take := ok_take (P := P) (w := w) (mg := mg) (base := base) F_s_take F_s_blend b_s_blend g_s_blend m_int
  have O_s_pick := ok_pickL (P := P) (w := w) (mg := mg) (base := base) F_s_pick O_s_take k_s_take b_s_take g_s_take m_len
  have O_S_pick := ok_pickS (P := P) (w := w) (mg := mg) (base := base) F_s_pick O_s_take k_s_take b_s_take g_s_take m_len
  have O_s_begin := ok_begin (P := P) (w := w) (mg := mg) (base := base) F_s_begin m_abs
  have O_s_words := ok_words (P := P) (w := w) (mg := mg) (base := base) F_s_words O_s_take k_s_take b_s_take g_s_take O_s_pick O_S_pick k_s_pick b_s_pick g_s_pick m_range
  have O_p_is_list := ok_is_list (P := P) (w := w) (mg := mg) (base := base) F_p_is_list m_isinstance m_list m_tuple
  have O_p_is_name := ok_is_name (P := P) (w := w) (mg := mg) (base := base) F_p_is_name m_isinstance m_str m_len m_all w_MOST_LETTERS
  have O_p_is_place := ok_is_place (P := P) (w := w) (mg := mg) (base := base) F_p_is_place
  have O_p_is_table := ok_is_table (P := P) (w := w) (mg := mg) (base := base) F_p_is_table O_p_is_place k_p_is_place b_p_is_place g_p_is_place m_len m_all
  have O_p_are_different := ok_diff (P := P) (w := w) (mg := mg) (base := base) F_p_are_different O_p_is_list k_p_is_list b_p_is_list g_p_is_list m_len m_all m_set
  have O_p_are_nodes := ok_nodes (P := P) (w := w) (mg := mg) (base := base) F_p_are_nodes O_p_is_name k_p_is_name b_p_is_name g_p_is_name m_len m_all w_MOST_NODES
  have O_p_is_pair_of_dicts := ok_pairD (P := P) (w := w) (mg := mg) (base := base) F_p_is_pair_of_dicts m_isinstance m_tuple m_dict m_len m_all
  have O_p_are_tables := ok_tables (P := P) (w := w) (mg := mg) (base := base) F_p_are_tables O_p_is_name k_p_is_name b_p_is_name g_p_is_name O_p_is_pair_of_dicts k_p_is_pair_of_dicts b_p_is_pair_of_dicts g_p_is_pair_of_dicts O_p_are_nodes k_p_are_nodes b_p_are_nodes g_p_are_nodes O_p_is_table k_p_is_table b_p_is_table g_p_is_table m_isinstance m_dict m_list m_len m_all w_MOST_GOALS
  have O_I := ok_init (P := P) (w := w) (mg := mg) (base := base) FI T O_p_are_tables k_p_are_tables b_p_are_tables g_p_are_tables O_p_are_different k_p_are_different b_p_are_different g_p_are_different m_list m_tuple m_sorted m_len w_MOST_POSTS
  have O_g_goals := ok_goals (P := P) (w := w) (mg := mg) (base := base) F_g_goals T m_tuple
  have O_g_nodes := ok_dots (P := P) (w := w) (mg := mg) (base := base) F_g_nodes T
  have O_g_changing := ok_changing (P := P) (w := w) (mg := mg) (base := base) F_g_changing T m_tuple m_list m_any
  have O_g_tables := ok_tabs (P := P) (w := w) (mg := mg) (base := base) F_g_tables T m_dict
  have R_goals : Prp P w K mg base C 1 "goals" (spGoals C) := ⟨_, _, _, ⟨a_g_goals, ge_g_goals, ta_g_goals, _, re_g_goals⟩, O_g_goals, b_g_goals⟩
  have R_nodes : Prp P w K mg base C 1 "nodes" (spDots C) := ⟨_, _, _, ⟨a_g_nodes, ge_g_nodes, ta_g_nodes, _, re_g_nodes⟩, O_g_nodes, b_g_nodes⟩
  have R_changing : Prp P w K mg base C 2 "changing" (spChanging C) := ⟨_, _, _, ⟨a_g_changing, ge_g_changing, ta_g_changing, _, re_g_changing⟩, O_g_changing, b_g_changing⟩
  have R_tables : Prp P w K mg base C 1 "tables" (spTabs C) := ⟨_, _, _, ⟨a_g_tables, ge_g_tables, ta_g_tables, _, re_g_tables⟩, O_g_tables, b_g_tables⟩
  have O_p_check_goal := ok_check_goal (P := P) (w := w) (mg := mg) (base := base) F_p_check_goal T R_goals
  have O_p_check_node := ok_check_node (P := P) (w := w) (mg := mg) (base := base) F_p_check_node T R_nodes
  have O_p_check_net := ok_check_net (P := P) (w := w) (mg := mg) (base := base) F_p_check_net T Is m_isinstance mNet
  have O_p_is_lot_of := ok_lot_of (P := P) (w := w) (mg := mg) (base := base) F_p_is_lot_of m_isinstance m_tuple m_all m_sorted m_set
  have O_p_check_lot := ok_check_lot (P := P) (w := w) (mg := mg) (base := base) F_p_check_lot T R_changing ⟨_, _, O_p_is_lot_of, k_p_is_lot_of, b_p_is_lot_of, g_p_is_lot_of⟩
  have O_p_check_round := ok_check_round (P := P) (w := w) (mg := mg) (base := base) F_p_check_round ⟨_, _, O_p_check_net, k_p_check_net, b_p_check_net, g_p_check_net⟩ ⟨_, _, O_p_check_lot, k_p_check_lot, b_p_check_lot, g_p_check_lot⟩ m_any
  have O_p_ways := ok_mix (P := P) (w := w) (mg := mg) (base := base) F_p_ways T ⟨_, _, O_p_check_round, k_p_check_round, b_p_check_round, g_p_check_round⟩ ⟨_, _, O_p_check_goal, k_p_check_goal, b_p_check_goal, g_p_check_goal⟩ R_tables R_nodes
  have O_p_followed := ok_followed (P := P) (w := w) (mg := mg) (base := base) F_p_followed
  have O_p_joined := ok_joined (P := P) (w := w) (mg := mg) (base := base) F_p_joined m_tuple m_sorted
  have O_m_way := ok_way (P := P) (w := w) (mg := mg) (base := base) F_m_way T ⟨_, _, O_p_check_goal, k_p_check_goal, b_p_check_goal, g_p_check_goal⟩ ⟨_, _, O_p_check_node, k_p_check_node, b_p_check_node, g_p_check_node⟩
  have O_p_ways_at := ok_ways_at (P := P) (w := w) (mg := mg) (base := base) F_p_ways_at T R_tables R_nodes
  have O_p_led := ok_led (P := P) (w := w) (mg := mg) (base := base) F_p_led ⟨_, _, O_p_check_round, k_p_check_round, b_p_check_round, g_p_check_round⟩ ⟨_, _, O_p_check_goal, k_p_check_goal, b_p_check_goal, g_p_check_goal⟩ ⟨_, _, O_p_check_node, k_p_check_node, b_p_check_node, g_p_check_node⟩ ⟨_, _, O_p_ways_at, k_p_ways_at, b_p_ways_at, g_p_ways_at⟩ ⟨_, _, O_p_followed, k_p_followed, b_p_followed, g_p_followed⟩
  have O_p_nodes_behind := ok_behind (P := P) (w := w) (mg := mg) (base := base) F_p_nodes_behind
  have O_p_least_ring := ok_lring (P := P) (w := w) (mg := mg) (base := base) F_p_least_ring ⟨_, _, O_p_nodes_behind, k_p_nodes_behind, b_p_nodes_behind, g_p_nodes_behind⟩ m_sorted
  have O_p_ring := ok_ring (P := P) (w := w) (mg := mg) (base := base) F_p_ring ⟨_, _, O_p_ways, k_p_ways, b_p_ways, g_p_ways⟩ ⟨_, _, O_p_least_ring, k_p_least_ring, b_p_least_ring, g_p_least_ring⟩
  have O_p_least_ranks := ok_lranks (P := P) (w := w) (mg := mg) (base := base) F_p_least_ranks ⟨_, _, O_p_nodes_behind, k_p_nodes_behind, b_p_nodes_behind, g_p_nodes_behind⟩ m_all m_max m_len
  have O_p_ranks := ok_ranks (P := P) (w := w) (mg := mg) (base := base) F_p_ranks ⟨_, _, O_p_ways, k_p_ways, b_p_ways, g_p_ways⟩ ⟨_, _, O_p_least_ranks, k_p_least_ranks, b_p_least_ranks, g_p_least_ranks⟩
  have O_p_nodes_reached := ok_nr (P := P) (w := w) (mg := mg) (base := base) F_p_nodes_reached ⟨_, _, O_p_nodes_behind, k_p_nodes_behind, b_p_nodes_behind, g_p_nodes_behind⟩ m_sorted m_set
  have O_p_with_moments := ok_moments (P := P) (w := w) (mg := mg) (base := base) F_p_with_moments T ⟨a_m_way, i_m_way, k_m_way⟩ O_m_way b_m_way ⟨_, _, O_p_joined, k_p_joined, b_p_joined, g_p_joined⟩ m_zip
  have O_p_twice := ok_twice (P := P) (w := w) (mg := mg) (base := base) F_p_twice ⟨_, _, O_p_ways, k_p_ways, b_p_ways, g_p_ways⟩ ⟨_, _, O_p_nodes_behind, k_p_nodes_behind, b_p_nodes_behind, g_p_nodes_behind⟩ ⟨_, _, O_p_check_node, k_p_check_node, b_p_check_node, g_p_check_node⟩ ⟨_, _, O_p_with_moments, k_p_with_moments, b_p_with_moments, g_p_with_moments⟩
  have O_p_depths := ok_depths (P := P) (w := w) (mg := mg) (base := base) F_p_depths T ⟨_, _, O_p_check_net, k_p_check_net, b_p_check_net, g_p_check_net⟩ ⟨_, _, O_p_check_goal, k_p_check_goal, b_p_check_goal, g_p_check_goal⟩ R_tables R_nodes ⟨_, _, O_p_followed, k_p_followed, b_p_followed, g_p_followed⟩ m_len
  have O_p_is_sound := ok_sound (P := P) (w := w) (mg := mg) (base := base) F_p_is_sound T ⟨_, _, O_p_check_net, k_p_check_net, b_p_check_net, g_p_check_net⟩ ⟨_, _, O_p_depths, k_p_depths, b_p_depths, g_p_depths⟩ R_goals m_list
  have O_p_reached := ok_reached (P := P) (w := w) (mg := mg) (base := base) F_p_reached ⟨_, _, O_p_ways, k_p_ways, b_p_ways, g_p_ways⟩ ⟨_, _, O_p_nodes_reached, k_p_nodes_reached, b_p_nodes_reached, g_p_nodes_reached⟩ ⟨_, _, O_p_check_node, k_p_check_node, b_p_check_node, g_p_check_node⟩ m_tuple m_sorted m_set
  have O_p_goes_on := ok_goes (P := P) (w := w) (mg := mg) (base := base) F_p_goes_on T R_nodes ⟨_, _, O_p_ways_at, k_p_ways_at, b_p_ways_at, g_p_ways_at⟩ m_all
  have O_p_is_place_with_moment := ok_moment (P := P) (w := w) (mg := mg) (base := base) F_p_is_place_with_moment ⟨_, _, O_p_is_lot_of, k_p_is_lot_of, b_p_is_lot_of, g_p_is_lot_of⟩ m_isinstance m_tuple m_len
  have O_p_is_moving := ok_moving (P := P) (w := w) (mg := mg) (base := base) F_p_is_moving ⟨_, _, O_p_check_round, k_p_check_round, b_p_check_round, g_p_check_round⟩ ⟨_, _, O_p_check_goal, k_p_check_goal, b_p_check_goal, g_p_check_goal⟩ ⟨_, _, O_p_check_node, k_p_check_node, b_p_check_node, g_p_check_node⟩ ⟨_, _, O_p_is_list, k_p_is_list, b_p_is_list, g_p_is_list⟩ ⟨_, _, O_p_is_place_with_moment, k_p_is_place_with_moment, b_p_is_place_with_moment, g_p_is_place_with_moment⟩ ⟨_, _, O_p_goes_on, k_p_goes_on, b_p_goes_on, g_p_goes_on⟩ m_all m_len m_zip
  have O_s_pair_right := ok_pair_right (P := P) (w := w) (mg := mg) (base := base) F_s_pair_right T ⟨mk, aI, iI, kc⟩ O_I bI1 vd1 hE2 mNet R_changing ⟨_, _, O_p_ways, k_p_ways, b_p_ways, g_p_ways⟩ ⟨_, _, O_p_ring, k_p_ring, b_p_ring, g_p_ring⟩ ⟨_, _, O_p_ranks, k_p_ranks, b_p_ranks, g_p_ranks⟩ ⟨_, _, O_p_led, k_p_led, b_p_led, g_p_led⟩ ⟨_, _, O_p_twice, k_p_twice, b_p_twice, g_p_twice⟩ ⟨_, _, O_p_is_moving, k_p_is_moving, b_p_is_moving, g_p_is_moving⟩ m_tuple m_sorted
  have O_s_three_right := ok_three_right (P := P) (w := w) (mg := mg) (base := base) F_s_three_right ⟨mk, aI, iI, kc⟩ O_I bI2 vd2 hE1 hE2 mNet ⟨_, _, O_p_ring, k_p_ring, b_p_ring, g_p_ring⟩ ⟨_, _, O_p_ranks, k_p_ranks, b_p_ranks, g_p_ranks⟩ ⟨_, _, O_p_reached, k_p_reached, b_p_reached, g_p_reached⟩ ⟨_, _, O_p_is_sound, k_p_is_sound, b_p_is_sound, g_p_is_sound⟩ m_tuple m_sorted m_min
  have O_s_goals_right := ok_goals_right (P := P) (w := w) (mg := mg) (base := base) F_s_goals_right T ⟨mk, aI, iI, kc⟩ O_I bI2 vd2 hE1 hE2 mNet R_changing ⟨_, _, O_p_ways, k_p_ways, b_p_ways, g_p_ways⟩ ⟨_, _, O_p_led, k_p_led, b_p_led, g_p_led⟩ ⟨_, _, O_p_reached, k_p_reached, b_p_reached, g_p_reached⟩ ⟨_, _, O_p_depths, k_p_depths, b_p_depths, g_p_depths⟩ m_tuple m_sorted
  exact ok_law F_law  ⟨_, _, O_s_begin, k_s_begin, b_s_begin, g_s_begin⟩ ⟨_, _, O_s_words, k_s_words, b_s_words, g_s_words⟩ ⟨_, _, O_s_pair_right, k_s_pair_right, b_s_pair_right, g_s_pair_right⟩ ⟨_, _, O_s_three_right, k_s_three_right, b_s_three_right, g_s_three_right⟩ ⟨_, _, O_s_goals_right, k_s_goals_right, b_s_goals_right, g_s_goals_right⟩ m_range m_min m_len
end Rw
end T_Z0

section T_Z1
set_option Elab.async false
set_option maxRecDepth 100000
open PySem PySem.W PyProof.Rows
set_option maxRecDepth 100000 in
set_option maxHeartbeats 0 in
theorem PySem.Challenge.cw_roundways_k15_known_mixtures_holds : PySem.Challenge.rw_roundways_k15_known_mixtures.Holds := by
  w_on; o_law; k_head; (case hw => w_witness2)
  k_fill
  refine Rw.walk_ofG (l := PySem.Challenge.rw_roundways_k15_known_mixtures) (n := 63) (k := 9) (x := "script") (sp := fun w => Rw.spLaw _) rfl (by decide) rfl ⟨rfl, by decide, by decide⟩ (fun w h Y => PySem.W.kIn_of Y) ?F (fun w H a ns few hS => ⟨a, ns, rfl, hS, few, fun _ => rfl⟩)
  case F =>
    intro w mg fa h KX G hmg
    refine' Rw.all_mk KX G hmg ?aC ?a_s_begin ?l_s_begin ?c_s_begin ?k_s_begin ?a_s_blend ?l_s_blend ?c_s_blend ?k_s_blend ?a_s_take ?l_s_take ?c_s_take ?k_s_take ?a_s_pick ?l_s_pick ?c_s_pick ?k_s_pick ?a_s_words ?l_s_words ?c_s_words ?k_s_words ?a_s_pair_right ?l_s_pair_right ?c_s_pair_right ?k_s_pair_right ?a_s_three_right ?l_s_three_right ?c_s_three_right ?k_s_three_right ?a_s_goals_right ?l_s_goals_right ?c_s_goals_right ?k_s_goals_right ?a_p_is_list ?l_p_is_list ?c_p_is_list ?k_p_is_list ?a_p_is_name ?l_p_is_name ?c_p_is_name ?k_p_is_name ?a_p_is_place ?l_p_is_place ?c_p_is_place ?k_p_is_place ?a_p_is_table ?l_p_is_table ?c_p_is_table ?k_p_is_table ?a_p_are_different ?l_p_are_different ?c_p_are_different ?k_p_are_different ?a_p_are_nodes ?l_p_are_nodes ?c_p_are_nodes ?k_p_are_nodes ?a_p_is_pair_of_dicts ?l_p_is_pair_of_dicts ?c_p_is_pair_of_dicts ?k_p_is_pair_of_dicts ?a_p_are_tables ?l_p_are_tables ?c_p_are_tables ?k_p_are_tables ?a_p_check_net ?l_p_check_net ?c_p_check_net ?k_p_check_net ?a_p_check_goal ?l_p_check_goal ?c_p_check_goal ?k_p_check_goal ?a_p_check_lot ?l_p_check_lot ?c_p_check_lot ?k_p_check_lot ?a_p_check_round ?l_p_check_round ?c_p_check_round ?k_p_check_round ?a_p_is_lot_of ?l_p_is_lot_of ?c_p_is_lot_of ?k_p_is_lot_of ?a_g_goals ?ge_g_goals ?ta_g_goals ?re_g_goals ?l_g_goals ?c_g_goals ?k_g_goals ?a_g_nodes ?ge_g_nodes ?ta_g_nodes ?re_g_nodes ?l_g_nodes ?c_g_nodes ?k_g_nodes ?a_g_changing ?ge_g_changing ?ta_g_changing ?re_g_changing ?l_g_changing ?c_g_changing ?k_g_changing ?a_p_check_node ?l_p_check_node ?c_p_check_node ?k_p_check_node ?a_p_followed ?l_p_followed ?c_p_followed ?k_p_followed ?a_p_ways ?l_p_ways ?c_p_ways ?k_p_ways ?a_p_ring ?l_p_ring ?c_p_ring ?k_p_ring ?a_p_least_ring ?l_p_least_ring ?c_p_least_ring ?k_p_least_ring ?a_p_ranks ?l_p_ranks ?c_p_ranks ?k_p_ranks ?a_p_least_ranks ?l_p_least_ranks ?c_p_least_ranks ?k_p_least_ranks ?a_p_led ?l_p_led ?c_p_led ?k_p_led ?a_p_reached ?l_p_reached ?c_p_reached ?k_p_reached ?a_p_nodes_reached ?l_p_nodes_reached ?c_p_nodes_reached ?k_p_nodes_reached ?a_p_twice ?l_p_twice ?c_p_twice ?k_p_twice ?a_p_with_moments ?l_p_with_moments ?c_p_with_moments ?k_p_with_moments ?a_p_joined ?l_p_joined ?c_p_joined ?k_p_joined ?a_p_ways_at ?l_p_ways_at ?c_p_ways_at ?k_p_ways_at ?a_p_nodes_behind ?l_p_nodes_behind ?c_p_nodes_behind ?k_p_nodes_behind ?a_g_tables ?ge_g_tables ?ta_g_tables ?re_g_tables ?l_g_tables ?c_g_tables ?k_g_tables ?a_m_way ?i_m_way ?l_m_way ?c_m_way ?k_m_way ?a_p_depths ?l_p_depths ?c_p_depths ?k_p_depths ?a_p_is_sound ?l_p_is_sound ?c_p_is_sound ?k_p_is_sound ?a_p_goes_on ?l_p_goes_on ?c_p_goes_on ?k_p_goes_on ?a_p_is_place_with_moment ?l_p_is_place_with_moment ?c_p_is_place_with_moment ?k_p_is_place_with_moment ?a_p_is_moving ?l_p_is_moving ?c_p_is_moving ?k_p_is_moving ?a_law ?l_law ?c_law ?k_law ?aI ?iI ?lI ?cI ?kI ?lT ?lq1 ?lq2 ?pg ?hd ?po ?sa ?mk ?kc ?nT_ ?nN_ ?nS_ ?nP_ ?ha ?hn ?hk ?hm ?v_MOST_POSTS ?v_MOST_NODES ?v_MOST_GOALS ?v_MOST_LETTERS ?z_int ?z_len ?z_abs ?z_list ?z_dict ?z_sorted ?z_range ?z_isinstance ?z_str ?z_tuple ?z_all ?z_any ?z_set ?z_enumerate ?z_min ?z_repr ?z_max ?z_zip
    (case aC => k_is); (case a_s_begin => k_is); (case l_s_begin => k_is); (case c_s_begin => k_is); (case k_s_begin => k_is); (case a_s_blend => k_is)
    (case l_s_blend => k_is); (case c_s_blend => k_is); (case k_s_blend => k_is); (case a_s_take => k_is); (case l_s_take => k_is); (case c_s_take => k_is)
    (case k_s_take => k_is); (case a_s_pick => k_is); (case l_s_pick => k_is); (case c_s_pick => k_is); (case k_s_pick => k_is); (case a_s_words => k_is)
    (case l_s_words => k_is); (case c_s_words => k_is); (case k_s_words => k_is); (case a_s_pair_right => k_is); (case l_s_pair_right => k_is); (case c_s_pair_right => k_is)
    (case k_s_pair_right => k_is); (case a_s_three_right => k_is); (case l_s_three_right => k_is); (case c_s_three_right => k_is); (case k_s_three_right => k_is); (case a_s_goals_right => k_is)
    (case l_s_goals_right => k_is); (case c_s_goals_right => k_is); (case k_s_goals_right => k_is); (case a_p_is_list => k_is); (case l_p_is_list => k_is); (case c_p_is_list => k_is)
    (case k_p_is_list => k_is); (case a_p_is_name => k_is); (case l_p_is_name => k_is); (case c_p_is_name => k_is); (case k_p_is_name => k_is); (case a_p_is_place => k_is)
    (case l_p_is_place => k_is); (case c_p_is_place => k_is); (case k_p_is_place => k_is); (case a_p_is_table => k_is); (case l_p_is_table => k_is); (case c_p_is_table => k_is)
    (case k_p_is_table => k_is); (case a_p_are_different => k_is); (case l_p_are_different => k_is); (case c_p_are_different => k_is); (case k_p_are_different => k_is); (case a_p_are_nodes => k_is)
    (case l_p_are_nodes => k_is); (case c_p_are_nodes => k_is); (case k_p_are_nodes => k_is); (case a_p_is_pair_of_dicts => k_is); (case l_p_is_pair_of_dicts => k_is); (case c_p_is_pair_of_dicts => k_is)
    (case k_p_is_pair_of_dicts => k_is); (case a_p_are_tables => k_is); (case l_p_are_tables => k_is); (case c_p_are_tables => k_is); (case k_p_are_tables => k_is); (case a_p_check_net => k_is)
    (case l_p_check_net => k_is); (case c_p_check_net => k_is); (case k_p_check_net => k_is); (case a_p_check_goal => k_is); (case l_p_check_goal => k_is); (case c_p_check_goal => k_is)
    (case k_p_check_goal => k_is); (case a_p_check_lot => k_is); (case l_p_check_lot => k_is); (case c_p_check_lot => k_is); (case k_p_check_lot => k_is); (case a_p_check_round => k_is)
    (case l_p_check_round => k_is); (case c_p_check_round => k_is); (case k_p_check_round => k_is); (case a_p_is_lot_of => k_is); (case l_p_is_lot_of => k_is); (case c_p_is_lot_of => k_is)
    (case k_p_is_lot_of => k_is); (case a_g_goals => k_is); (case ge_g_goals => k_is); (case ta_g_goals => k_is); (case re_g_goals => k_is); (case l_g_goals => k_is)
    (case c_g_goals => k_is); (case k_g_goals => k_is); (case a_g_nodes => k_is); (case ge_g_nodes => k_is); (case ta_g_nodes => k_is); (case re_g_nodes => k_is)
    (case l_g_nodes => k_is); (case c_g_nodes => k_is); (case k_g_nodes => k_is); (case a_g_changing => k_is); (case ge_g_changing => k_is); (case ta_g_changing => k_is)
    (case re_g_changing => k_is); (case l_g_changing => k_is); (case c_g_changing => k_is); (case k_g_changing => k_is); (case a_p_check_node => k_is); (case l_p_check_node => k_is)
    (case c_p_check_node => k_is); (case k_p_check_node => k_is); (case a_p_followed => k_is); (case l_p_followed => k_is); (case c_p_followed => k_is); (case k_p_followed => k_is)
    (case a_p_ways => k_is); (case l_p_ways => k_is); (case c_p_ways => k_is); (case k_p_ways => k_is); (case a_p_ring => k_is); (case l_p_ring => k_is)
    (case c_p_ring => k_is); (case k_p_ring => k_is); (case a_p_least_ring => k_is); (case l_p_least_ring => k_is); (case c_p_least_ring => k_is); (case k_p_least_ring => k_is)
    (case a_p_ranks => k_is); (case l_p_ranks => k_is); (case c_p_ranks => k_is); (case k_p_ranks => k_is); (case a_p_least_ranks => k_is); (case l_p_least_ranks => k_is)
    (case c_p_least_ranks => k_is); (case k_p_least_ranks => k_is); (case a_p_led => k_is); (case l_p_led => k_is); (case c_p_led => k_is); (case k_p_led => k_is)
    (case a_p_reached => k_is); (case l_p_reached => k_is); (case c_p_reached => k_is); (case k_p_reached => k_is); (case a_p_nodes_reached => k_is); (case l_p_nodes_reached => k_is)
    (case c_p_nodes_reached => k_is); (case k_p_nodes_reached => k_is); (case a_p_twice => k_is); (case l_p_twice => k_is); (case c_p_twice => k_is); (case k_p_twice => k_is)
    (case a_p_with_moments => k_is); (case l_p_with_moments => k_is); (case c_p_with_moments => k_is); (case k_p_with_moments => k_is); (case a_p_joined => k_is); (case l_p_joined => k_is)
    (case c_p_joined => k_is); (case k_p_joined => k_is); (case a_p_ways_at => k_is); (case l_p_ways_at => k_is); (case c_p_ways_at => k_is); (case k_p_ways_at => k_is)
    (case a_p_nodes_behind => k_is); (case l_p_nodes_behind => k_is); (case c_p_nodes_behind => k_is); (case k_p_nodes_behind => k_is); (case a_g_tables => k_is); (case ge_g_tables => k_is)
    (case ta_g_tables => k_is); (case re_g_tables => k_is); (case l_g_tables => k_is); (case c_g_tables => k_is); (case k_g_tables => k_is); (case a_m_way => k_is)
    (case i_m_way => k_is); (case l_m_way => k_is); (case c_m_way => k_is); (case k_m_way => k_is); (case a_p_depths => k_is); (case l_p_depths => k_is)
    (case c_p_depths => k_is); (case k_p_depths => k_is); (case a_p_is_sound => k_is); (case l_p_is_sound => k_is); (case c_p_is_sound => k_is); (case k_p_is_sound => k_is)
    (case a_p_goes_on => k_is); (case l_p_goes_on => k_is); (case c_p_goes_on => k_is); (case k_p_goes_on => k_is); (case a_p_is_place_with_moment => k_is); (case l_p_is_place_with_moment => k_is)
    (case c_p_is_place_with_moment => k_is); (case k_p_is_place_with_moment => k_is); (case a_p_is_moving => k_is); (case l_p_is_moving => k_is); (case c_p_is_moving => k_is); (case k_p_is_moving => k_is)
    (case a_law => k_is); (case l_law => k_is); (case c_law => k_is); (case k_law => k_is); (case aI => k_is); (case iI => k_is)
    (case lI => k_is); (case cI => k_is); (case kI => k_is); (case lT => k_is); (case lq1 => k_is); (case lq2 => k_is)
    (case pg => k_is); (case hd => k_is); (case po => k_is); (case sa => k_is); (case mk => k_is); (case kc => k_is)
    (case nT_ => k_is); (case nN_ => k_is); (case nS_ => k_is); (case nP_ => k_is); (case ha => k_is); (case hn => k_is)
    (case hk => k_is); (case hm => k_is); (case v_MOST_POSTS => k_is); (case v_MOST_NODES => k_is); (case v_MOST_GOALS => k_is); (case v_MOST_LETTERS => k_is)
    (case z_int => k_is); (case z_len => k_is); (case z_abs => k_is); (case z_list => k_is); (case z_dict => k_is); (case z_sorted => k_is)
    (case z_range => k_is); (case z_isinstance => k_is); (case z_str => k_is); (case z_tuple => k_is); (case z_all => k_is); (case z_any => k_is)
    (case z_set => k_is); (case z_enumerate => k_is); (case z_min => k_is); (case z_repr => k_is); (case z_max => k_is); (case z_zip => k_is)
end T_Z1
