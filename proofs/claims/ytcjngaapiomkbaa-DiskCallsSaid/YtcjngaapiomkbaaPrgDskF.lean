/-
  slices.Backward of writes, and the program's standing (a range over it), by contracts. Conditions: none but the place is one.
-/
import Derived.RangeFuncNested
import Derived.RangeFuncBound
import Derived.RangeFuncCalls
import Derived.RangeFuncLeaves
import Derived.Shelf.Abstract
import Derived.Shelf.RegionOpen
import Derived.WalkKit
import Derived.OwnWalkIn
import Derived.TacticsInMore
import Derived.LoopNIn
import Derived.LoopIn
import Derived.Test.YtcjngaapiomkbaaPrgDskB
namespace Go.Proofs.Ytcjngaapiomkbaa
open Go.RowKit Go.Shelf Go.WideShapes

attribute [local go_sem] Oper.semAt_some

/-- What has come when k rounds are over: the last k, from the end. -/
def backL (ls : List (Int × ByteArray)) : Nat → List (Nat × Int × ByteArray)
  | 0 => []
  | k + 1 => backL ls k ++ [(ls.length - 1 - k, ls.getD (ls.length - 1 - k) (0, ⟨#[]⟩))]
theorem backL_length (ls : List (Int × ByteArray)) (k : Nat) : (backL ls k).length = k := by
  induction k with
  | zero => rfl
  | succ k ih => simp [backL, ih]
theorem backL_mem (ls : List (Int × ByteArray)) (k : Nat) (p : Nat × Int × ByteArray) : p ∈ backL ls k → ∃ j, j < k ∧ p = (ls.length - 1 - j, ls.getD (ls.length - 1 - j) (0, ⟨#[]⟩)) := by
  induction k with
  | zero => intro h; cases h
  | succ k ih =>
    intro h
    rcases List.mem_append.1 h with h | h
    · obtain ⟨j, h1, h2⟩ := ih h
      exact ⟨j, by omega, h2⟩
    · exact ⟨k, by omega, by simpa using h⟩
theorem mem_backL (ls : List (Int × ByteArray)) (k j : Nat) (h : j < k) : (ls.length - 1 - j, ls.getD (ls.length - 1 - j) (0, ⟨#[]⟩)) ∈ backL ls k := by
  induction k with
  | zero => omega
  | succ k ih =>
    rcases Nat.lt_succ_iff_lt_or_eq.1 h with h | rfl
    · exact List.mem_append_left _ (ih h)
    · exact List.mem_append_right _ (by simp)

theorem standsL_append (k : Nat) : ∀ (a b : List (Int × ByteArray)) (s : ByteArray), standsL k s (a ++ b) = standsL k (standsL k s a) b
  | [], _, _ => rfl
  | _ :: a, b, _ => standsL_append k a b _
theorem standsL_none (k : Nat) : ∀ (l : List (Int × ByteArray)) (s : ByteArray), (∀ x ∈ l, x.1 ≠ (k : Int)) → standsL k s l = s
  | [], _, _ => rfl
  | x :: l, s, h => by
    show standsL k (if x.1 = (k : Int) then x.2 else s) l = s
    rw [if_neg (h x (List.mem_cons_self ..))]
    exact standsL_none k l s fun y hy => h y (List.mem_cons_of_mem _ hy)
theorem standsL_last (k i : Nat) (l : List (Int × ByteArray)) (s : ByteArray) (hi : i < l.length) (h1 : (l.getD i (0, ⟨#[]⟩)).1 = (k : Int)) (h2 : ∀ j, i < j → j < l.length → (l.getD j (0, ⟨#[]⟩)).1 ≠ (k : Int)) : standsL k s l = (l.getD i (0, ⟨#[]⟩)).2 := by
  have hg : l.getD i (0, ⟨#[]⟩) = l[i] := by simp [List.getD, hi]
  rw [hg] at h1 ⊢
  have e : l = l.take i ++ (l[i] :: l.drop (i + 1)) := by rw [← List.drop_eq_getElem_cons hi, List.take_append_drop]
  refine (congrArg (standsL k s) e).trans ?_
  rw [standsL_append]
  show standsL k (if l[i].1 = (k : Int) then l[i].2 else _) (l.drop (i + 1)) = _
  rw [if_pos h1]
  rw [standsL_none k _ _ fun x hx => by
    obtain ⟨j, hj, rfl⟩ := List.getElem_of_mem hx
    rw [List.length_drop] at hj
    rw [List.getElem_drop]
    have := h2 (i + 1 + j) (by omega) (by omega)
    have hg2 : l.getD (i + 1 + j) (0, ⟨#[]⟩) = l[i + 1 + j] := by simp [List.getD, show i + 1 + j < l.length by omega]
    rwa [hg2] at this]

/-- What the iterator hands to a round. -/
abbrev encB (x : Nat × Int × ByteArray) : Array Value := #[.int .i64 (x.1 : Int), .agg #[.int .i64 x.2.1, .string x.2.2]]

set_option maxRecDepth 100000 in
set_option maxHeartbeats 4000000 in
/-- slices.Backward's closure. -/
theorem back1_in (F : Fence) (n : Nat) (h44 : F.fn 44) (hro : F.round = none) (hn : 1 ≤ n) (l Bs n₀ c : Nat) (a : Option Addr) (ls : List (Int × ByteArray)) (hl : ls.length ≤ 9223372036854775807) (J Jx : List (Nat × Int × ByteArray) → World → Prop)
    (hY : ∀ pre x W, J pre W → pre.length < ls.length → YieldAt F (n - 1) Try.prog l (encB x) W fun e W' =>
      (e = .returned (.bool true) ∧ J (pre ++ [x]) W' ∧ Below n₀ W W') ∨ (e = .returned (.bool false) ∧ Jx (pre ++ [x]) W'))
    (W : World) (hBs : ∀ W', Below n₀ W W' → W'.cell? ⟨Bs, 0, none⟩ = some (.slice a ls.length c)) (hP : ∀ W', Below n₀ W W' → PairsAt W' (.slice a ls.length c) (ls.map writeCell)) (h0 : J [] W) :
    CallsIn F n Try.prog 44 #[.func (.yield l) #[] #[], .pointer (some ⟨Bs, 0, none⟩)] W fun e W' => (∃ v, e = .returned v) ∧
      ((∃ ys, ys = backL ls ls.length ∧ J ys W') ∨ (∃ pre, (∃ k, k ≤ ls.length ∧ pre = backL ls k) ∧ Jx pre W')) := by
  have HP := Lib.hid hP
  have HBS := Lib.hid hBs
  have HY := Lib.hid hY
  have HN := Lib.hid (show ∀ k, k < ls.length → backL ls (ls.length - k) = backL ls (ls.length - 1 - k) ++ [(k, ls.getD k (0, ⟨#[]⟩))] from fun k hk => by
    rw [show ls.length - k = (ls.length - 1 - k) + 1 by omega]
    show backL ls (ls.length - 1 - k) ++ [(ls.length - 1 - (ls.length - 1 - k), _)] = _
    rw [show ls.length - 1 - (ls.length - 1 - k) = k by omega])
  obtain ⟨N, hN⟩ : ∃ N, ls.length = N := ⟨_, rfl⟩
  have HNN := Lib.hid hN
  rw [hN] at HP HBS HY HN hl ⊢
  have hc0 := HBS.out W (Below.refl _ _)
  clear hP hBs hY hN
  refine callsIn_of_wp Try.func44 rfl h44 ?_ hro
  simp only [Try.ntmps44, List.size_toArray, List.length_cons, List.length_nil, Nat.reduceAdd, Nat.reduceSub, Array.replicate_succ, Array.replicate_zero, List.push_toArray, List.append_toArray, List.nil_append, List.cons_append]
  gi_wp2
  gi_loopw [3] (fun i wr => ∃ k : Nat, k ≤ N ∧ i = .int .i64 ((k : Int) - 1) ∧ J (backL ls (N - k)) wr ∧ Below n₀ W wr)
    (fun i _ => (intOf i + 1).toNat)
  case atStart => exact ⟨N, Nat.le_refl _, rfl, by rw [Nat.sub_self]; exact h0, Below.refl _ _⟩
  case round =>
    obtain ⟨k, hk, rfl, hJs, hnx⟩ := hrel
    have HJ := Lib.hid hJs
    have HX := Lib.hid hnx
    clear hJs hnx
    cases k with
    | zero =>
      gi_wp2
      go_end0
      exact ⟨⟨_, rfl⟩, .inl ⟨_, rfl, HJ.out⟩⟩
    | succ k =>
      have hkl : k < ls.length := by rw [HNN.out]; omega
      have hc := HBS.out wr HX.out
      obtain ⟨b, o, rfl, e0, e1⟩ := (HP.out wr HX.out).at k (by rw [List.length_map]; exact hkl)
      rw [write_getElem ls k hkl] at e0 e1
      have hg := Lib.hid (show ls.getD k (0, ⟨#[]⟩) = ls[k] by simp [List.getD, hkl])
      have HNk := Lib.hid (HN.out k (by omega))
      rw [hg.out] at HNk
      obtain ⟨⟨ax, x⟩, hx⟩ : ∃ x, ls[k] = x := ⟨_, rfl⟩
      rw [hx] at e0 e1 HNk
      have hJ1 : J (backL ls (N - 1 - k)) wr := by
        have := HJ.out
        rwa [show N - (k + 1) = N - 1 - k by omega] at this
      obtain ⟨fn, tmps, assign, body, hy, hR⟩ := HY.out _ (k, ax, x) wr hJ1 (by rw [backL_length]; omega)
      rw [← HNk.out] at hR
      have HR := Lib.hid hR
      rw [show (((k + 1 : Nat) : Int) - 1) = (k : Int) by omega]
      have hkN : (k : Int) < (N : Int) := by omega
      clear hg hx hJ1 hR HNk HJ
      rcases Nat.eq_zero_or_pos k with rfl | hk0
      · dsimp only [encB] at hy
        rw [show ((0 : Nat) : Int) = 0 from rfl] at hy
        have e0' : wr.cell? ⟨b, o, none⟩ = some (.int .i64 ax) := by simpa using e0
        have e1' : wr.cell? ⟨b, o + 1, none⟩ = some (.string x) := by simpa using e1
        gi_wp2
        refine HR.out.mono ?_
        rintro e W3 (⟨rfl, hJ3, hk3⟩ | ⟨rfl, hJx3⟩)
        · gi_wp2
          go_roundw
          case rel => exact ⟨0, by omega, rfl, hJ3, HX.out.trans hk3⟩
          case measure => simp [intOf]
        · gi_wp2
          refine bodyPost_ret (results_none rfl _ _ _) rfl ?_
          exact ⟨⟨_, rfl⟩, .inr ⟨_, ⟨N, by omega, rfl⟩, hJx3⟩⟩
      · gi_wp2
        refine HR.out.mono ?_
        rintro e W3 (⟨rfl, hJ3, hk3⟩ | ⟨rfl, hJx3⟩)
        · gi_wp2
          go_roundw
          case rel => exact ⟨k, by omega, rfl, hJ3, HX.out.trans hk3⟩
          case measure => simp [intOf]
        · gi_wp2
          refine bodyPost_ret (results_none rfl _ _ _) rfl ?_
          exact ⟨⟨_, rfl⟩, .inr ⟨_, ⟨N - k, by omega, rfl⟩, hJx3⟩⟩

set_option maxRecDepth 100000 in
set_option maxHeartbeats 1000000 in
theorem back_in (F : Fence) (n : Nat) (h37 : F.fn 37) (hro : F.round = none) (a : Option Addr) (len cap : Nat) (w : World) :
    CallsIn F n Try.prog 37 #[.slice a len cap] w fun e w' => e = .returned (.func (.func 44) #[] #[.pointer (some ⟨w.heap.size, 0, none⟩)]) ∧ w' = w.alloc (.cells #[.slice a len cap] 23) := by
  refine callsIn_of_wp Try.func37 rfl h37 ?_ hro
  simp only [Try.ntmps37, List.size_toArray, List.length_cons, List.length_nil, Nat.reduceAdd, Nat.reduceSub, Array.replicate_succ, Array.replicate_zero, List.push_toArray, List.append_toArray, List.nil_append, List.cons_append]
  gi_wp2
  go_ret
  exact ⟨rfl, rfl⟩

theorem back_stops (F : Fence) (n : Nat) (h44 : F.fn 44) (hro : F.round = none) (hn : 1 ≤ n) (Bs c : Nat) (a : Option Addr) (ls : List (Int × ByteArray)) (hl : ls.length ≤ 9223372036854775807) (w : World)
    (hc : w.cell? ⟨Bs, 0, none⟩ = some (.slice a ls.length c)) (hP : PairsAt w (.slice a ls.length c) (ls.map writeCell)) :
    SeqStopsK F n Try.prog 44 #[.pointer (some ⟨Bs, 0, none⟩)] encB (Below w.heap.size) (fun ys => ys = backL ls ls.length) (fun pre => ∃ k, k ≤ ls.length ∧ pre = backL ls k) ls.length w := fun l J Jx W hW _ _ hY h0 =>
  back1_in F n h44 hro hn l Bs w.heap.size c a ls hl J Jx hY W (fun _ h => ((hW.trans h).cell (World.block_lt_of_cell? _ _ hc)).trans hc) (fun _ h => hP.keep (hW.trans h)) h0
end Go.Proofs.Ytcjngaapiomkbaa
