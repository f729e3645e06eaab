/-
  slices.Repeat of one string, by a contract. Conditions: from 1 to 64 times.
  The laws' sector: one byte 128 times; the program's blank sector. Conditions: none.
  slices.Backward of writes, and the program's standing (a range over it), by contracts. Conditions: none but the place is one.
  The program's standing of a disk, by a contract. Conditions: the place is one of the disk's.
  What stays when a disk's own two cells are written anew; a disk as a result; the program's New and Load of a disk, by contracts. Conditions: none.
  The program's Flush of a disk, by a contract. Conditions: none.
  The program's Save of a disk, by a contract. Conditions: at most 100 writes are saved at once (or the disk may not be, or they do not fit).
-/
import Derived.Test.YtkplpodljmlanaaGreatDoorZDsk1
import Derived.Test.YtkplpodljmlanaaGreatDoorZShelf
import Derived.Laws.CopyOwn
import Derived.Deep.OwnRows
import Derived.Deep.RegionLaw
import Derived.BigRegion
import Derived.Laws.IdiomStrings
import Derived.Lib.Repeat
import Derived.RangeFuncNested
import Derived.RangeFuncBound
import Derived.RangeFuncCalls
import Derived.RangeFuncLeaves
import Derived.Shelf.Abstract
import Derived.Shelf.RegionOpen
import Derived.WalkKit
import Derived.OwnWalkIn
import Derived.TacticsInMore
import Derived.LoopNIn
import Derived.LoopIn
import Derived.Laws.ResultCell
import Derived.Deep.RegionHeld3
/-! slices.Repeat of one string, by a contract. Conditions: from 1 to 64 times. -/
namespace Go.Proofs.YtkplpodljmlanaaGreatDoor
open Go.RowKit Go.WideShapes

/-- Block g is a row of n strings, of which the first k are s. -/
def RepRow (w : World) (g n k : Nat) (s : ByteArray) : Prop := ∃ cur : List Value, w.heap[g]? = some (.cells cur.toArray 9 (0, 0)) ∧ cur.length = n ∧ ∀ i, i < k → cur[i]? = some (.string s)
theorem RepRow.strs {w : World} {g n : Nat} {s : ByteArray} (h : RepRow w g n n s) (hn : 0 < n) (hm : n ≤ maxLen) : StrsAt w (.slice (some ⟨g, 0, none⟩) n n) (List.replicate n s) := by
  obtain ⟨cur, hg, hl, hc⟩ := h
  refine Or.inr ⟨g, 0, n, by rw [List.length_replicate], by rw [List.length_replicate]; exact hn, by rw [List.length_replicate]; exact Nat.le_refl _, hm, fun i hi => ?_⟩
  rw [List.length_replicate] at hi
  simp [World.cell?, hg, hc i hi]
theorem RepRow.cells {w : World} {g n k : Nat} {s : ByteArray} (h : RepRow w g n k s) (m : Nat) (hm : m ≤ k) : ∀ j v, (List.replicate m (Value.string s))[j]? = some v → w.cell? ((⟨g, 0, none⟩ : Addr).add j) = some v := by
  obtain ⟨cur, hg, hl, hc⟩ := h
  intro j v hj
  have hj' : j < m := by have := (List.getElem?_eq_some_iff.1 hj).1; simpa using this
  rw [add_plain, Nat.zero_add]
  simp only [List.getElem?_replicate, hj', if_true] at hj
  simp [World.cell?, hg, hc j (by omega), hj]
theorem repRow_splice (w' : World) (g n k m : Nat) (s : ByteArray) (cur : List Value) (hl : cur.length = n) (hc : ∀ i, i < k → cur[i]? = some (.string s)) (hm : k + m ≤ n)
    (h : w'.heap[g]? = some (.cells (splice cur k (List.replicate m (Value.string s))).toArray 9 (0, 0))) : RepRow w' g n (k + m) s := by
  refine ⟨_, h, by rw [length_splice _ _ _ (by rw [List.length_replicate, hl]; exact hm), hl], fun i hi => ?_⟩
  unfold splice
  by_cases h1 : i < k
  · rw [List.getElem?_append_left (by rw [List.length_take]; omega), List.getElem?_take, if_pos h1]
    exact hc i h1
  · rw [List.getElem?_append_right (by rw [List.length_take]; omega), List.length_take, Nat.min_eq_left (by omega), List.getElem?_append_left (by rw [List.length_replicate]; omega), List.getElem?_replicate, if_pos (by omega)]
theorem infoSizeStr : (Tryz.prog.info? 9).map (·.size) = some 1 := by kernel_rfl

set_option maxRecDepth 100000 in
set_option maxHeartbeats 4000000 in
theorem Repeat_t (b o c n : Nat) (s : ByteArray) (w : World) (h1 : 1 ≤ n) (hn : n ≤ 64) (c0 : w.cell? ⟨b, o, none⟩ = some (.string s)) :
    Calls Tryz.prog 67 #[.slice (some ⟨b, o, none⟩) 1 c, .int .i64 n] w fun e w' => ∃ v, e = .returned v ∧ StrsAt w' v (List.replicate n s) ∧ Below w.heap.size w w' := by
  obtain ⟨i0, hi, hz0, hz1, hz2⟩ := info_parts infoStr
  have M := Tryz.bits_Mul 1 n (by omega) (by omega) w
  rw [Nat.one_mul, Nat.div_eq_of_lt (by omega), Nat.mod_eq_of_lt (by omega)] at M
  have M := Lib.hid M
  obtain ⟨W, hW⟩ : ∃ W, w.alloc (.cells (madeCells #[.string ⟨#[]⟩] n) 9) = W := ⟨_, rfl⟩
  have hB : Below w.heap.size w W := by rw [← hW]; exact below_new _ _
  have c1 := (hB.cell (World.block_lt_of_cell? _ _ c0)).trans c0
  have hg : W.heap[w.heap.size]? = some (.cells (madeCells #[.string ⟨#[]⟩] n) 9 (0, 0)) := by rw [← hW]; exact heap_alloc_new w _
  obtain ⟨cur, hcur⟩ : ∃ cur : List Value, (madeCells #[.string ⟨#[]⟩] n) = cur.toArray := ⟨(madeCells #[.string ⟨#[]⟩] n).toList, by simp⟩
  have hcl : cur.length = n := by
    have : (madeCells #[.string ⟨#[]⟩] n).size = n := size_madeCells _ _
    rw [hcur] at this
    simpa using this
  rw [hcur] at hg
  have HB := Lib.hid hB
  have HG := Lib.hid hg
  have HCL := Lib.hid hcl
  have C1 := Lib.hid c1
  have HW := Lib.hid hW
  clear c0 hW hB c1 hcl hg hcur
  go_enter Tryz.func67, Tryz.ntmps67
  go_wp2_with (first | (go_at_call 81; refine M.out.mono ?_; rintro e w1 ⟨rfl, hww⟩; subst hww) | (at_make; refine wpList_make_row _ rfl _ _ 22 rfl 9 i0 (.string ⟨#[]⟩) Tryz.underlying22 hi hz0 hz1 rfl .i64 .i64 n rfl rfl (by rw [hz2]; omega) (by omega) ?_; rw [HW.out]) | ((with_reducible show wpList _ _ _ _ _ _); (refine wpList_copy_splice rfl (.tmp 31) (.tmp 32) 22 22 rfl 9 Tryz.underlying22 infoSizeStr _ _ _ _ _ _ rfl rfl w1.heap.size 0 cur 9 HG.out [.string s] ?q1 ?q2 ?q3 ?q4 w1.heap.size w1 HB.out (Nat.le_refl _) ?_)))
  case q1 => show 1 = min 1 n; omega
  case q2 =>
    intro j v hj
    have hj0 : j = 0 := by have := (List.getElem?_eq_some_iff.1 hj).1; simp at this; omega
    subst hj0
    rw [Nat.add_zero, C1.out]
    simpa using hj
  case q3 => simp [HCL.out]; omega
  case q4 => intro v hv; simp at hv; subst hv; rfl
  intro w2 HG2 hB2
  have HR := Lib.hid (repRow_splice w2 w1.heap.size n 0 1 s cur HCL.out (fun i hi => absurd hi (Nat.not_lt_zero _)) (by omega) HG2.out)
  have HB2 := Lib.hid hB2
  clear hB2 HG2
  go_wp2_with fail
  go_loopw [8] (fun iv wr => ∃ k : Nat, 1 ≤ k ∧ k ≤ n ∧ iv = .int .i64 k ∧ RepRow wr w1.heap.size n k s ∧ Below w1.heap.size w1 wr) (fun i _ => n - (intOf i).toNat)
  case atStart => exact ⟨1, Nat.le_refl _, h1, rfl, HR.out, HB2.out⟩
  case round =>
    obtain ⟨k, hk1, hk, rfl, hr, hb⟩ := hrel
    have HR1 := Lib.hid hr
    have HB3 := Lib.hid hb
    clear hr hb
    by_cases hlt : k < n
    · obtain ⟨m, hm⟩ : ∃ m, min k (n - k) = m := ⟨_, rfl⟩
      obtain ⟨cur3, hg3, hl3, hc3⟩ := HR1.out
      have HG3 := Lib.hid hg3
      have HL3 := Lib.hid hl3
      have HC3 := Lib.hid hc3
      have HM := Lib.hid hm
      have hm0 : 0 < m ∧ m ≤ k ∧ m ≤ n - k := by omega
      have hcp := run_copy_row (P := Tryz.prog) wr.drew 22 22 3 9 w1.heap.size k (n - k) (n - k) ⟨w1.heap.size, 0, none⟩ k n cur3.toArray 9 (List.replicate m (Value.string s)) Tryz.underlying22 infoSizeStr hg3
        (by rw [List.length_replicate, ← hm]) (fun j v hj => HR1.out.cells m hm0.2.1 j v hj) (by simp [hl3]; omega) (by intro v hv; rw [(List.mem_replicate.1 hv).2]; rfl)
      rw [List.length_replicate] at hcp
      obtain ⟨W4, hW4⟩ : ∃ W4, wr.drew.setRow w1.heap.size (cur3.toArray.toList.take k ++ List.replicate m (Value.string s) ++ cur3.toArray.toList.drop (k + m)).toArray = W4 := ⟨_, rfl⟩
      rw [hW4] at hcp
      have hcp : (Builtin.copy_ #[22, 22] 3 #[.slice (some ⟨w1.heap.size, k, none⟩) (n - k) (n - k), .slice (some ⟨w1.heap.size, 0, none⟩) k n]).run Tryz.prog wr.drew = .ok (.int .i64 (m : Int)) W4 := hcp
      have hb4 : Below w1.heap.size w1 W4 := by rw [← hW4]; exact below_setRow (hb := HB3.out.drew) (Nat.le_refl _) _
      have hr4 : RepRow W4 w1.heap.size n (k + m) s := by
        refine repRow_splice W4 w1.heap.size n k m s cur3 hl3 hc3 (by omega) ?_
        rw [← hW4, setRow_heap wr.drew w1.heap.size _ _ 9 _ hg3]
        simp [splice]
      have HB4 := Lib.hid hb4
      have HR4 := Lib.hid hr4
      clear hg3 hl3 hc3 hm hW4 hb4 hr4 HG3 HC3 HL3
      have hne : ¬ (n = k) := by omega
      go_upto_region 9 with fail
      go_region
      go_wp2_with fail
      go_roundw
      case rel => exact ⟨k + m, by omega, by omega, by go_num, HR4.out, HB4.out⟩
      case measure => simp [intOf]; omega
    · obtain rfl : k = n := by omega
      have HF := Lib.hid (HR1.out.strs (by omega) (by unfold maxLen; omega))
      go_wp2_with fail
      go_ret
      exact ⟨_, rfl, HF.out, HB3.out⟩
end Go.Proofs.YtkplpodljmlanaaGreatDoor
/-! The laws' sector: one byte 128 times; the program's blank sector. Conditions: none. -/
namespace Go.Proofs.YtkplpodljmlanaaGreatDoor
open Go.RowKit Go.WideShapes

/-- A sector of one byte. -/
def secB (c : UInt8) : ByteArray := ⟨(List.replicate 128 c).toArray⟩
theorem secB_size (c : UInt8) : (secB c).size = 128 := by simp [secB, ByteArray.size]
theorem secB_inj {c d : UInt8} (h : secB c = secB d) : c = d := by
  have : (List.replicate 128 c) = (List.replicate 128 d) := by
    have := congrArg (fun b : ByteArray => b.data.toList) h
    simpa [secB] using this
  have h2 := congrArg (fun l => l[0]?) this
  simpa using h2
theorem repeat_secB (c : UInt8) : (⟨(Lib.repeatL (⟨#[c]⟩ : ByteArray).data.toList 128).toArray⟩ : ByteArray) = secB c := by
  have h := Lib.repeatL_replicate c 1 128
  rw [show (⟨#[c]⟩ : ByteArray).data.toList = List.replicate 1 c from rfl, h]
  rfl
theorem blank_t (w : World) : Calls Tryz.prog 66 #[.string ⟨#[0]⟩, .int .i64 128] w fun e w' => e = .returned (.string (secB 0)) ∧ Below w.heap.size w w' := by
  have h := Tryz.strings_Repeat ⟨#[0]⟩ 128 w (by decide) (by decide)
  rw [repeat_secB] at h
  exact h
end Go.Proofs.YtkplpodljmlanaaGreatDoor
/-! slices.Backward of writes, and the program's standing (a range over it), by contracts. Conditions: none but the place is one. -/
namespace Go.Proofs.YtkplpodljmlanaaGreatDoor
open Go.RowKit Go.Shelf Go.WideShapes

attribute [local go_sem] Oper.semAt_some

/-- What has come when k rounds are over: the last k, from the end. -/
def backL (ls : List (Int × ByteArray)) : Nat → List (Nat × Int × ByteArray)
  | 0 => []
  | k + 1 => backL ls k ++ [(ls.length - 1 - k, ls.getD (ls.length - 1 - k) (0, ⟨#[]⟩))]
theorem backL_length (ls : List (Int × ByteArray)) (k : Nat) : (backL ls k).length = k := by
  induction k with
  | zero => rfl
  | succ k ih => simp [backL, ih]
theorem backL_mem (ls : List (Int × ByteArray)) (k : Nat) (p : Nat × Int × ByteArray) : p ∈ backL ls k → ∃ j, j < k ∧ p = (ls.length - 1 - j, ls.getD (ls.length - 1 - j) (0, ⟨#[]⟩)) := by
  induction k with
  | zero => intro h; cases h
  | succ k ih =>
    intro h
    rcases List.mem_append.1 h with h | h
    · obtain ⟨j, h1, h2⟩ := ih h
      exact ⟨j, by omega, h2⟩
    · exact ⟨k, by omega, by simpa using h⟩
theorem mem_backL (ls : List (Int × ByteArray)) (k j : Nat) (h : j < k) : (ls.length - 1 - j, ls.getD (ls.length - 1 - j) (0, ⟨#[]⟩)) ∈ backL ls k := by
  induction k with
  | zero => omega
  | succ k ih =>
    rcases Nat.lt_succ_iff_lt_or_eq.1 h with h | rfl
    · exact List.mem_append_left _ (ih h)
    · exact List.mem_append_right _ (by simp)

theorem standsL_append (k : Nat) : ∀ (a b : List (Int × ByteArray)) (s : ByteArray), standsL k s (a ++ b) = standsL k (standsL k s a) b
  | [], _, _ => rfl
  | _ :: a, b, _ => standsL_append k a b _
theorem standsL_none (k : Nat) : ∀ (l : List (Int × ByteArray)) (s : ByteArray), (∀ x ∈ l, x.1 ≠ (k : Int)) → standsL k s l = s
  | [], _, _ => rfl
  | x :: l, s, h => by
    show standsL k (if x.1 = (k : Int) then x.2 else s) l = s
    rw [if_neg (h x (List.mem_cons_self ..))]
    exact standsL_none k l s fun y hy => h y (List.mem_cons_of_mem _ hy)
theorem standsL_last (k i : Nat) (l : List (Int × ByteArray)) (s : ByteArray) (hi : i < l.length) (h1 : (l.getD i (0, ⟨#[]⟩)).1 = (k : Int)) (h2 : ∀ j, i < j → j < l.length → (l.getD j (0, ⟨#[]⟩)).1 ≠ (k : Int)) : standsL k s l = (l.getD i (0, ⟨#[]⟩)).2 := by
  have hg : l.getD i (0, ⟨#[]⟩) = l[i] := by simp [List.getD, hi]
  rw [hg] at h1 ⊢
  have e : l = l.take i ++ (l[i] :: l.drop (i + 1)) := by rw [← List.drop_eq_getElem_cons hi, List.take_append_drop]
  refine (congrArg (standsL k s) e).trans ?_
  rw [standsL_append]
  show standsL k (if l[i].1 = (k : Int) then l[i].2 else _) (l.drop (i + 1)) = _
  rw [if_pos h1]
  rw [standsL_none k _ _ fun x hx => by
    obtain ⟨j, hj, rfl⟩ := List.getElem_of_mem hx
    rw [List.length_drop] at hj
    rw [List.getElem_drop]
    have := h2 (i + 1 + j) (by omega) (by omega)
    have hg2 : l.getD (i + 1 + j) (0, ⟨#[]⟩) = l[i + 1 + j] := by simp [List.getD, show i + 1 + j < l.length by omega]
    rwa [hg2] at this]

/-- What the iterator hands to a round. -/
abbrev encB (x : Nat × Int × ByteArray) : Array Value := #[.int .i64 (x.1 : Int), .agg #[.int .i64 x.2.1, .string x.2.2]]

set_option maxRecDepth 100000 in
set_option maxHeartbeats 4000000 in
/-- slices.Backward's closure. -/
theorem back1_in (F : Fence) (n : Nat) (h44 : F.fn 91) (hro : F.round = none) (hn : 1 ≤ n) (l Bs n₀ c : Nat) (a : Option Addr) (ls : List (Int × ByteArray)) (hl : ls.length ≤ 9223372036854775807) (J Jx : List (Nat × Int × ByteArray) → World → Prop)
    (hY : ∀ pre x W, J pre W → pre.length < ls.length → YieldAt F (n - 1) Tryz.prog l (encB x) W fun e W' =>
      (e = .returned (.bool true) ∧ J (pre ++ [x]) W' ∧ Below n₀ W W') ∨ (e = .returned (.bool false) ∧ Jx (pre ++ [x]) W'))
    (W : World) (hBs : ∀ W', Below n₀ W W' → W'.cell? ⟨Bs, 0, none⟩ = some (.slice a ls.length c)) (hP : ∀ W', Below n₀ W W' → PairsAt W' (.slice a ls.length c) (ls.map writeCell)) (h0 : J [] W) :
    CallsIn F n Tryz.prog 91 #[.func (.yield l) #[] #[], .pointer (some ⟨Bs, 0, none⟩)] W fun e W' => (∃ v, e = .returned v) ∧
      ((∃ ys, ys = backL ls ls.length ∧ J ys W') ∨ (∃ pre, (∃ k, k ≤ ls.length ∧ pre = backL ls k) ∧ Jx pre W')) := by
  have HP := Lib.hid hP
  have HBS := Lib.hid hBs
  have HY := Lib.hid hY
  have HN := Lib.hid (show ∀ k, k < ls.length → backL ls (ls.length - k) = backL ls (ls.length - 1 - k) ++ [(k, ls.getD k (0, ⟨#[]⟩))] from fun k hk => by
    rw [show ls.length - k = (ls.length - 1 - k) + 1 by omega]
    show backL ls (ls.length - 1 - k) ++ [(ls.length - 1 - (ls.length - 1 - k), _)] = _
    rw [show ls.length - 1 - (ls.length - 1 - k) = k by omega])
  obtain ⟨N, hN⟩ : ∃ N, ls.length = N := ⟨_, rfl⟩
  have HNN := Lib.hid hN
  rw [hN] at HP HBS HY HN hl ⊢
  have hc0 := HBS.out W (Below.refl _ _)
  clear hP hBs hY hN
  refine callsIn_of_wp Tryz.func91 rfl h44 ?_ hro
  simp only [Tryz.ntmps91, List.size_toArray, List.length_cons, List.length_nil, Nat.reduceAdd, Nat.reduceSub, Array.replicate_succ, Array.replicate_zero, List.push_toArray, List.append_toArray, List.nil_append, List.cons_append]
  gi_wp2
  gi_loopw [3] (fun i wr => ∃ k : Nat, k ≤ N ∧ i = .int .i64 ((k : Int) - 1) ∧ J (backL ls (N - k)) wr ∧ Below n₀ W wr)
    (fun i _ => (intOf i + 1).toNat)
  case atStart => exact ⟨N, Nat.le_refl _, rfl, by rw [Nat.sub_self]; exact h0, Below.refl _ _⟩
  case round =>
    obtain ⟨k, hk, rfl, hJs, hnx⟩ := hrel
    have HJ := Lib.hid hJs
    have HX := Lib.hid hnx
    clear hJs hnx
    cases k with
    | zero =>
      gi_wp2
      go_end0
      exact ⟨⟨_, rfl⟩, .inl ⟨_, rfl, HJ.out⟩⟩
    | succ k =>
      have hkl : k < ls.length := by rw [HNN.out]; omega
      have hc := HBS.out wr HX.out
      obtain ⟨b, o, rfl, e0, e1⟩ := (HP.out wr HX.out).at k (by rw [List.length_map]; exact hkl)
      rw [write_getElem ls k hkl] at e0 e1
      have hg := Lib.hid (show ls.getD k (0, ⟨#[]⟩) = ls[k] by simp [List.getD, hkl])
      have HNk := Lib.hid (HN.out k (by omega))
      rw [hg.out] at HNk
      obtain ⟨⟨ax, x⟩, hx⟩ : ∃ x, ls[k] = x := ⟨_, rfl⟩
      rw [hx] at e0 e1 HNk
      have hJ1 : J (backL ls (N - 1 - k)) wr := by
        have := HJ.out
        rwa [show N - (k + 1) = N - 1 - k by omega] at this
      obtain ⟨fn, tmps, assign, body, hy, hR⟩ := HY.out _ (k, ax, x) wr hJ1 (by rw [backL_length]; omega)
      rw [← HNk.out] at hR
      have HR := Lib.hid hR
      rw [show (((k + 1 : Nat) : Int) - 1) = (k : Int) by omega]
      have hkN : (k : Int) < (N : Int) := by omega
      clear hg hx hJ1 hR HNk HJ
      rcases Nat.eq_zero_or_pos k with rfl | hk0
      · dsimp only [encB] at hy
        rw [show ((0 : Nat) : Int) = 0 from rfl] at hy
        have e0' : wr.cell? ⟨b, o, none⟩ = some (.int .i64 ax) := by simpa using e0
        have e1' : wr.cell? ⟨b, o + 1, none⟩ = some (.string x) := by simpa using e1
        gi_wp2
        refine HR.out.mono ?_
        rintro e W3 (⟨rfl, hJ3, hk3⟩ | ⟨rfl, hJx3⟩)
        · gi_wp2
          go_roundw
          case rel => exact ⟨0, by omega, rfl, hJ3, HX.out.trans hk3⟩
          case measure => simp [intOf]
        · gi_wp2
          refine bodyPost_ret (results_none rfl _ _ _) rfl ?_
          exact ⟨⟨_, rfl⟩, .inr ⟨_, ⟨N, by omega, rfl⟩, hJx3⟩⟩
      · gi_wp2
        refine HR.out.mono ?_
        rintro e W3 (⟨rfl, hJ3, hk3⟩ | ⟨rfl, hJx3⟩)
        · gi_wp2
          go_roundw
          case rel => exact ⟨k, by omega, rfl, hJ3, HX.out.trans hk3⟩
          case measure => simp [intOf]
        · gi_wp2
          refine bodyPost_ret (results_none rfl _ _ _) rfl ?_
          exact ⟨⟨_, rfl⟩, .inr ⟨_, ⟨N - k, by omega, rfl⟩, hJx3⟩⟩

set_option maxRecDepth 100000 in
set_option maxHeartbeats 1000000 in
theorem back_in (F : Fence) (n : Nat) (h37 : F.fn 73) (hro : F.round = none) (a : Option Addr) (len cap : Nat) (w : World) :
    CallsIn F n Tryz.prog 73 #[.slice a len cap] w fun e w' => e = .returned (.func (.func 91) #[] #[.pointer (some ⟨w.heap.size, 0, none⟩)]) ∧ w' = w.alloc (.cells #[.slice a len cap] 23) := by
  refine callsIn_of_wp Tryz.func73 rfl h37 ?_ hro
  simp only [Tryz.ntmps73, List.size_toArray, List.length_cons, List.length_nil, Nat.reduceAdd, Nat.reduceSub, Array.replicate_succ, Array.replicate_zero, List.push_toArray, List.append_toArray, List.nil_append, List.cons_append]
  gi_wp2
  go_ret
  exact ⟨rfl, rfl⟩

theorem back_stops (F : Fence) (n : Nat) (h44 : F.fn 91) (hro : F.round = none) (hn : 1 ≤ n) (Bs c : Nat) (a : Option Addr) (ls : List (Int × ByteArray)) (hl : ls.length ≤ 9223372036854775807) (w : World)
    (hc : w.cell? ⟨Bs, 0, none⟩ = some (.slice a ls.length c)) (hP : PairsAt w (.slice a ls.length c) (ls.map writeCell)) :
    SeqStopsK F n Tryz.prog 91 #[.pointer (some ⟨Bs, 0, none⟩)] encB (Below w.heap.size) (fun ys => ys = backL ls ls.length) (fun pre => ∃ k, k ≤ ls.length ∧ pre = backL ls k) ls.length w := fun l J Jx W hW _ _ hY h0 =>
  back1_in F n h44 hro hn l Bs w.heap.size c a ls hl J Jx hY W (fun _ h => ((hW.trans h).cell (World.block_lt_of_cell? _ _ hc)).trans hc) (fun _ h => hP.keep (hW.trans h)) h0
end Go.Proofs.YtkplpodljmlanaaGreatDoor
/-! The program's standing of a disk, by a contract. Conditions: the place is one of the disk's. -/
namespace Go.Proofs.YtkplpodljmlanaaGreatDoor
open Go.RowKit Go.Shelf Go.WideShapes

attribute [local go_sem] Oper.semAt_some

/-- The cells that standing's loop keeps. -/
structure StandC (n₀ : Nat) (sv dv : Value) (at' : Int) (r : Value) (W : World) : Prop where
  c0 : W.cell? ⟨n₀, 0, none⟩ = some sv
  c1 : W.cell? ⟨n₀, 1, none⟩ = some dv
  c2 : W.cell? ⟨n₀ + 1, 0, none⟩ = some (.int .i64 at')
  c3 : W.cell? ⟨n₀ + 1 + 1, 0, none⟩ = some r
  fr : W.frozen? ⟨n₀ + 1 + 1, 0, none⟩ = false
theorem StandC.kept {n₀ : Nat} {sv dv : Value} {at' : Int} {r : Value} {W W' : World} {row : Option Nat} (h : StandC n₀ sv dv at' r W) (hg : W.grownBy W' row) (hr : ∀ r, row = some r → ∃ o : Obj, W.heap[r]? = some o ∧ o.isCells = false) : StandC n₀ sv dv at' r W' :=
  ⟨cell_kept h.c0 hg hr, cell_kept h.c1 hg hr, cell_kept h.c2 hg hr, cell_kept h.c3 hg hr, (frozen_kept h.c3 hg hr).trans h.fr⟩
theorem StandC.alloc {n₀ : Nat} {sv dv : Value} {at' : Int} {r : Value} {W : World} (h : StandC n₀ sv dv at' r W) (o : Obj) : StandC n₀ sv dv at' r (W.alloc o) := h.kept (World.grownBy_alloc W o none) (by simp)

/-- No write of these is at the place. -/
def NoneAt (at' : Int) (pre : List (Nat × Int × ByteArray)) : Prop := ∀ p ∈ pre, p.2.1 ≠ at'
/-- The last of these is the first one at the place, and its data lie in the result's cell. -/
def EndAt (n₀ : Nat) (at' : Int) (pre : List (Nat × Int × ByteArray)) (W : World) : Prop := ∃ ini last, pre = ini ++ [last] ∧ NoneAt at' ini ∧ last.2.1 = at' ∧ W.cell? ⟨n₀ + 1 + 1, 0, none⟩ = some (.string last.2.2)

set_option maxRecDepth 100000 in
set_option maxHeartbeats 4000000 in
/-- A sector as it stands. -/
theorem standing_t (v : Value) (d : Dsk) (at' : Nat) (w : World) (h : DskAt w v d) (ha : at' < d.secs.length) :
    Calls Tryz.prog 54 #[v, .int .i64 at'] w fun e w' => e = .returned (.string (d.stands at')) ∧ Below w.heap.size w w' := by
  obtain ⟨ss, ls⟩ := d
  obtain ⟨⟨sv, dv, rfl, hs, hd⟩, hz, hy⟩ := h
  simp only at hs hd ha hz hy
  obtain ⟨sb, so, sc, rfl, s1, s2, s3, s4⟩ := hs.rows (by omega)
  obtain ⟨da, dc, rfl, -, hl⟩ := hd.shape
  unfold maxLen at hl
  rw [List.length_map] at hl hd ⊢
  have hsl : ss.length ≤ 9223372036854775807 := by unfold maxLen at s3; omega
  obtain ⟨s0, hs0⟩ : ∃ s, ss[at'] = s := ⟨_, rfl⟩
  have hg : ss.getD at' ⟨#[]⟩ = s0 := by rw [← hs0]; simp [List.getD, ha]
  have HE := Lib.hid (show (Dsk.mk ss ls).stands at' = standsL at' s0 ls by rw [Dsk.stands, hg])
  have hc0 : w.cell? ⟨sb, so + at', none⟩ = some (.string s0) := by
    have := s4 at' ha
    rwa [hs0] at this
  have HC0 := Lib.hid (fun (W : World) (h : Below w.heap.size w W) => (h.cell (World.block_lt_of_cell? _ _ hc0)).trans hc0)
  have HLAST := Lib.hid (fun (i : Nat) hi h1 h2 => standsL_last at' i ls s0 hi h1 h2)
  have HNONE := Lib.hid (fun h => standsL_none at' ls s0 h)
  refine (callsIn_wide (n := 3)).1 ?_
  have h1 : 1 ≤ 3 := by decide
  obtain ⟨W0, hW0⟩ : ∃ W0, (((w.alloc (.cells #[.slice (some ⟨sb, so, none⟩) ss.length sc, .slice da ls.length dc] 25)).alloc (.cells #[.int .i64 at'] 3)).alloc (.cells #[.string ⟨#[]⟩] 9)).alloc (.cells #[.slice da ls.length dc] 23) = W0 := ⟨_, rfl⟩
  have hsz : W0.heap.size = w.heap.size + 4 := by rw [← hW0]; simp
  have hB0 : Below w.heap.size w W0 := by rw [← hW0]; exact Below.then (Below.then (Below.then (below_new _ _) (below_new _ _)) (below_new _ _)) (below_new _ _)
  have hC : StandC w.heap.size (.slice (some ⟨sb, so, none⟩) ss.length sc) (.slice da ls.length dc) (at' : Int) (.string ⟨#[]⟩) W0 := by
    have A := (At2.new 25 w (.slice (some ⟨sb, so, none⟩) ss.length sc) (.slice da ls.length dc)).cells
    have B := Boxed.new (w.alloc (.cells #[.slice (some ⟨sb, so, none⟩) ss.length sc, .slice da ls.length dc] 25)) 3 (.int .i64 at')
    have C := Boxed.new ((w.alloc (.cells #[.slice (some ⟨sb, so, none⟩) ss.length sc, .slice da ls.length dc] 25)).alloc (.cells #[.int .i64 at'] 3)) 9 (.string ⟨#[]⟩)
    rw [World.size_alloc] at B C
    rw [World.size_alloc] at C
    have kc : ∀ {p : Addr} {v : Value} {w : World} (o : Obj), w.cell? p = some v → (w.alloc o).cell? p = some v := fun {p v w} o h => ((below_new w o).cell (World.block_lt_of_cell? _ _ h)).trans h
    rw [← hW0]
    exact ⟨kc _ (kc _ (kc _ A.1)), kc _ (kc _ (kc _ A.2)), kc _ (kc _ B.cell), kc _ C.cell, (C.alloc _).frozen⟩
  have hcB : W0.cell? ⟨w.heap.size + 1 + 1 + 1, 0, none⟩ = some (.slice da ls.length dc) := by
    have D := Boxed.new (((w.alloc (.cells #[.slice (some ⟨sb, so, none⟩) ss.length sc, .slice da ls.length dc] 25)).alloc (.cells #[.int .i64 at'] 3)).alloc (.cells #[.string ⟨#[]⟩] 9)) 23 (.slice da ls.length dc)
    rw [World.size_alloc, World.size_alloc, World.size_alloc, hW0] at D
    exact D.cell
  have hp0 := hd.keep hB0
  have HW := Lib.hid hW0
  clear hs hz hy hW0 hs0 hg s4 hc0
  refine callsIn_of_wp_marks Tryz.func54 rfl trivial ?_ rfl
  simp only [Tryz.ntmps54, List.size_toArray, List.length_cons, List.length_nil, Nat.reduceAdd, Nat.reduceSub, Array.replicate_succ, Array.replicate_zero, List.push_toArray, List.append_toArray, List.nil_append, List.cons_append]
  gi_wp2_with (refine ⟨trivial, ?_⟩; gi_at_call 73; refine (back_in Fence.wide (3 - 1) trivial rfl _ _ _ _).mono ?_; rintro e w' ⟨rfl, rfl⟩)
  rw [HW.out]
  refine wpIn_rangeFunc_ownH rfl h1 (gf := 91) (lb := #[.pointer (some ⟨w.heap.size + 1 + 1 + 1, 0, none⟩)]) rfl trivial (enters_of Tryz.func91 (by kernel_rfl) rfl)
    (back_stops Fence.wide (3 - 1) trivial rfl (by decide) (w.heap.size + 1 + 1 + 1) dc da ls (by omega) W0 hcB hp0) belowK_t (belowK_b (Nat.le_refl _)) (Below.refl _ _) (fun _ => rfl)
    (fun pre W => (StandC w.heap.size (.slice (some ⟨sb, so, none⟩) ss.length sc) (.slice da ls.length dc) (at' : Int) (.string ⟨#[]⟩) W ∧ NoneAt (at' : Int) pre) ∧ Below w.heap.size W0 W)
    (fun c pre W => (c = .ret ∧ EndAt w.heap.size (at' : Int) pre W) ∧ Below w.heap.size W0 W)
    (OwnFrom.and (Own.from (fun s A B row hs hg hr => ⟨hs.1.kept hg hr, hs.2⟩) _) (ownFrom_below (by rw [hsz]; omega) (by rw [hsz]; omega)))
    (fun c => OwnFrom.and (Own.from (fun s A B row hs hg hr => by obtain ⟨hc, ini, last, e1, e2, e3, e4⟩ := hs; exact ⟨hc, ini, last, e1, e2, e3, cell_kept e4 hg hr⟩) _) (ownFrom_below (by rw [hsz]; omega) (by rw [hsz]; omega)))
    ⟨⟨hC, fun _ h => by cases h⟩, Below.refl _ _⟩
    (fun x a' W => ∃ Bx, At2 48 W Bx (.int .i64 x.2.1) (.string x.2.2) ∧ a' = { tmps := #[.agg #[.slice (some ⟨sb, so, none⟩) ss.length sc, .slice da ls.length dc], .int .i64 at', .pointer (some ⟨w.heap.size, 0, none⟩), .pointer (some ⟨w.heap.size + 1, 0, none⟩), .pointer (some ⟨w.heap.size + 1 + 1, 0, none⟩), undef, .pointer (some ⟨Bx, 0, none⟩), .pointer (some ⟨w.heap.size, 1, none⟩), .slice da ls.length dc, .func (.func 91) #[] #[.pointer (some ⟨w.heap.size + 1 + 1 + 1, 0, none⟩)], .int .i64 (x.1 : Int), .agg #[.int .i64 x.2.1, .string x.2.2], undef, undef, undef, undef, undef, undef, undef, undef, undef, undef, undef], defers := [] })
    (fun x a' => by
      rintro s A B row ⟨Bx, h2, h3⟩ hg hr
      refine ⟨Bx, (hg.block Bx h2.lt (fun e => ?_)).trans h2, h3⟩
      obtain ⟨-, o, ho, hc⟩ := hr Bx e.symm
      rw [show A.heap[Bx]? = _ from h2] at ho; cases ho; cases hc)
    ?assign ?body ?done ?stop
  case assign =>
    rintro l pre ⟨i, ax, x⟩ W K ⟨⟨hi, hp⟩, hB⟩ hK
    gi_wp2
    exact hK _ _ ((KeepsOthers.alloc _ _).from _) ((Below.refl _ W).alloc hB.size _) ⟨⟨hi.alloc _, hp⟩, hB.alloc (by have := hB.size; rw [hsz] at this; omega) _⟩ ⟨W.heap.size, At2.new _ _ _ _, rfl⟩
  case body =>
    rintro l pre ⟨i, ax, x⟩ a' W - - ⟨⟨hi, hp⟩, hB⟩ ⟨Bx, hX, rfl⟩ -
    obtain ⟨x0, x1⟩ := hX.cells
    obtain ⟨k0, k1, k2, k3, kf⟩ := hi
    have HP := Lib.hid hp
    have HB := Lib.hid hB
    clear hp hB hX
    by_cases he : ax = (at' : Int)
    · have q : (ax == (at' : Int)) = true := beq_iff_eq.2 he
      have HEQ := Lib.hid he
      clear he
      gi_wp2
      exact ⟨(KeepsOthers.setCell _ _ _).from _, ⟨rfl, ⟨pre, (i, ax, x), rfl, HP.out, HEQ.out, World.cell?_setCell_same' _ _ _ (by rw [k3]; rfl)⟩⟩, HB.out.setCell (p := ⟨w.heap.size + 1 + 1, 0, none⟩) (by show w.heap.size ≤ w.heap.size + 1 + 1; omega) _⟩
    · have q : (ax == (at' : Int)) = false := beq_eq_false_iff_ne.2 he
      have HEQ := Lib.hid he
      clear he
      gi_wp2
      exact ⟨KeepsFrom.refl _ _, Below.refl _ _, ⟨⟨k0, k1, k2, k3, kf⟩, fun p hp' => (List.mem_append.1 hp').elim (HP.out p) (fun e => by rw [List.mem_singleton.1 e]; exact HEQ.out)⟩, HB.out⟩
  case done =>
    rintro D ys W hD rfl ⟨⟨hi, hp⟩, hB⟩ hK
    have HS := Lib.hid (HNONE.out fun x hx => by
      obtain ⟨j, hj, rfl⟩ := List.getElem_of_mem hx
      have := hp _ (mem_backL ls ls.length (ls.length - 1 - j) (by omega))
      rw [show ls.length - 1 - (ls.length - 1 - j) = j by omega] at this
      simpa [List.getD, hj] using this)
    have c := HC0.out W (hB0.trans hB)
    obtain ⟨k0, k1, k2, k3, kf⟩ := hi
    have HB := Lib.hid hB
    have ha' : (at' : Int) < (ss.length : Int) := by omega
    clear hp hB
    gi_wp2
    have hK' := (KeepsOthers.setCell W ⟨w.heap.size + 1 + 1, 0, none⟩ (.string s0)).same D _ hK rfl
    refine ⟨by simp, .inl ⟨_, _, rfl, run_takeDeferred hK', ?_⟩⟩
    have hc5 := cell_kept (World.cell?_setCell_same' W ⟨w.heap.size + 1 + 1, 0, none⟩ (.string s0) (by rw [k3]; rfl)) (grownBy_putObj' _ D (.deferred none)) (fun r e => by cases e; exact ⟨_, hK', rfl⟩)
    refine ⟨.string s0, ?_, by rw [HE.out, HS.out], hB0.trans ((HB.out.setCell (p := ⟨w.heap.size + 1 + 1, 0, none⟩) (by show w.heap.size ≤ w.heap.size + 1 + 1; omega) _).trans (belowK_b (w := w) (Nat.le_refl _) _ D _ _ (by rw [hsz] at hD; omega) hK' rfl rfl))⟩
    simp [results, Tryz.f54, go_sem, hc5]
  case stop =>
    rintro D c pre W hD ⟨k, hk, rfl⟩ ⟨⟨rfl, ini, last, e1, e2, e3, hcr⟩, hB⟩ hK
    have HB := Lib.hid hB
    clear hB
    gi_wp2
    refine ⟨by simp, .inl ⟨_, _, rfl, run_takeDeferred hK, ?_⟩⟩
    have hc5 := cell_kept hcr (grownBy_putObj' _ D (.deferred none)) (fun r e => by cases e; exact ⟨_, hK, rfl⟩)
    obtain ⟨k', rfl⟩ : ∃ k', k = k' + 1 := by
      cases k with
      | zero => simp [backL] at e1
      | succ k' => exact ⟨k', rfl⟩
    obtain ⟨rfl, e5⟩ := List.append_inj' e1 rfl
    obtain rfl : (ls.length - 1 - k', ls.getD (ls.length - 1 - k') (0, ⟨#[]⟩)) = last := by simpa using e5
    have HS := HLAST.out (ls.length - 1 - k') (by omega) e3 (fun j h1 h2 => by
      have := e2 _ (mem_backL ls k' (ls.length - 1 - j) (by omega))
      rwa [show ls.length - 1 - (ls.length - 1 - j) = j by omega] at this)
    refine ⟨.string (ls.getD (ls.length - 1 - k') (0, ⟨#[]⟩)).2, ?_, by rw [HE.out, HS], hB0.trans (HB.out.trans (belowK_b (w := w) (Nat.le_refl _) W D _ _ (by rw [hsz] at hD; omega) hK rfl rfl))⟩
    simp [results, Tryz.f54, go_sem, hc5]
end Go.Proofs.YtkplpodljmlanaaGreatDoor
/-! What stays when a disk's own two cells are written anew; a disk as a result; the program's New and Load of a disk, by contracts. Conditions: none. -/
namespace Go.Proofs.YtkplpodljmlanaaGreatDoor
open Go.RowKit Go.WideShapes

/-! ### Cells that are no slices stay -/
def IsSl (u : Value) : Prop := ∃ a n c, u = .slice a n c
def NS (w w' : World) : Prop := ∀ p u, ¬ IsSl u → w.cell? p = some u → w'.cell? p = some u
theorem Below.ns {w w' : World} (h : Below w.heap.size w w') : NS w w' := fun _ _ _ hc => (h.cell (World.block_lt_of_cell? _ _ hc)).trans hc
theorem NS.then {w w1 w2 : World} (h : NS w w1) (h2 : NS w1 w2) : NS w w2 := fun p u hu hc => h2 p u hu (h p u hu hc)
theorem NS.refl (w : World) : NS w w := fun _ _ _ h => h
theorem isSl_no_str (s : ByteArray) : ¬ IsSl (.string s) := by rintro ⟨a, n, c, h⟩; cases h
theorem isSl_no_int (k : IntKind) (s : Int) : ¬ IsSl (.int k s) := by rintro ⟨a, n, c, h⟩; cases h
theorem StrsAt.ns {w w' : World} {v : Value} {l : List ByteArray} (h : StrsAt w v l) (hn : NS w w') : StrsAt w' v l := by
  rcases h with h | ⟨b, o, cap, h1, h2, h3, h4, h5⟩
  · exact Or.inl h
  · exact Or.inr ⟨b, o, cap, h1, h2, h3, h4, fun i hi => hn _ _ (isSl_no_str _) (h5 i hi)⟩
theorem WritesAt.ns {w w' : World} {v : Value} {l : List (Int × ByteArray)} (h : PairsAt w v (l.map writeCell)) (hn : NS w w') : PairsAt w' v (l.map writeCell) := by
  rcases h with h | ⟨b, o, cap, h1, h2, h3, h4, h5⟩
  · exact Or.inl h
  · refine Or.inr ⟨b, o, cap, h1, h2, h3, h4, fun i hi => ?_⟩
    have hi' : i < l.length := by rwa [List.length_map] at hi
    have := h5 i hi
    rw [write_getElem l i hi'] at this ⊢
    exact ⟨hn _ _ (isSl_no_int _ _) this.1, hn _ _ (isSl_no_str _) this.2⟩
theorem IntsAt.ns {w w' : World} {v : Value} {l : List Int} (h : IntsAt w v l) (hn : NS w w') : IntsAt w' v l := by
  rcases h with h | ⟨b, o, cap, h1, h2, h3, h4, h5⟩
  · exact Or.inl h
  · exact Or.inr ⟨b, o, cap, h1, h2, h3, h4, fun i hi => hn _ _ (isSl_no_int _ _) (h5 i hi)⟩
theorem DskAt.ns {w w' : World} {v : Value} {d : Dsk} (h : DskAt w v d) (hn : NS w w') : DskAt w' v d := by
  obtain ⟨⟨sv, dv, e, h1, h2⟩, h3, h4⟩ := h
  exact ⟨⟨sv, dv, e, h1.ns hn, WritesAt.ns h2 hn⟩, h3, h4⟩

/-- Two stores into a block of two. -/
def set2 (w : World) (B : Nat) (v0 v1 : Value) : World := (w.setCell ⟨B, 0, none⟩ v0).setCell ⟨B, 1, none⟩ v1
theorem At2.set {t : TypeId} {w : World} {B : Nat} {a b : Value} (h : At2 t w B a b) (v0 v1 : Value) : At2 t (set2 w B v0 v1) B v0 v1 := by
  have h0 : (w.setCell ⟨B, 0, none⟩ v0).heap[B]? = some (.cells #[v0, b] t (0, 0)) := by rw [heap_setCell_same _ _ _ _ _ _ h]; rfl
  unfold set2 At2
  rw [heap_setCell_same _ _ _ _ _ _ h0]; rfl
theorem set2_below {B B0 : Nat} {w0 w : World} (h : Below B0 w0 w) (hB : B0 ≤ B) (v0 v1 : Value) : Below B0 w0 (set2 w B v0 v1) := (h.setCell (p := ⟨B, 0, none⟩) hB _).setCell (p := ⟨B, 1, none⟩) hB _
theorem set2_ns {t : TypeId} {w : World} {B : Nat} {a b : Value} (h : At2 t w B a b) (ha : IsSl a) (hb : IsSl b) (v0 v1 : Value) : NS w (set2 w B v0 v1) := by
  intro p u hu hc
  by_cases e : p.block = B
  · exfalso
    obtain ⟨pb, po, ps⟩ := p
    simp only at e
    subst e
    cases ps with
    | some q => simp [World.cell?, show w.heap[pb]? = _ from h] at hc
    | none =>
      have hc' : (#[a, b] : Array Value)[po]? = some u := by simpa [World.cell?, show w.heap[pb]? = _ from h] using hc
      match po, hc' with
      | 0, hc' => exact hu (by simp at hc'; exact hc' ▸ ha)
      | 1, hc' => exact hu (by simp at hc'; exact hc' ▸ hb)
      | n + 2, hc' => simp at hc'
  · unfold set2
    have e1 : (w.setCell ⟨B, 0, none⟩ v0).cell? p = w.cell? p := World.cell?_of_block (Below.heap_setCell _ _ _ _ e)
    have e2 : ((w.setCell ⟨B, 0, none⟩ v0).setCell ⟨B, 1, none⟩ v1).cell? p = (w.setCell ⟨B, 0, none⟩ v0).cell? p := World.cell?_of_block (Below.heap_setCell _ _ _ _ e)
    rw [e2, e1, hc]
theorem At2.other {t : TypeId} {w : World} {B B' : Nat} {a b : Value} (h : At2 t w B a b) (hne : B ≠ B') (v0 v1 : Value) : At2 t (set2 w B' v0 v1) B a b := by
  unfold set2 At2
  rw [Below.heap_setCell _ _ _ _ hne, Below.heap_setCell _ _ _ _ hne]
  exact h

theorem At2.free {t : TypeId} {w : World} {B : Nat} {a b : Value} (h : At2 t w B a b) : w.frozen? ⟨B, 0, none⟩ = false ∧ w.frozen? ⟨B, 1, none⟩ = false := by
  unfold At2 at h
  refine ⟨?_, ?_⟩ <;> simp [World.frozen?, h]

/-! ### A disk -/
abbrev nilV : Value := .slice none 0 0
theorem isSl_nil : IsSl nilV := ⟨_, _, _, rfl⟩
theorem isSl_mk (a : Option Addr) (n c : Nat) : IsSl (.slice a n c) := ⟨_, _, _, rfl⟩
def emptyD : Dsk := ⟨[], []⟩
theorem emptyD_at (w : World) : DskAt w (.agg #[nilV, nilV]) emptyD := ⟨⟨nilV, nilV, rfl, Or.inl ⟨rfl, Or.inl rfl⟩, Or.inl ⟨rfl, Or.inl rfl⟩⟩, fun s hs => (by cases hs), fun l hl => (by cases hl)⟩
theorem DskAt.shape {w : World} {v : Value} {d : Dsk} (h : DskAt w v d) : ∃ a c a' c', v = .agg #[.slice a d.secs.length c, .slice a' d.dirty.length c'] ∧ d.secs.length ≤ 9223372036854775807 ∧ d.dirty.length ≤ 9223372036854775807 := by
  obtain ⟨⟨sv, dv, rfl, h1, h2⟩, -, -⟩ := h
  obtain ⟨a, c, rfl, -, h3⟩ := h1.shape
  obtain ⟨a', c', rfl, -, h4⟩ := h2.shape
  rw [List.length_map] at h4 ⊢
  exact ⟨a, c, a', c', rfl, h3, h4⟩
theorem infoDsk : (Tryz.prog.info? 25).map (·.size) = some 2 := by kernel_rfl
/-- A disk that lies in a cell as the first result, and a number beside it. -/
theorem results_dsk {fn : Func} {p u : Tmp} (h : fn.results = #[.cell p 25, .tmp u]) (tmps : Array Value) (w : World) (g : Nat) (a b : Value)
    (hp : tmps.getD p undef = .pointer (some ⟨g, 0, none⟩)) (hg : At2 25 w g a b) :
    (results fn tmps).run Tryz.prog w = .ok (.tuple #[.agg #[a, b], tmps.getD u undef]) w := by
  rw [results_cell_tmp h, hp]
  simp [asAddr, run_loadVar_row w g 25 25 _ (0, 0) _ hg Tryz.underlying25 rfl infoDsk]

/-- What New answers. -/
def newD (n : Int) : Dsk × Int := if haveB n then (⟨List.replicate n.toNat (secB 0), []⟩, 0) else (emptyD, 1)
/-- A disk and a number, as a call answers them. -/
def DskOut (r : Dsk × Int) (w : World) (e : Ending) (w' : World) : Prop := ∃ v, e = .returned (.tuple #[v, .int .i64 r.2]) ∧ DskAt w' v r.1 ∧ Below w.heap.size w w'

set_option maxRecDepth 100000 in
set_option maxHeartbeats 2000000 in
theorem New_t (n : Int) (w : World) : Calls Tryz.prog 44 #[.int .i64 n] w (DskOut (newD n) w) := by
  obtain ⟨W, hW⟩ : ∃ W, w.alloc (.cells #[nilV, nilV] 25) = W := ⟨_, rfl⟩
  have hsz : W.heap.size = w.heap.size + 1 := by rw [← hW]; simp
  have HB := Lib.hid (show Below w.heap.size w W by rw [← hW]; exact below_new _ _)
  have HA := Lib.hid (show At2 25 W w.heap.size nilV nilV by rw [← hW]; exact At2.new _ _ _ _)
  have M := Lib.hid (mayHave_t n W)
  obtain ⟨m, hm⟩ : ∃ m, haveB n = m := ⟨_, rfl⟩
  rw [hm] at M
  have HM := Lib.hid hm
  have HW := Lib.hid hW
  clear hm hW
  cases m with
  | false =>
    have HO := Lib.hid (show newD n = (emptyD, 1) by rw [newD, HM.out]; rfl)
    go_enter Tryz.func44, Tryz.ntmps44
    go_upto_region 1 with fail
    rw [HW.out]
    obtain ⟨a0, a1⟩ := HA.out.cells
    obtain ⟨f0, f1⟩ := HA.out.free
    go_wp2_with (go_at_call 56; refine M.out.mono ?_; rintro e w1 ⟨rfl, rfl⟩)
    exact bodyPost_ret (results_dsk (p := 2) (u := 3) rfl _ _ w.heap.size _ _ rfl (HA.out.set _ _)) rfl ⟨_, by rw [HO.out]; rfl, by rw [HO.out]; exact emptyD_at _, set2_below HB.out (Nat.le_refl _) _ _⟩
  | true =>
    have hn : 4 ≤ n ∧ n ≤ 64 := by
      have := HM.out
      simpa [haveB] using this
    obtain ⟨k, rfl⟩ : ∃ k : Nat, n = (k : Int) := ⟨n.toNat, by omega⟩
    have HO := Lib.hid (show newD (k : Int) = (⟨List.replicate k (secB 0), []⟩, 0) by rw [newD, HM.out]; rfl)
    have R := Lib.hid (fun (b c : Nat) (w : World) (h : w.cell? ⟨b, 0, none⟩ = some (.string (secB 0))) => Repeat_t b 0 c k (secB 0) w (by omega) (by omega) h)
    have BL := Lib.hid (blank_t W)
    clear hn
    go_enter Tryz.func44, Tryz.ntmps44
    go_upto_region 1 with fail
    rw [HW.out]
    go_wp2_with (first | (go_at_call 56; refine M.out.mono ?_; rintro e w1 ⟨rfl, hw⟩; subst hw) | (go_at_call 66; refine BL.out.mono ?_; rintro e w2 ⟨rfl, hb2⟩))
    have HB2 := Lib.hid hb2
    clear hb2
    obtain ⟨W3, hW3⟩ : ∃ W3, w2.alloc (.cells #[.string (secB 0)] 9) = W3 := ⟨_, rfl⟩
    have c0 := Lib.hid (show W3.cell? ⟨w2.heap.size, 0, none⟩ = some (.string (secB 0)) by rw [← hW3, World.cell?_alloc_at _ _ _ _ rfl]; rfl)
    have HB3 := Lib.hid (show Below w2.heap.size w2 W3 by rw [← hW3]; exact below_new _ _)
    have HW3 := Lib.hid hW3
    clear hW3
    rw [HW3.out]
    refine (R.out _ _ _ c0.out).mono ?_
    rintro e w4 ⟨v, rfl, hst, hb4⟩
    obtain ⟨a, c, rfl, -, -⟩ := hst.shape
    rw [List.length_replicate] at hst ⊢
    have HB4 := Lib.hid (Below.then HB2.out (Below.then HB3.out hb4))
    have HA4 := Lib.hid (HA.out.keep HB4.out)
    have HS := Lib.hid hst
    obtain ⟨a0, a1⟩ := HA4.out.cells
    obtain ⟨f0, f1⟩ := HA4.out.free
    clear hst hb4
    go_wp2_with fail
    exact bodyPost_ret (results_dsk (p := 2) (u := 3) rfl _ _ w.heap.size _ _ rfl (HA4.out.set _ _)) rfl ⟨_, by rw [HO.out]; rfl, by
      rw [HO.out]
      refine ⟨⟨_, _, rfl, HS.out.ns (set2_ns HA4.out isSl_nil isSl_nil _ _), Or.inl ⟨rfl, Or.inl rfl⟩⟩, fun s hs => ?_, fun l hl => (by cases hl)⟩
      rw [List.eq_of_mem_replicate hs, secB_size]; unfold maxLen; decide, set2_below (Below.then HB.out HB4.out) (Nat.le_refl _) _ _⟩

/-- What Load answers. -/
def loadD (d : Dsk) (at' : Int) : ByteArray × Int := if d.right && placeB d.secs.length at' then (d.stands at'.toNat, 0) else (⟨#[]⟩, 1)
end Go.Proofs.YtkplpodljmlanaaGreatDoor
/-! The program's Flush of a disk, by a contract. Conditions: none. -/
namespace Go.Proofs.YtkplpodljmlanaaGreatDoor
open Go.RowKit Go.WideShapes

structure RightIs (d : Dsk) : Prop where
  secs : ∀ s ∈ d.secs, s.size = 128
  least : 4 ≤ d.secs.length
  most : d.secs.length ≤ 64
  few : d.dirty.length ≤ 200
  well : ∀ w ∈ d.dirty, 0 ≤ w.1 ∧ w.1 < (d.secs.length : Int) ∧ w.2.size = 128
theorem well_iff (n : Nat) (l : List (Int × ByteArray)) : wellB n l = true ↔ ∀ w ∈ l, 0 ≤ w.1 ∧ w.1 < (n : Int) ∧ w.2.size = 128 := by
  rw [wellB, List.all_eq_true]
  refine forall_congr' fun w => ?_
  refine imp_congr_right fun _ => ?_
  simp only [Bool.and_eq_true, decide_eq_true_eq, beq_iff_eq]
  exact ⟨fun h => ⟨h.1.1, h.1.2, h.2⟩, fun h => ⟨⟨h.1, h.2.1⟩, h.2.2⟩⟩
theorem right_iff (d : Dsk) : d.right = true ↔ RightIs d := by
  unfold Dsk.right
  simp only [Bool.and_eq_true, decide_eq_true_eq, List.all_eq_true, beq_iff_eq, well_iff]
  exact ⟨fun ⟨⟨⟨⟨h1, h2⟩, h3⟩, h4⟩, h5⟩ => ⟨h1, h2, h3, h4, h5⟩, fun h => ⟨⟨⟨⟨h.secs, h.least⟩, h.most⟩, h.few⟩, h.well⟩⟩
theorem standsL_size (k : Nat) : ∀ (l : List (Int × ByteArray)) (s : ByteArray), s.size = 128 → (∀ w ∈ l, w.2.size = 128) → (standsL k s l).size = 128
  | [], _, h, _ => h
  | w :: l, s, h, hw => by
    refine standsL_size k l _ ?_ fun x hx => hw x (List.mem_cons_of_mem _ hx)
    split
    · exact hw w (List.mem_cons_self ..)
    · exact h
theorem sec_size {d : Dsk} (h : RightIs d) {k : Nat} (hk : k < d.secs.length) : (d.secs.getD k ⟨#[]⟩).size = 128 := by
  rw [List.getD_eq_getElem?_getD, List.getElem?_eq_getElem hk]
  exact h.secs _ (List.getElem_mem hk)
theorem stands_size {d : Dsk} (h : RightIs d) {k : Nat} (hk : k < d.secs.length) : (d.stands k).size = 128 := standsL_size k _ _ (sec_size h hk) fun w hw => (h.well w hw).2.2
theorem dleft_size {d : Dsk} (h : RightIs d) (fs : List Int) {k : Nat} (hk : k < d.secs.length) : (d.left k fs).size = 128 := left_size k _ _ _ (sec_size h hk) fun w hw => (h.well w hw).2.2

/-- The disk of these sectors. -/
def clean (n : Nat) (f : Nat → ByteArray) : Dsk := ⟨(List.range n).map f, []⟩
theorem clean_at {w : World} {g n : Nat} {f : Nat → ByteArray} (hg : ∀ i, i < n → w.cell? ⟨g, i, none⟩ = some (.string (f i))) (hn : 0 < n) (c : Nat) (hc : n ≤ c) (hm : c ≤ maxLen) (hz : ∀ i, i < n → (f i).size = 128) :
    DskAt w (.agg #[.slice (some ⟨g, 0, none⟩) n c, nilV]) (clean n f) := by
  refine ⟨⟨_, _, rfl, Or.inr ⟨g, 0, c, by simp [clean], by simp [clean]; exact hn, by simp [clean]; exact hc, hm, fun i hi => ?_⟩, Or.inl ⟨rfl, Or.inl rfl⟩⟩, fun s hs => ?_, fun l hl => (by cases hl)⟩
  · have hi' : i < n := by simpa [clean] using hi
    rw [Nat.zero_add, hg i hi']
    simp [clean]
  · simp only [clean, List.mem_map, List.mem_range] at hs
    obtain ⟨i, hi, rfl⟩ := hs
    rw [hz i hi]; unfold maxLen; decide

def flushD (d : Dsk) : Dsk × Int := if d.right then (clean d.secs.length d.stands, 0) else (emptyD, 1)
set_option maxRecDepth 100000 in
set_option maxHeartbeats 4000000 in
theorem Flush_t (v : Value) (d : Dsk) (w : World) (h : DskAt w v d) : Calls Tryz.prog 28 #[v] w (DskOut (flushD d) w) := by
  obtain ⟨i0, hi, hz0, hz1, hz2⟩ := info_parts infoStr
  have HV := Lib.hid h
  obtain ⟨a, c, a', c', rfl, -, -⟩ := h.shape
  have R := Lib.hid (fun w (h : DskAt w (.agg #[.slice a d.secs.length c, .slice a' d.dirty.length c']) d) => Right_t _ d w h)
  have S := Lib.hid (fun (k : Nat) w (h : DskAt w (.agg #[.slice a d.secs.length c, .slice a' d.dirty.length c']) d) (hk : k < d.secs.length) => standing_t _ d k w h hk)
  have HE := Lib.hid (show flushD d = if d.right then (clean d.secs.length d.stands, 0) else (emptyD, 1) from rfl)
  have HR := Lib.hid (right_iff d)
  obtain ⟨r, hr⟩ : ∃ r, d.right = r := ⟨_, rfl⟩
  obtain ⟨n, hn⟩ : ∃ r, d.secs.length = r := ⟨_, rfl⟩
  obtain ⟨n', hn'⟩ : ∃ r, d.dirty.length = r := ⟨_, rfl⟩
  rw [hr] at HE R HR
  rw [hn] at R S HV HE ⊢
  rw [hn'] at R S HV ⊢
  have HN := Lib.hid hn
  obtain ⟨W, hW⟩ : ∃ W, (w.alloc (.cells #[.slice a n c, .slice a' n' c'] 25)).alloc (.cells #[nilV, nilV] 25) = W := ⟨_, rfl⟩
  have hsz : W.heap.size = w.heap.size + 1 + 1 := by rw [← hW]; simp
  have HB := Lib.hid (show Below w.heap.size w W by rw [← hW]; exact Below.then (below_new _ _) (below_new _ _))
  have HA := Lib.hid (show At2 25 W w.heap.size (.slice a n c) (.slice a' n' c') by rw [← hW]; exact (At2.new _ _ _ _).keep (below_new _ _))
  have HC := Lib.hid (show At2 25 W (w.heap.size + 1) nilV nilV by
    rw [← hW]
    have e := At2.new 25 (w.alloc (.cells #[.slice a n c, .slice a' n' c'] 25)) nilV nilV
    rwa [World.size_alloc] at e)
  have HW := Lib.hid hW
  have R1 := Lib.hid (R.out W (HV.out.keep HB.out))
  clear hW h hr hn hn' R
  go_enter Tryz.func28, Tryz.ntmps28
  go_upto_region 1 with fail
  rw [HW.out]
  obtain ⟨a0, a1⟩ := HA.out.cells
  go_wp2_with fail
  refine R1.out.mono ?_
  rintro e w1 ⟨rfl, hb1⟩
  have HB1 := Lib.hid hb1
  have HA1 := Lib.hid (HA.out.keep hb1)
  have HC1 := Lib.hid (HC.out.keep hb1)
  clear hb1 a0 a1 R1
  cases r with
  | false =>
    have HO := Lib.hid (show flushD d = (emptyD, 1) by rw [HE.out]; rfl)
    obtain ⟨b0, b1⟩ := HC1.out.cells
    obtain ⟨f0, f1⟩ := HC1.out.free
    go_wp2_with fail
    exact bodyPost_ret (results_dsk (p := 2) (u := 3) rfl _ _ (w.heap.size + 1) _ _ rfl (HC1.out.set _ _)) rfl ⟨_, by rw [HO.out]; rfl, by rw [HO.out]; exact emptyD_at _, set2_below (Below.then HB.out HB1.out) (by omega) _ _⟩
  | true =>
    have HRI := Lib.hid (HR.out.1 rfl)
    have hn : 4 ≤ n ∧ n ≤ 64 := by rw [← HN.out]; exact ⟨HRI.out.least, HRI.out.most⟩
    have HO := Lib.hid (show flushD d = (clean n d.stands, 0) by rw [HE.out]; rfl)
    obtain ⟨W2, hW2⟩ : ∃ W2, w1.alloc (.cells (madeCells #[.string ⟨#[]⟩] n) 9) = W2 := ⟨_, rfl⟩
    have HI := Lib.hid (show W2.rowIs w1.heap.size 9 n (fun _ => .string ⟨#[]⟩) by rw [← hW2]; exact World.rowIs_made _ _ _ _)
    have HB2 := Lib.hid (show Below W.heap.size W W2 by rw [← hW2]; exact Below.then HB1.out (below_new _ _))
    have hg : W.heap.size ≤ w1.heap.size := HB1.out.size
    have HW2 := Lib.hid hW2
    obtain ⟨a0, a1⟩ := HA1.out.cells
    clear hW2
    go_wp2_with (at_make; refine wpList_make_row _ rfl _ _ 22 rfl 9 i0 (.string ⟨#[]⟩) Tryz.underlying22 hi hz0 hz1 rfl .i64 .i64 n rfl rfl (by rw [hz2]; omega) (by omega) ?_; rw [HW2.out])
    obtain ⟨g, hgg⟩ : ∃ g, w1.heap.size = g := ⟨_, rfl⟩
    rw [hgg] at hg HI ⊢
    clear hgg a0 a1
    go_loopw [16] (fun iv wr => ∃ k : Nat, k ≤ n ∧ iv = .int .i64 k ∧ wr.rowIs g 9 n (fun i => if i < k then .string (d.stands i) else .string ⟨#[]⟩) ∧ Below W.heap.size W wr) (fun i _ => n - (intOf i).toNat)
    case atStart => exact ⟨0, Nat.zero_le _, rfl, by simpa using HI.out, HB2.out⟩
    case round =>
      obtain ⟨k, hk, rfl, hrow, hb⟩ := hrel
      have HRW := Lib.hid hrow
      have HBR := Lib.hid hb
      have HAR := Lib.hid (HA.out.keep hb)
      obtain ⟨a0, a1⟩ := HAR.out.cells
      clear hrow hb
      by_cases hlt : k < n
      · have S1 := Lib.hid (S.out k wr (HV.out.keep (Below.then HB.out HBR.out)) hlt)
        go_wp2_with fail
        refine S1.out.mono ?_
        rintro e w3 ⟨rfl, hb3⟩
        have HRW3 := Lib.hid (HRW.out.of_block (hb3.block g HRW.out.lt))
        have HBR3 := Lib.hid (Below.then HBR.out hb3)
        have c0 := HRW3.out.cell (i := k) hlt
        have fz := HRW3.out.frozen k
        obtain ⟨z, hz⟩ : ∃ z, (if k < k then Value.string (d.stands k) else .string ⟨#[]⟩) = z := ⟨_, rfl⟩
        rw [hz] at c0
        have HSet := Lib.hid (HRW3.out.set k (.string (d.stands k)))
        have HN2 := Lib.hid (show (w3.setCell ⟨g, k, none⟩ (.string (d.stands k))).rowIs g 9 n (fun i => if i < k + 1 then .string (d.stands i) else .string ⟨#[]⟩) from HSet.out.congr fun i hi => by
          show (if i = k then _ else if i < k then _ else _) = _
          by_cases e : i = k
          · rw [if_pos e, if_pos (by omega), e]
          · rw [if_neg e]
            by_cases e2 : i < k
            · rw [if_pos e2, if_pos (by omega)]
            · rw [if_neg e2, if_neg (by omega)])
        have HB4 := Lib.hid (HBR3.out.setCell (p := ⟨g, k, none⟩) hg (.string (d.stands k)))
        clear hb3 hz
        go_wp2_with fail
        go_roundw
        case rel => exact ⟨k + 1, by omega, by go_num, HN2.out, HB4.out⟩
        case measure => simp [intOf]; omega
      · obtain rfl : k = n := by omega
        have HCR := Lib.hid (HC.out.keep HBR.out)
        obtain ⟨b0, b1⟩ := HCR.out.cells
        obtain ⟨f0, f1⟩ := HCR.out.free
        have HX := Lib.hid (clean_at (w := wr) (g := g) (n := k) (f := d.stands) (fun i hi => by
          have := HRW.out.cell (i := i) hi
          simpa [hi] using this) (by omega) k (Nat.le_refl _) (by unfold maxLen; omega) (fun i hi => stands_size HRI.out (by rw [HN.out]; exact hi)))
        go_wp2_with fail
        exact bodyPost_ret (results_dsk (p := 2) (u := 3) rfl _ _ (w.heap.size + 1) _ _ rfl (HCR.out.set _ _)) rfl ⟨_, by rw [HO.out]; rfl, by rw [HO.out]; exact HX.out.ns (set2_ns HCR.out isSl_nil isSl_nil _ _), set2_below (Below.then HB.out HBR.out) (by omega) _ _⟩
end Go.Proofs.YtkplpodljmlanaaGreatDoor
/-! The program's Save of a disk, by a contract. Conditions: at most 100 writes are saved at once (or the disk may not be, or they do not fit). -/
namespace Go.Proofs.YtkplpodljmlanaaGreatDoor
open Go.RowKit Go.WideShapes

def saveD (d : Dsk) (l : List (Int × ByteArray)) : Dsk × Int := if d.right && wellB d.secs.length l then (if d.dirty.length + l.length ≤ 200 then (⟨d.secs, d.dirty ++ l⟩, 0) else (emptyD, 13)) else (emptyD, 1)
set_option maxRecDepth 100000 in
set_option maxHeartbeats 4000000 in
theorem Below.keepc {w w' : World} {p : Addr} {v : Value} (h : Below w.heap.size w w') (hc : w.cell? p = some v) : w'.cell? p = some v := (h.cell (World.block_lt_of_cell? _ _ hc)).trans hc
/-- slices.Clone of a disk's sectors. -/
theorem Clone_t (a : Option Addr) (c : Nat) (ss : List ByteArray) (w : World) (h : StrsAt w (.slice a ss.length c) ss) (h0 : 0 < ss.length) (h64 : ss.length ≤ 64) :
    Calls Tryz.prog 39 #[.slice a ss.length c] w fun e w' => ∃ g c', e = .returned (.slice (some ⟨g, 0, none⟩) ss.length c') ∧ w'.ownsRow w.heap.size 9 1 (.slice (some ⟨g, 0, none⟩) ss.length c') ss.length (ss.map Value.string) ∧ Below w.heap.size w w' := by
  obtain ⟨b, o, cap, e, -, -, -, hc⟩ := h.rows h0
  simp only [Value.slice.injEq] at e
  obtain ⟨rfl, -, rfl⟩ := e
  refine (Tryz.slices_Clone_string b o ss.length c ss w (Nat.le_refl _) (by omega) (fun j hj => by rw [hc j hj]; simp [List.getD, hj])).mono ?_
  rintro e w' ⟨v', rfl, hown, hne, hb⟩
  rw [List.take_length] at hown
  obtain ⟨g, c', rfl⟩ := Joins.ownsRow_form hown h0
  exact ⟨g, c', rfl, hown, hb⟩
set_option maxRecDepth 100000 in
set_option maxHeartbeats 4000000 in
theorem Save_t (v lv : Value) (d : Dsk) (l : List (Int × ByteArray)) (w : World) (h : DskAt w v d) (hl : PairsAt w lv (l.map writeCell)) (hlz : ∀ x ∈ l, x.2.size ≤ maxLen ∧ -9223372036854775808 ≤ x.1 ∧ x.1 ≤ 9223372036854775807) (hl100 : l.length ≤ 100) : Calls Tryz.prog 27 #[v, lv] w (DskOut (saveD d l) w) := by
  have HV := Lib.hid h
  have HL := Lib.hid hl
  have HZ := Lib.hid (And.intro h.secs (And.intro h.sizes hlz))
  obtain ⟨a, c, a', c', rfl, -, -⟩ := h.shape
  obtain ⟨la, lc, rfl, -, hll⟩ := hl.shape
  unfold maxLen at hll
  rw [List.length_map] at hll HL ⊢
  have R := Lib.hid (fun w (h : DskAt w (.agg #[.slice a d.secs.length c, .slice a' d.dirty.length c']) d) => Right_t _ d w h)
  have F := Lib.hid (fun w (h : DskAt w (.agg #[.slice a d.secs.length c, .slice a' d.dirty.length c']) d) (hl : PairsAt w (.slice la l.length lc) (l.map writeCell)) => allFit_t _ _ d l w h hl)
  have HE := Lib.hid (show saveD d l = if d.right && wellB d.secs.length l then (if d.dirty.length + l.length ≤ 200 then (⟨d.secs, d.dirty ++ l⟩, 0) else (emptyD, 13)) else (emptyD, 1) from rfl)
  have HR := Lib.hid (right_iff d)
  obtain ⟨r, hr⟩ : ∃ r, d.right = r := ⟨_, rfl⟩
  obtain ⟨n, hn⟩ : ∃ r, d.secs.length = r := ⟨_, rfl⟩
  obtain ⟨n', hn'⟩ : ∃ r, d.dirty.length = r := ⟨_, rfl⟩
  obtain ⟨m, hm⟩ : ∃ r, l.length = r := ⟨_, rfl⟩
  rw [hr] at HE R HR
  rw [hn] at R F HV HE ⊢
  rw [hn'] at R F HV HE ⊢
  rw [hm] at F HL HE hll hl100 ⊢
  obtain ⟨p, hp⟩ : ∃ r, wellB n l = r := ⟨_, rfl⟩
  rw [hp] at F HE
  have HN := Lib.hid (And.intro hn (And.intro hn' hm))
  obtain ⟨W, hW⟩ : ∃ W, (w.alloc (.cells #[.slice a n c, .slice a' n' c'] 25)).alloc (.cells #[nilV, nilV] 25) = W := ⟨_, rfl⟩
  have hsz : W.heap.size = w.heap.size + 1 + 1 := by rw [← hW]; simp
  have HB := Lib.hid (show Below w.heap.size w W by rw [← hW]; exact Below.then (below_new _ _) (below_new _ _))
  have HA := Lib.hid (show At2 25 W w.heap.size (.slice a n c) (.slice a' n' c') by rw [← hW]; exact (At2.new _ _ _ _).keep (below_new _ _))
  have HC := Lib.hid (show At2 25 W (w.heap.size + 1) nilV nilV by
    rw [← hW]
    have e := At2.new 25 (w.alloc (.cells #[.slice a n c, .slice a' n' c'] 25)) nilV nilV
    rwa [World.size_alloc] at e)
  have HW := Lib.hid hW
  have R1 := Lib.hid (R.out W (HV.out.keep HB.out))
  clear hW h hl hlz hr hn hn' hm hp R
  go_enter Tryz.func27, Tryz.ntmps27
  go_upto_region 1 with fail
  rw [HW.out]
  obtain ⟨a0, a1⟩ := HA.out.cells
  go_wp2_with fail
  refine R1.out.mono ?_
  rintro e w1 ⟨rfl, hb1⟩
  have HB1 := Lib.hid hb1
  have HA1 := Lib.hid (HA.out.keep hb1)
  have HC1 := Lib.hid (HC.out.keep hb1)
  clear hb1 a0 a1 R1
  cases r with
  | false =>
    have HO := Lib.hid (show saveD d l = (emptyD, 1) by rw [HE.out]; rfl)
    obtain ⟨b0, b1⟩ := HC1.out.cells
    obtain ⟨f0, f1⟩ := HC1.out.free
    go_wp2_with fail
    exact bodyPost_ret (results_dsk (p := 4) (u := 5) rfl _ _ (w.heap.size + 1) _ _ rfl (HC1.out.set _ _)) rfl ⟨_, by rw [HO.out]; rfl, by rw [HO.out]; exact emptyD_at _, set2_below (Below.then HB.out HB1.out) (by omega) _ _⟩
  | true =>
    have HRI := Lib.hid (HR.out.1 rfl)
    have F1 := Lib.hid (F.out w1 (HV.out.keep (Below.then HB.out HB1.out)) (HL.out.keep (Below.then HB.out HB1.out)))
    obtain ⟨a0, a1⟩ := HA1.out.cells
    clear F HR
    go_wp2_with fail
    refine F1.out.mono ?_
    rintro e w2 ⟨rfl, hb2⟩
    have HB2 := Lib.hid (Below.then HB1.out hb2)
    have HA2 := Lib.hid (HA1.out.keep hb2)
    have HC2 := Lib.hid (HC1.out.keep hb2)
    clear hb2 a0 a1 F1
    cases p with
    | false =>
      have HO := Lib.hid (show saveD d l = (emptyD, 1) by rw [HE.out]; rfl)
      obtain ⟨b0, b1⟩ := HC2.out.cells
      obtain ⟨f0, f1⟩ := HC2.out.free
      go_wp2_with fail
      exact bodyPost_ret (results_dsk (p := 4) (u := 5) rfl _ _ (w.heap.size + 1) _ _ rfl (HC2.out.set _ _)) rfl ⟨_, by rw [HO.out]; rfl, by rw [HO.out]; exact emptyD_at _, set2_below (Below.then HB.out HB2.out) (by omega) _ _⟩
    | true =>
      have hn : 4 ≤ n ∧ n ≤ 64 ∧ n' ≤ 200 := by rw [← HN.out.1, ← HN.out.2.1]; exact ⟨HRI.out.least, HRI.out.most, HRI.out.few⟩
      by_cases hf : n' + m ≤ 200
      rotate_left
      · have HO := Lib.hid (show saveD d l = (emptyD, 13) by rw [HE.out, Bool.and_self, if_pos rfl, if_neg hf])
        obtain ⟨b0, b1⟩ := HC2.out.cells
        obtain ⟨f0, f1⟩ := HC2.out.free
        obtain ⟨a0, a1⟩ := HA2.out.cells
        have hf1 : (200 : Int) < (n' : Int) + (m : Int) := by omega
        go_wp2_with fail
        exact bodyPost_ret (results_dsk (p := 4) (u := 5) rfl _ _ (w.heap.size + 1) _ _ rfl (HC2.out.set _ _)) rfl ⟨_, by rw [HO.out]; rfl, by rw [HO.out]; exact emptyD_at _, set2_below (Below.then HB.out HB2.out) (by omega) _ _⟩
      · have HO := Lib.hid (show saveD d l = (⟨d.secs, d.dirty ++ l⟩, 0) by rw [HE.out, Bool.and_self, if_pos rfl, if_pos hf])
        have CL := Lib.hid (show ∀ w3, Below W.heap.size W w3 → Calls Tryz.prog 39 #[.slice a n c] w3 fun e w4 => ∃ g c2, e = .returned (.slice (some ⟨g, 0, none⟩) n c2) ∧ StrsAt w4 (.slice (some ⟨g, 0, none⟩) n c2) d.secs ∧ Below w3.heap.size w3 w4 ∧ Below W.heap.size W w4 ∧ At2 25 w4 (w.heap.size + 1) nilV nilV ∧ w4.cell? ⟨w.heap.size, 0, none⟩ = some (.slice a n c) ∧ w4.cell? ⟨w.heap.size, 1, none⟩ = some (.slice a' n' c') from fun w3 h3 => by
          have hs : StrsAt w3 (.slice a n c) d.secs := by
            obtain ⟨⟨sv, dv, e, h1, -⟩, -, -⟩ := HV.out.keep (Below.then HB.out h3)
            simp only [Value.agg.injEq, Array.mk.injEq, List.cons.injEq, and_true] at e
            exact e.1 ▸ h1
          have := Clone_t a c d.secs w3 (by rw [HN.out.1]; exact hs) (by rw [HN.out.1]; omega) (by rw [HN.out.1]; omega)
          rw [HN.out.1] at this
          refine this.mono ?_
          rintro e w4 ⟨g, c2, rfl, hown, hb⟩
          have hb4 := Below.then h3 hb
          exact ⟨g, c2, rfl, StrsAt.of_own hown HN.out.1, hb, hb4, HC.out.keep hb4, (HA.out.keep hb4).cells.1, (HA.out.keep hb4).cells.2⟩)
        have CC := Lib.hid (show ∀ w3 b k, Below W.heap.size W w3 → w3.cell? ⟨b, 0, none⟩ = some (.slice a' n' c') → w3.cell? ⟨b, 0 + 1, none⟩ = some (.slice la m lc) → Calls Tryz.prog 53 #[.slice (some ⟨b, 0, none⟩) 2 k] w3 fun e w4 => ∃ g c2, e = .returned (.slice g (n' + m) c2) ∧ PairsAt w4 (.slice g (n' + m) c2) ((d.dirty ++ l).map writeCell) ∧ Below w3.heap.size w3 w4 ∧ Below W.heap.size W w4 ∧ At2 25 w4 (w.heap.size + 1) nilV nilV ∧ w4.cell? ⟨w.heap.size, 0, none⟩ = some (.slice a n c) ∧ w4.cell? ⟨w.heap.size, 1, none⟩ = some (.slice a' n' c') from fun w3 b k h3 k1 k2 => by
          have hd : PairsAt w3 (.slice a' n' c') (d.dirty.map writeCell) := by
            obtain ⟨⟨sv, dv, e, -, h1⟩, -, -⟩ := HV.out.keep (Below.then HB.out h3)
            simp only [Value.agg.injEq, Array.mk.injEq, List.cons.injEq, and_true] at e
            exact e.2 ▸ h1
          refine (Concat_t b 0 k _ _ d.dirty l w3 hd (HL.out.keep (Below.then HB.out h3)) (by rw [HN.out.2.1, HN.out.2.2]; omega) k1 k2).mono ?_
          rintro e w4 ⟨v, rfl, hp, hb⟩
          obtain ⟨g, c2, rfl, -, -⟩ := hp.shape
          have hlen : ((d.dirty ++ l).map writeCell).length = n' + m := by rw [List.length_map, List.length_append, HN.out.2.1, HN.out.2.2]
          rw [hlen] at hp ⊢
          have hb4 := Below.then h3 hb
          exact ⟨g, c2, rfl, hp, hb, hb4, HC.out.keep hb4, (HA.out.keep hb4).cells.1, (HA.out.keep hb4).cells.2⟩)
        have FIN := Lib.hid (show ∀ (g : Nat) (c2 : Nat) (gd : Option Addr) (c3 : Nat) (w5 : World), At2 25 w5 (w.heap.size + 1) nilV nilV → StrsAt w5 (.slice (some ⟨g, 0, none⟩) n c2) d.secs → PairsAt w5 (.slice gd (n' + m) c3) ((d.dirty ++ l).map writeCell) →
            DskAt (set2 w5 (w.heap.size + 1) (.slice (some ⟨g, 0, none⟩) n c2) (.slice gd (n' + m) c3)) (.agg #[.slice (some ⟨g, 0, none⟩) n c2, .slice gd (n' + m) c3]) ⟨d.secs, d.dirty ++ l⟩ from fun g c2 gd c3 w5 h1 h2 h3 => by
          have hns := set2_ns h1 isSl_nil isSl_nil (.slice (some ⟨g, 0, none⟩) n c2) (.slice gd (n' + m) c3)
          exact ⟨⟨_, _, rfl, h2.ns hns, WritesAt.ns h3 hns⟩, HZ.out.1, fun x hx => (List.mem_append.1 hx).elim (HZ.out.2.1 x) (HZ.out.2.2 x)⟩)
        have hbr := HB2.out
        obtain ⟨a0, a1⟩ := HA2.out.cells
        have hal : Below w2.heap.size w2 (w2.alloc (.cells #[.slice a' n' c', .slice la m lc] 23)) := below_new _ _
        have a0n : (w2.alloc (.cells #[.slice a' n' c', .slice la m lc] 23)).cell? ⟨w.heap.size, 0, none⟩ = some (.slice a n c) := Below.keepc hal a0
        have a1n : (w2.alloc (.cells #[.slice a' n' c', .slice la m lc] 23)).cell? ⟨w.heap.size, 1, none⟩ = some (.slice a' n' c') := Below.keepc hal a1
        have hf1 : (n' : Int) + (m : Int) ≤ 200 := by omega
        clear hal
        go_upto_region 5 with fail
        go_region_law (first
          | (go_simp; go_at_call 39; refine (CL.out _ (by first | exact hBD | exact hbr.drew | exact (hbr.alloc hbr.size _).drew | exact hbr.drew.alloc hbr.size _)).mono ?_; rintro e wC ⟨gC, cC, rfl, hst, hbC, hBC, hres, a0C, a1C⟩; have b0 := hres.cells.1; have b1 := hres.cells.2; have f0 := hres.free.1; have f1 := hres.free.2)
          | (go_simp; go_at_call 53; refine (CC.out _ _ _ (by first | exact hBC | exact (hbr.alloc hbr.size _).drew | exact hBC.alloc hBC.size _ | exact hbr.drew.alloc hbr.size _) (by first | exact (At2.new _ _ _ _).cells.1 | exact Below.keepc hbC (At2.new _ _ _ _).cells.1) (by first | exact (At2.new _ _ _ _).cells.2 | exact Below.keepc hbC (At2.new _ _ _ _).cells.2)).mono ?_; rintro e wD ⟨gD, cD, rfl, hpa, hbD, hBD, hres, a0D, a1D⟩; have b0 := hres.cells.1; have b1 := hres.cells.2; have f0 := hres.free.1; have f1 := hres.free.2))
        all_goals
          go_wp2_with fail
          first
            | exact bodyPost_ret (results_dsk (p := 4) (u := 5) rfl _ _ (w.heap.size + 1) _ _ rfl (hres.set _ _)) rfl ⟨_, by rw [HO.out]; rfl, by rw [HO.out]; exact FIN.out _ _ _ _ _ hres (hst.keep hbD) hpa, set2_below (Below.then HB.out hBD) (by omega) _ _⟩
            | exact bodyPost_ret (results_dsk (p := 4) (u := 5) rfl _ _ (w.heap.size + 1) _ _ rfl (hres.set _ _)) rfl ⟨_, by rw [HO.out]; rfl, by rw [HO.out]; exact FIN.out _ _ _ _ _ hres (hst.keep (Below.then (below_new _ _) hbD)) hpa, set2_below (Below.then HB.out hBD) (by omega) _ _⟩
            | exact bodyPost_ret (results_dsk (p := 4) (u := 5) rfl _ _ (w.heap.size + 1) _ _ rfl (hres.set _ _)) rfl ⟨_, by rw [HO.out]; rfl, by rw [HO.out]; exact FIN.out _ _ _ _ _ hres hst (hpa.keep hbC), set2_below (Below.then HB.out hBC) (by omega) _ _⟩
end Go.Proofs.YtkplpodljmlanaaGreatDoor
