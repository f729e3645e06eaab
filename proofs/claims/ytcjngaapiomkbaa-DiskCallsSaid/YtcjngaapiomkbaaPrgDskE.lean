/-
  slices.Repeat of one string, by a contract. Conditions: from 1 to 64 times.
-/
import Derived.Test.YtcjngaapiomkbaaPrgDskC
import Derived.Test.YtcjngaapiomkbaaShelf
import Derived.Laws.CopyOwn
import Derived.Deep.OwnRows
import Derived.Deep.RegionLaw
import Derived.BigRegion
namespace Go.Proofs.Ytcjngaapiomkbaa
open Go.RowKit Go.WideShapes

/-- Block g is a row of n strings, of which the first k are s. -/
def RepRow (w : World) (g n k : Nat) (s : ByteArray) : Prop := ∃ cur : List Value, w.heap[g]? = some (.cells cur.toArray 9 (0, 0)) ∧ cur.length = n ∧ ∀ i, i < k → cur[i]? = some (.string s)
theorem RepRow.strs {w : World} {g n : Nat} {s : ByteArray} (h : RepRow w g n n s) (hn : 0 < n) (hm : n ≤ maxLen) : StrsAt w (.slice (some ⟨g, 0, none⟩) n n) (List.replicate n s) := by
  obtain ⟨cur, hg, hl, hc⟩ := h
  refine Or.inr ⟨g, 0, n, by rw [List.length_replicate], by rw [List.length_replicate]; exact hn, by rw [List.length_replicate]; exact Nat.le_refl _, hm, fun i hi => ?_⟩
  rw [List.length_replicate] at hi
  simp [World.cell?, hg, hc i hi]
theorem RepRow.cells {w : World} {g n k : Nat} {s : ByteArray} (h : RepRow w g n k s) (m : Nat) (hm : m ≤ k) : ∀ j v, (List.replicate m (Value.string s))[j]? = some v → w.cell? ((⟨g, 0, none⟩ : Addr).add j) = some v := by
  obtain ⟨cur, hg, hl, hc⟩ := h
  intro j v hj
  have hj' : j < m := by have := (List.getElem?_eq_some_iff.1 hj).1; simpa using this
  rw [add_plain, Nat.zero_add]
  simp only [List.getElem?_replicate, hj', if_true] at hj
  simp [World.cell?, hg, hc j (by omega), hj]
theorem repRow_splice (w' : World) (g n k m : Nat) (s : ByteArray) (cur : List Value) (hl : cur.length = n) (hc : ∀ i, i < k → cur[i]? = some (.string s)) (hm : k + m ≤ n)
    (h : w'.heap[g]? = some (.cells (splice cur k (List.replicate m (Value.string s))).toArray 9 (0, 0))) : RepRow w' g n (k + m) s := by
  refine ⟨_, h, by rw [length_splice _ _ _ (by rw [List.length_replicate, hl]; exact hm), hl], fun i hi => ?_⟩
  unfold splice
  by_cases h1 : i < k
  · rw [List.getElem?_append_left (by rw [List.length_take]; omega), List.getElem?_take, if_pos h1]
    exact hc i h1
  · rw [List.getElem?_append_right (by rw [List.length_take]; omega), List.length_take, Nat.min_eq_left (by omega), List.getElem?_append_left (by rw [List.length_replicate]; omega), List.getElem?_replicate, if_pos (by omega)]
theorem infoSizeStr : (Try.prog.info? 9).map (·.size) = some 1 := by kernel_rfl

set_option maxRecDepth 100000 in
set_option maxHeartbeats 4000000 in
theorem Repeat_t (b o c n : Nat) (s : ByteArray) (w : World) (h1 : 1 ≤ n) (hn : n ≤ 64) (c0 : w.cell? ⟨b, o, none⟩ = some (.string s)) :
    Calls Try.prog 23 #[.slice (some ⟨b, o, none⟩) 1 c, .int .i64 n] w fun e w' => ∃ v, e = .returned v ∧ StrsAt w' v (List.replicate n s) ∧ Below w.heap.size w w' := by
  obtain ⟨i0, hi, hz0, hz1, hz2⟩ := info_parts infoStr
  have M := Try.bits_Mul 1 n (by omega) (by omega) w
  rw [Nat.one_mul, Nat.div_eq_of_lt (by omega), Nat.mod_eq_of_lt (by omega)] at M
  have M := Lib.hid M
  obtain ⟨W, hW⟩ : ∃ W, w.alloc (.cells (madeCells #[.string ⟨#[]⟩] n) 9) = W := ⟨_, rfl⟩
  have hB : Below w.heap.size w W := by rw [← hW]; exact below_new _ _
  have c1 := (hB.cell (World.block_lt_of_cell? _ _ c0)).trans c0
  have hg : W.heap[w.heap.size]? = some (.cells (madeCells #[.string ⟨#[]⟩] n) 9 (0, 0)) := by rw [← hW]; exact heap_alloc_new w _
  obtain ⟨cur, hcur⟩ : ∃ cur : List Value, (madeCells #[.string ⟨#[]⟩] n) = cur.toArray := ⟨(madeCells #[.string ⟨#[]⟩] n).toList, by simp⟩
  have hcl : cur.length = n := by
    have : (madeCells #[.string ⟨#[]⟩] n).size = n := size_madeCells _ _
    rw [hcur] at this
    simpa using this
  rw [hcur] at hg
  have HB := Lib.hid hB
  have HG := Lib.hid hg
  have HCL := Lib.hid hcl
  have C1 := Lib.hid c1
  have HW := Lib.hid hW
  clear c0 hW hB c1 hcl hg hcur
  go_enter Try.func23, Try.ntmps23
  go_wp2_with (first | (go_at_call 31; refine M.out.mono ?_; rintro e w1 ⟨rfl, hww⟩; subst hww) | (at_make; refine wpList_make_row _ rfl _ _ 22 rfl 9 i0 (.string ⟨#[]⟩) Try.underlying22 hi hz0 hz1 rfl .i64 .i64 n rfl rfl (by rw [hz2]; omega) (by omega) ?_; rw [HW.out]) | ((with_reducible show wpList _ _ _ _ _ _); (refine wpList_copy_splice rfl (.tmp 31) (.tmp 32) 22 22 rfl 9 Try.underlying22 infoSizeStr _ _ _ _ _ _ rfl rfl w1.heap.size 0 cur 9 HG.out [.string s] ?q1 ?q2 ?q3 ?q4 w1.heap.size w1 HB.out (Nat.le_refl _) ?_)))
  case q1 => show 1 = min 1 n; omega
  case q2 =>
    intro j v hj
    have hj0 : j = 0 := by have := (List.getElem?_eq_some_iff.1 hj).1; simp at this; omega
    subst hj0
    rw [Nat.add_zero, C1.out]
    simpa using hj
  case q3 => simp [HCL.out]; omega
  case q4 => intro v hv; simp at hv; subst hv; rfl
  intro w2 HG2 hB2
  have HR := Lib.hid (repRow_splice w2 w1.heap.size n 0 1 s cur HCL.out (fun i hi => absurd hi (Nat.not_lt_zero _)) (by omega) HG2.out)
  have HB2 := Lib.hid hB2
  clear hB2 HG2
  go_wp2_with fail
  go_loopw [8] (fun iv wr => ∃ k : Nat, 1 ≤ k ∧ k ≤ n ∧ iv = .int .i64 k ∧ RepRow wr w1.heap.size n k s ∧ Below w1.heap.size w1 wr) (fun i _ => n - (intOf i).toNat)
  case atStart => exact ⟨1, Nat.le_refl _, h1, rfl, HR.out, HB2.out⟩
  case round =>
    obtain ⟨k, hk1, hk, rfl, hr, hb⟩ := hrel
    have HR1 := Lib.hid hr
    have HB3 := Lib.hid hb
    clear hr hb
    by_cases hlt : k < n
    · obtain ⟨m, hm⟩ : ∃ m, min k (n - k) = m := ⟨_, rfl⟩
      obtain ⟨cur3, hg3, hl3, hc3⟩ := HR1.out
      have HG3 := Lib.hid hg3
      have HL3 := Lib.hid hl3
      have HC3 := Lib.hid hc3
      have HM := Lib.hid hm
      have hm0 : 0 < m ∧ m ≤ k ∧ m ≤ n - k := by omega
      have hcp := run_copy_row (P := Try.prog) wr.drew 22 22 3 9 w1.heap.size k (n - k) (n - k) ⟨w1.heap.size, 0, none⟩ k n cur3.toArray 9 (List.replicate m (Value.string s)) Try.underlying22 infoSizeStr hg3
        (by rw [List.length_replicate, ← hm]) (fun j v hj => HR1.out.cells m hm0.2.1 j v hj) (by simp [hl3]; omega) (by intro v hv; rw [(List.mem_replicate.1 hv).2]; rfl)
      rw [List.length_replicate] at hcp
      obtain ⟨W4, hW4⟩ : ∃ W4, wr.drew.setRow w1.heap.size (cur3.toArray.toList.take k ++ List.replicate m (Value.string s) ++ cur3.toArray.toList.drop (k + m)).toArray = W4 := ⟨_, rfl⟩
      rw [hW4] at hcp
      have hcp : (Builtin.copy_ #[22, 22] 3 #[.slice (some ⟨w1.heap.size, k, none⟩) (n - k) (n - k), .slice (some ⟨w1.heap.size, 0, none⟩) k n]).run Try.prog wr.drew = .ok (.int .i64 (m : Int)) W4 := hcp
      have hb4 : Below w1.heap.size w1 W4 := by rw [← hW4]; exact below_setRow (hb := HB3.out.drew) (Nat.le_refl _) _
      have hr4 : RepRow W4 w1.heap.size n (k + m) s := by
        refine repRow_splice W4 w1.heap.size n k m s cur3 hl3 hc3 (by omega) ?_
        rw [← hW4, setRow_heap wr.drew w1.heap.size _ _ 9 _ hg3]
        simp [splice]
      have HB4 := Lib.hid hb4
      have HR4 := Lib.hid hr4
      clear hg3 hl3 hc3 hm hW4 hb4 hr4 HG3 HC3 HL3
      have hne : ¬ (n = k) := by omega
      go_upto_region 9 with fail
      go_region
      go_wp2_with fail
      go_roundw
      case rel => exact ⟨k + m, by omega, by omega, by go_num, HR4.out, HB4.out⟩
      case measure => simp [intOf]; omega
    · obtain rfl : k = n := by omega
      have HF := Lib.hid (HR1.out.strs (by omega) (by unfold maxLen; omega))
      go_wp2_with fail
      go_ret
      exact ⟨_, rfl, HF.out, HB3.out⟩
end Go.Proofs.Ytcjngaapiomkbaa
