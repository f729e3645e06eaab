/-
  The document's own Split at a slash, Repo and Tag, by contracts. Conditions: none but sizes.
-/
import Derived.Test.YtcdibcogboaikaaDoorRefName
import Derived.Test.YtcdibcogboaikaaDoorRow
namespace Go.Proofs.YtcdibcogboaikaaDoor
open Go.RowKit

/-- What Split answers: the pieces between slashes. -/
def RefSplitEnd (s : ByteArray) (w : World) (e : Ending) (w' : World) : Prop :=
  ∃ (ps : List ByteArray) (v : Value), e = .returned v ∧ StrRow w' v ps ∧ ps.map (·.data.toList) = goC 47 [] s.data.toList ∧ (∀ x ∈ ps, x.size ≤ s.size) ∧ ps.length ≤ s.size + 1 ∧ Below w.heap.size w w'

set_option maxRecDepth 100000 in
set_option maxHeartbeats 4000000 in
theorem refSplit_any (s : ByteArray) (w : World) (hs : s.size ≤ 300) :
    Calls Tryd.prog 24 #[.string s, .int .u8 47] w (RefSplitEnd s w) := by
  obtain ⟨i0, hi, hz0, hz1, hz2⟩ := info_parts infoStr
  go_enter Tryd.func24, Tryd.ntmps24
  go_wp2_with fail
  go_loopw [5, 6, 7] (fun ov nv iv wr => ∃ (k n : Nat) (acc : List ByteArray) (now : ByteArray), k ≤ s.size ∧ (∃ a c, ov = .slice a n c) ∧ nv = .string now ∧ iv = .int .i64 k ∧ acc.length = n ∧ n ≤ k ∧ now.size ≤ k ∧ (∀ x ∈ acc, x.size ≤ s.size) ∧ acc.map (·.data.toList) ++ goC 47 now.data.toList (s.data.toList.drop k) = goC 47 [] s.data.toList ∧ wr.ownsRow w.heap.size 9 1 ov n (strC acc) ∧ Below w.heap.size w wr) (fun _ _ i _ => s.size - (intOf i).toNat)
  case atStart => exact ⟨0, 0, [], ⟨#[]⟩, Nat.zero_le _, ⟨_, _, rfl⟩, rfl, rfl, rfl, Nat.le_refl _, Nat.le_refl _, by simp, rfl, World.ownsRow_lit w #[] 0 (Nat.le_refl _) (Nat.zero_le _) rfl, (Below.refl _ _).alloc (by omega) _⟩
  case round =>
    obtain ⟨k, n, acc, now, hk, ⟨a, c, rfl⟩, rfl, rfl, hal, hnk, hnow, hall, hg, ho, hb⟩ := hrel
    have hbs := hb.size
    have HA := Lib.hid hall
    have HL := Lib.hid hal
    by_cases hlt : k < s.size
    · have h47 : ((s[k].toNat : Int) == 47) = (s[k] == 47) := by
        rw [Bool.eq_iff_iff, beq_iff_eq, beq_iff_eq, ← UInt8.toNat_inj]
        show _ ↔ s[k].toNat = 47
        omega
      have hx1 := extract_one s k hlt
      rw [take_one s k hlt, goC] at hg
      obtain ⟨x1, hxd⟩ : ∃ x1, s.extract k (k + 1) = x1 := ⟨_, rfl⟩
      have hxs : x1.size = 1 := by rw [size_list, ← hxd, hx1]; rfl
      rw [hxd] at hx1
      by_cases h : s[k] = 47
      · have hq : (s[k] == 47) = true := by rw [h]; rfl
        rw [hq] at h47
        rw [if_pos h] at hg
        have HG := Lib.hid (show (acc ++ [now]).map (·.data.toList) ++ goC 47 (⟨#[]⟩ : ByteArray).data.toList (s.data.toList.drop (k + 1)) = goC 47 [] s.data.toList by
          rw [← hg, List.map_append, List.append_assoc]; rfl)
        clear hg hx1 hall hal hq h
        go_wp2_with (at_builtin; refine wpList_append_own _ rfl _ _ 39 rfl w.heap.size 9 i0 (.string ⟨#[]⟩) 1 16 Tryd.underlying39 hi hz0 hz1 hz2 rfl (by decide) _ n (strC acc) rfl (ho.alloc _) ⟨wr.heap.size, 0, none⟩ 1 1 [.string now] rfl rfl ?c1 ?c2 ?c3 ?c4 ?c5 ?_)
        case c2 => rfl
        case c3 => unfold maxLen; omega
        case c4 => omega
        case c5 => omega
        intro v' w3 hown3 hgrow3 _
        have hbb3 : Below w.heap.size w w3 := (hb.alloc hbs _).grown hgrow3 (by simp; omega) (fun k hk => (ho.lt k hk).1)
        have hv' : ∃ a c, v' = .slice a (n + 1) c := by
          rcases hown3.2 with ⟨_, h0⟩ | ⟨g, c', cur, hv, _⟩
          · omega
          · exact ⟨_, _, hv⟩
        obtain ⟨a', c', rfl⟩ := hv'
        go_wp2
        go_roundw
        case rel =>
          refine ⟨k + 1, n + 1, acc ++ [now], ⟨#[]⟩, by omega, ⟨_, _, rfl⟩, rfl, by go_num, by simp [HL.out], by omega, Nat.zero_le _, ?_, HG.out, by simpa [strC] using hown3, hbb3⟩
          intro y hy
          rcases List.mem_append.1 hy with hy | hy
          · exact HA.out y hy
          · rw [List.mem_singleton.1 hy]; omega
        case measure => simp [intOf]; omega
      · have hq : (s[k] == 47) = false := by rw [beq_eq_false_iff_ne]; exact h
        rw [hq] at h47
        rw [if_neg h] at hg
        have HG := Lib.hid (show acc.map (·.data.toList) ++ goC 47 (now ++ x1).data.toList (s.data.toList.drop (k + 1)) = goC 47 [] s.data.toList by
          rw [append_list, hx1]; exact hg)
        have HO := Lib.hid ho
        have HB := Lib.hid hb
        clear hg hx1 hall hal hq h ho hb
        go_wp2_with fail
        go_roundw
        case rel => exact ⟨k + 1, n, acc, now ++ x1, by omega, ⟨_, _, rfl⟩, by first | rfl | simp, by go_num, HL.out, by omega, by rw [ByteArray.size_append]; omega, HA.out, HG.out, HO.out, HB.out⟩
        case measure => simp [intOf]; omega
    · have HG := Lib.hid (show (acc ++ [now]).map (·.data.toList) = goC 47 [] s.data.toList by
        rw [← hg, List.drop_eq_nil_of_le (by rw [← Lib.size_eq]; omega), List.map_append]; rfl)
      clear hg hall hal
      go_wp2_with (at_builtin; go_loud (refine wpList_append_own _ rfl _ _ 39 rfl w.heap.size 9 i0 (.string ⟨#[]⟩) 1 16 Tryd.underlying39 hi hz0 hz1 hz2 rfl (by decide) _ n (strC acc) rfl (ho.alloc _) ⟨wr.heap.size, 0, none⟩ 1 1 [.string now] rfl rfl ?c1 ?c2 ?c3 ?c4 ?c5 ?_))
      case c2 => intro u hu; simp at hu; subst hu; rfl
      case c3 => unfold maxLen; omega
      case c4 => omega
      case c5 => simp; omega
      intro v' w3 hown3 hgrow3 _
      have hbb3 : Below w.heap.size w w3 := (hb.alloc hbs _).grown hgrow3 (by simp; omega) (fun k hk => (ho.lt k hk).1)
      have HR := Lib.hid (StrRow.of_own (B := w.heap.size) (n := n + 1) (ss := acc ++ [now]) (by simpa [strC] using hown3) (by simp [HL.out]))
      clear hown3 hgrow3 ho
      go_wp2
      go_ret
      refine ⟨acc ++ [now], v', rfl, HR.out, HG.out, ?_, by simp [HL.out]; omega, hbb3⟩
      intro y hy
      rcases List.mem_append.1 hy with hy | hy
      · exact HA.out y hy
      · rw [List.mem_singleton.1 hy]; omega
end Go.Proofs.YtcdibcogboaikaaDoor
