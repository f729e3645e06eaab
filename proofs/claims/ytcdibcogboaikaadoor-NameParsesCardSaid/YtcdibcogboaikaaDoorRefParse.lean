/-
  The document's own Parse, by a contract. Conditions: none.
-/
import Derived.Test.YtcdibcogboaikaaDoorLawD
import Derived.Test.YtcdibcogboaikaaDoorRefBytes
namespace Go.Proofs.YtcdibcogboaikaaDoor
open Go.RowKit

/-- What the document's own Parse answers. -/
def RefParseEnd (s : ByteArray) (w : World) (e : Ending) (w' : World) : Prop :=
  ∃ (y : ByteArray) (b : Bool), e = .returned (.tuple #[.string y, .bool b]) ∧ (b = true ∧ parseD s = (y, 0) ∨ b = false ∧ parseD s = (⟨#[]⟩, 6)) ∧ Below w.heap.size w w'

theorem prefix_cut (s : ByteArray) : Lib.hasPrefix s.data.toList prefB.data.toList = ((s.extract 0 7).toList == [115, 104, 97, 50, 53, 54, 58]) := by
  rw [Bool.eq_iff_iff, beq_iff_eq, Lib.toList_data]
  have e : (s.extract 0 7).data.toList = s.data.toList.take 7 := by simp
  rw [e]
  exact (List.isPrefixOf_iff_prefix.trans List.prefix_iff_eq_take).trans eq_comm
theorem drop_cut (s : ByteArray) (h : s.size = 71) : (s.extract 7 71).data.toList = s.data.toList.drop 7 := by
  have h6 : s.data.toList.length = s.size := by simp
  simp only [ByteArray.data_extract, Array.toList_extract, List.extract_eq_take_drop]
  rw [List.take_of_length_le (by rw [List.length_drop]; omega)]

set_option maxRecDepth 100000 in
set_option maxHeartbeats 1000000 in
theorem refParse_any (s : ByteArray) (w : World) :
    Calls Tryd.prog 28 #[.string s] w (RefParseEnd s w) := by
  by_cases h71 : s.size = 71
  · obtain ⟨d, hd⟩ : ∃ d, s.extract 7 71 = d := ⟨_, rfl⟩
    obtain ⟨p, hp⟩ : ∃ p, s.extract 0 7 = p := ⟨_, rfl⟩
    have hds : d.size = 64 := by rw [← hd, ByteArray.size_extract]; omega
    have R := Lib.hid (fun w => refBytes_any d w (by omega))
    have n71 : ((s.size : Int) != 71) = false := by rw [bne_eq_false_iff_eq]; omega
    have hpc := prefix_cut s
    rw [hp] at hpc
    have hdc := drop_cut s h71
    rw [hd] at hdc
    cases hb : (p.toList == [115, 104, 97, 50, 53, 54, 58]) with
    | true =>
      have HO := Lib.hid (show parseD s = match unhexL d.data.toList with | some l => (⟨l.toArray⟩, 0) | none => (⟨#[]⟩, 6) by
        unfold parseD; rw [if_pos ⟨hpc.trans hb, h71⟩, hdc]; cases unhexL (List.drop 7 s.data.toList) <;> rfl)
      clear hpc hdc
      go_enter Tryd.func28, Tryd.ntmps28
      go_wp2_with fail
      refine (R.out _).mono ?_
      rintro e w2 hr
      rcases hr with ⟨l, hl, rfl, hb2⟩ | ⟨y, hl, rfl, hb2⟩
      · have HF := Lib.hid (show parseD s = (⟨l.toArray⟩, 0) by rw [HO.out, hl])
        have HB := Lib.hid hb2
        clear hl hb2 HO
        go_wp2_with fail
        go_ret2
        exact ⟨_, true, rfl, Or.inl ⟨rfl, HF.out⟩, HB.out⟩
      · have HF := Lib.hid (show parseD s = (⟨#[]⟩, 6) by rw [HO.out, hl])
        have HB := Lib.hid hb2
        clear hl hb2 HO
        go_wp2_with fail
        go_ret2
        exact ⟨_, false, rfl, Or.inr ⟨rfl, HF.out⟩, HB.out⟩
    | false =>
      have HO := Lib.hid (parseD_no (s := s) (Or.inl (hpc.trans hb)))
      clear hpc hdc
      go_enter Tryd.func28, Tryd.ntmps28
      go_wp2_with fail
      go_ret2
      exact ⟨_, false, rfl, Or.inr ⟨rfl, HO.out⟩, Below.refl _ _⟩
  · have HO := Lib.hid (parseD_no (s := s) (Or.inr h71))
    have n71 : ((s.size : Int) != 71) = true := by rw [bne_iff_ne]; omega
    clear h71
    go_enter Tryd.func28, Tryd.ntmps28
    go_wp2_with fail
    go_ret2
    exact ⟨_, false, rfl, Or.inr ⟨rfl, HO.out⟩, Below.refl _ _⟩
end Go.Proofs.YtcdibcogboaikaaDoor
