/-
  The laws' sector: one byte 128 times; the program's blank sector. Conditions: none.
-/
import Derived.Test.YtcjngaapiomkbaaPrgDskC
import Derived.Test.YtcjngaapiomkbaaShelf
import Derived.Laws.IdiomStrings
import Derived.Lib.Repeat
namespace Go.Proofs.Ytcjngaapiomkbaa
open Go.RowKit Go.WideShapes

/-- A sector of one byte. -/
def secB (c : UInt8) : ByteArray := ⟨(List.replicate 128 c).toArray⟩
theorem secB_size (c : UInt8) : (secB c).size = 128 := by simp [secB, ByteArray.size]
theorem secB_inj {c d : UInt8} (h : secB c = secB d) : c = d := by
  have : (List.replicate 128 c) = (List.replicate 128 d) := by
    have := congrArg (fun b : ByteArray => b.data.toList) h
    simpa [secB] using this
  have h2 := congrArg (fun l => l[0]?) this
  simpa using h2
theorem repeat_secB (c : UInt8) : (⟨(Lib.repeatL (⟨#[c]⟩ : ByteArray).data.toList 128).toArray⟩ : ByteArray) = secB c := by
  have h := Lib.repeatL_replicate c 1 128
  rw [show (⟨#[c]⟩ : ByteArray).data.toList = List.replicate 1 c from rfl, h]
  rfl
theorem blank_t (w : World) : Calls Try.prog 22 #[.string ⟨#[0]⟩, .int .i64 128] w fun e w' => e = .returned (.string (secB 0)) ∧ Below w.heap.size w w' := by
  have h := Try.strings_Repeat ⟨#[0]⟩ 128 w (by decide) (by decide)
  rw [repeat_secB] at h
  exact h
set_option maxRecDepth 100000 in
set_option maxHeartbeats 2000000 in
theorem sector_t (c : UInt8) (w : World) : Calls Try.prog 14 #[.int .u8 c.toNat] w fun e w' => e = .returned (.string (secB c)) ∧ Below w.heap.size w w' := by
  obtain ⟨W, hW⟩ : ∃ W, w.alloc (.cells #[.int .u8 c.toNat] 5) = W := ⟨_, rfl⟩
  have hcv := run_convert_bytes_back (P := Try.prog) W 48 9 5 ⟨w.heap.size, 0, none⟩ 1 [c] Try.underlying48 Try.underlying5 Try.underlying9 (fun j hj => by
    have hj0 : j = 0 := by simp at hj; omega
    subst hj0
    rw [← hW, add_plain]
    rw [World.cell?_alloc_at _ _ _ _ rfl]; rfl)
  have hcv : (convert 48 9 (.slice (some ⟨w.heap.size, 0, none⟩) 1 1)).run Try.prog W = .ok (.string ⟨#[c]⟩) W := hcv
  have HB := Lib.hid (show Below w.heap.size w W by rw [← hW]; exact below_new _ _)
  have R := Lib.hid (show Calls Try.prog 22 #[.string ⟨#[c]⟩, .int .i64 128] W fun e w' => e = .returned (.string (secB c)) ∧ Below W.heap.size W w' by
    have h := Try.strings_Repeat ⟨#[c]⟩ 128 W (by decide) (by show 1 * 128 ≤ _; decide)
    rw [repeat_secB] at h
    exact h)
  have HW := Lib.hid hW
  clear hW
  go_enter Try.func14, Try.ntmps14
  go_wp2_with (first | (go_at_call 22; refine R.out.mono ?_; rintro e w1 ⟨rfl, hb⟩) | (rw [HW.out]; clear HW))
  go_ret
  exact ⟨rfl, Below.then HB.out hb⟩
end Go.Proofs.Ytcjngaapiomkbaa
