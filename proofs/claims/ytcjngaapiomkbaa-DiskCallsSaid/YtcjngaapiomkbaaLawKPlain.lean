/-
  Plain facts of disks: what is saved, flushed, crashed. Conditions: none.
-/
import Derived.Test.YtcjngaapiomkbaaLawKAlive
namespace Go.Proofs.Ytcjngaapiomkbaa
open Go.RowKit Go.WideShapes

def addW (d : Dsk) (w : Int × ByteArray) : Dsk := ⟨d.secs, d.dirty ++ [w]⟩
theorem addW_right {d : Dsk} (h : RightIs d) (w : Int × ByteArray) (hl : d.dirty.length < 200) (h0 : 0 ≤ w.1) (h1 : w.1 < (d.secs.length : Int)) (h2 : w.2.size = 128) : RightIs (addW d w) :=
  ⟨h.secs, h.least, h.most, by show (d.dirty ++ [w]).length ≤ 200; rw [List.length_append]; exact hl, fun x hx => by
    rcases List.mem_append.1 hx with hx | hx
    · exact h.well x hx
    · rw [List.mem_singleton.1 hx]; exact ⟨h0, h1, h2⟩⟩
theorem addW_stands (d : Dsk) (w : Int × ByteArray) (k : Nat) : (addW d w).stands k = if w.1 = (k : Int) then w.2 else d.stands k := standsL_snoc k w d.dirty _
theorem saveD_one {d : Dsk} (h : RightIs d) (w : Int × ByteArray) (hl : d.dirty.length < 200) (h0 : 0 ≤ w.1) (h1 : w.1 < (d.secs.length : Int)) (h2 : w.2.size = 128) : saveD d [w] = (addW d w, 0) := by
  unfold saveD
  rw [(right_iff d).2 h, show wellB d.secs.length [w] = true from (well_iff _ _).2 (fun x hx => by rw [List.mem_singleton.1 hx]; exact ⟨h0, h1, h2⟩), Bool.and_self, if_pos rfl, if_pos (by rw [List.length_singleton]; exact hl)]
  rfl
theorem loadD_ok {d : Dsk} (h : RightIs d) (k : Nat) (hk : k < d.secs.length) : loadD d (k : Int) = (d.stands k, 0) := by
  unfold loadD
  rw [(right_iff d).2 h, show placeB d.secs.length (k : Int) = true by simp [placeB, hk], Bool.and_self, if_pos rfl]
  rfl
theorem flushD_ok {d : Dsk} (h : RightIs d) : flushD d = (clean d.secs.length d.stands, 0) := by rw [flushD, (right_iff d).2 h, if_pos rfl]
theorem crashD_ok {d : Dsk} (h : RightIs d) (fs : List Int) : crashD d fs = (clean d.secs.length (fun k => d.left k fs), 0) := by rw [crashD, (right_iff d).2 h, if_pos rfl]
theorem clean_length (n : Nat) (f : Nat → ByteArray) : (clean n f).secs.length = n := by simp [clean]
theorem clean_right {n : Nat} {f : Nat → ByteArray} (h4 : 4 ≤ n) (h64 : n ≤ 64) (hz : ∀ i, i < n → (f i).size = 128) : RightIs (clean n f) :=
  ⟨fun s hs => by
    simp only [clean, List.mem_map, List.mem_range] at hs
    obtain ⟨i, hi, rfl⟩ := hs
    exact hz i hi, by rw [clean_length]; exact h4, by rw [clean_length]; exact h64, Nat.zero_le 200, fun w hw => by cases hw⟩
theorem clean_sec {n : Nat} {f : Nat → ByteArray} {k : Nat} (hk : k < n) : (clean n f).secs.getD k ⟨#[]⟩ = f k := by simp [clean, List.getD, hk]
theorem clean_congr {n : Nat} {f g : Nat → ByteArray} (h : ∀ k, k < n → f k = g k) : clean n f = clean n g := by
  unfold clean
  congr 1
  exact List.map_congr_left fun k hk => h k (List.mem_range.1 hk)
theorem clean_self {n : Nat} {f : Nat → ByteArray} : clean n (clean n f).stands = clean n f := clean_congr fun k hk => by
  show standsL k ((clean n f).secs.getD k ⟨#[]⟩) [] = _
  rw [clean_sec hk]; rfl
theorem clean_left {n : Nat} {f : Nat → ByteArray} (fs : List Int) : clean n (fun k => (clean n f).left k fs) = clean n f := clean_congr fun k hk => by
  show leftL k ((clean n f).secs.getD k ⟨#[]⟩) [] fs = _
  rw [clean_sec hk]; cases fs <;> rfl
theorem flush_clean {n : Nat} {f : Nat → ByteArray} (h : RightIs (clean n f)) : flushD (clean n f) = (clean n f, 0) := by
  rw [flushD_ok h, clean_length, clean_self]
theorem crash_clean {n : Nat} {f : Nat → ByteArray} (h : RightIs (clean n f)) (fs : List Int) : crashD (clean n f) fs = (clean n f, 0) := by
  rw [crashD_ok h, clean_length, clean_left]
theorem fewD_few (d : Dsk) : (fewD d).dirty.length ≤ 202 := by simp [fewD]; omega

/-- A place out of any number, as the laws make it. -/
theorem place_of (a : Int) (n : Nat) (h4 : 4 ≤ n) :
    ∃ (r : Int) (k : Nat), a.tmod (n : Int) = r ∧ -(n : Int) < r ∧ r < (n : Int) ∧ (r + (n : Int)).tmod (n : Int) = (k : Int) ∧ k < n := by
  have hn : (0 : Int) < (n : Int) := by omega
  have b1 := Int.tmod_lt_of_pos a hn
  have b0 : -(n : Int) < a.tmod (n : Int) := by
    rcases Int.le_total 0 a with h | h
    · have := Int.tmod_nonneg (n : Int) h; omega
    · have e : a.tmod (n : Int) = -((-a).tmod (n : Int)) := by rw [Int.neg_tmod, Int.neg_neg]
      have := Int.tmod_lt_of_pos (-a) hn
      rw [e]; omega
  have c0 : 0 ≤ a.tmod (n : Int) + (n : Int) := by omega
  have d0 := Int.tmod_nonneg (n : Int) c0
  have d1 := Int.tmod_lt_of_pos (a.tmod (n : Int) + (n : Int)) hn
  exact ⟨a.tmod (n : Int), ((a.tmod (n : Int) + (n : Int)).tmod (n : Int)).toNat, rfl, b0, b1, by omega, by omega⟩
end Go.Proofs.Ytcjngaapiomkbaa
