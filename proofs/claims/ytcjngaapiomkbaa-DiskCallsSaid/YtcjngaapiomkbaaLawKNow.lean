/-
  Plain facts of a disk that is written at one place again and again; bytes that came in. Conditions: none.
-/
import Derived.Test.YtcjngaapiomkbaaLawKApart
namespace Go.Proofs.Ytcjngaapiomkbaa
open Go.RowKit Go.WideShapes

/-! ### One cell of a disk's two -/
theorem At2.set1 {t : TypeId} {w : World} {B : Nat} {a b : Value} (h : At2 t w B a b) (v1 : Value) : At2 t (w.setCell ⟨B, 1, none⟩ v1) B a v1 := by
  unfold At2
  rw [heap_setCell_same _ _ _ _ _ _ h]; rfl
theorem At2.set1_ns {t : TypeId} {w : World} {B : Nat} {a b : Value} (h : At2 t w B a b) (ha : IsSl a) (hb : IsSl b) (v1 : Value) : NS w (w.setCell ⟨B, 1, none⟩ v1) := by
  intro p u hu hc
  by_cases e : p.block = B
  · exfalso
    obtain ⟨pb, po, ps⟩ := p
    simp only at e
    subst e
    cases ps with
    | some q => simp [World.cell?, show w.heap[pb]? = _ from h] at hc
    | none =>
      have hc' : (#[a, b] : Array Value)[po]? = some u := by simpa [World.cell?, show w.heap[pb]? = _ from h] using hc
      match po, hc' with
      | 0, hc' => exact hu (by simp at hc'; exact hc' ▸ ha)
      | 1, hc' => exact hu (by simp at hc'; exact hc' ▸ hb)
      | n + 2, hc' => simp at hc'
  · have e1 : (w.setCell ⟨B, 1, none⟩ v1).cell? p = w.cell? p := World.cell?_of_block (Below.heap_setCell _ _ _ _ e)
    rw [e1, hc]

/-! ### Bytes that came in -/
def BytesAt (w : World) (v : Value) (cs : List UInt8) : Prop :=
  (cs = [] ∧ (v = .slice none 0 0 ∨ ∃ a cap, v = .slice (some a) 0 cap ∧ cap ≤ maxLen)) ∨
  ∃ b o cap, v = .slice (some ⟨b, o, none⟩) cs.length cap ∧ 0 < cs.length ∧ cs.length ≤ cap ∧ cap ≤ maxLen ∧ ∀ i (h : i < cs.length), w.cell? ⟨b, o + i, none⟩ = some (.int .u8 cs[i].toNat)
theorem BytesAt.ns {w w' : World} {v : Value} {cs : List UInt8} (h : BytesAt w v cs) (hn : NS w w') : BytesAt w' v cs := by
  rcases h with h | ⟨b, o, cap, h1, h2, h3, h4, h5⟩
  · exact Or.inl h
  · exact Or.inr ⟨b, o, cap, h1, h2, h3, h4, fun i hi => hn _ _ (isSl_no_int _ _) (h5 i hi)⟩
theorem BytesAt.keep {w w' : World} {v : Value} {cs : List UInt8} (h : BytesAt w v cs) (hb : Below w.heap.size w w') : BytesAt w' v cs := h.ns (Below.ns hb)
theorem BytesAt.shape {w : World} {v : Value} {l : List UInt8} (h : BytesAt w v l) : ∃ a cap, v = .slice a l.length cap ∧ cap ≤ maxLen ∧ l.length ≤ maxLen := by
  rcases h with ⟨rfl, rfl | ⟨a, cap, rfl, hc⟩⟩ | ⟨b, o, cap, rfl, h2, h3, h4, -⟩
  · exact ⟨none, 0, rfl, by decide, by decide⟩
  · exact ⟨_, _, rfl, hc, by decide⟩
  · exact ⟨_, _, rfl, h4, by omega⟩
theorem BytesAt.at {w : World} {a : Option Addr} {n cap : Nat} {l : List UInt8} (h : BytesAt w (.slice a n cap) l) (i : Nat) (hi : i < l.length) : ∃ b o, a = some ⟨b, o, none⟩ ∧ w.cell? ⟨b, o + i, none⟩ = some (.int .u8 l[i].toNat) := by
  rcases h with ⟨h0, -⟩ | ⟨b, o, c, e, -, -, -, hc⟩
  · rw [h0] at hi; simp at hi
  · simp only [Value.slice.injEq] at e
    exact ⟨b, o, e.1, hc i hi⟩
theorem bytes_read {H : Type} {enc : TypeId × Value → H} {W : World} {fuel : Nat} {v : Value} {x : DataW H × List MemPlace}
    (h : DataW.trod enc Try.prog W 0 (fun _ => true) true fuel 48 [v] = some x) : ∃ cs, BytesAt W v cs := by
  rcases slice_cells Try.underlying48 (show Try.prog.cellsOf 5 = 1 by kernel_rfl) (by decide) h with h | ⟨b, o, len, cap, rfl, h1, h2, h3, h4⟩
  · exact ⟨[], Or.inl ⟨rfl, h⟩⟩
  · obtain ⟨l, hl, hp⟩ := exists_list (P := fun i (x : UInt8) => W.cell? ⟨b, o + i, none⟩ = some (.int .u8 x.toNat)) len fun i hi => by
      obtain ⟨cs, n', y, -, hcl, hca, hr⟩ := h4 i hi
      obtain ⟨c0, rfl⟩ : ∃ c0, cs = [c0] := by
        match cs, hcl with
        | [a], _ => exact ⟨a, rfl⟩
      obtain ⟨num, e0, -, b1⟩ := DataW.trod_int Try.underlying5 hr
      obtain rfl : c0 = .int .u8 num := by simpa using e0
      have := hca 0 (by decide)
      simp only [Nat.mul_one, Nat.add_zero] at this
      have hb := bounds_u8 b1
      exact ⟨UInt8.ofNat num.toNat, by
        rw [this, UInt8.toNat_ofNat_of_lt' (by show num.toNat < 256; omega), Int.toNat_of_nonneg hb.1]; rfl⟩
    exact ⟨l, Or.inr ⟨b, o, cap, by rw [hl], by omega, by omega, h3, fun i hi => hp i hi⟩⟩
set_option maxRecDepth 100000 in
/-- Bytes that came in. -/
theorem open_bytes {H : Type} {enc : TypeId × Value → H} {W : World} {b0 : Nat} {v : Value} {d : DataW H} {p : List MemPlace}
    (hval : Value.okWide Try.prog W .any b0 48 v) (hj : DataW.Trod enc Try.prog W 0 (fun _ => true) true 48 v d p) : ∃ cs, BytesAt W v cs := by
  obtain ⟨a0, len, cap, rfl⟩ := okWide_slice Try.underlying48 hval
  obtain ⟨fuel, hf⟩ := hj
  exact bytes_read hf

/-! ### One place, again and again -/
def wrL (ka : Nat) (cs : List UInt8) : List (Int × ByteArray) := cs.map fun c => ((ka : Int), secB c)
def nowD (ss : List ByteArray) (ka : Nat) (cs : List UInt8) (k : Nat) : Dsk := ⟨ss, wrL ka (cs.take k)⟩
theorem nowD_zero (ss : List ByteArray) (ka : Nat) (cs : List UInt8) : nowD ss ka cs 0 = ⟨ss, []⟩ := rfl
theorem nowD_dirty (ss : List ByteArray) (ka : Nat) (cs : List UInt8) (k : Nat) (hk : k ≤ cs.length) : (nowD ss ka cs k).dirty.length = k := by
  show (wrL ka (cs.take k)).length = k
  rw [wrL, List.length_map, List.length_take]; omega
theorem nowD_step (ss : List ByteArray) (ka : Nat) (cs : List UInt8) (k : Nat) (hk : k < cs.length) : nowD ss ka cs (k + 1) = addW (nowD ss ka cs k) ((ka : Int), secB cs[k]) := by
  unfold nowD addW wrL
  rw [List.take_succ_eq_append_getElem hk, List.map_append]; rfl
theorem nowD_right {ss : List ByteArray} {ka : Nat} {cs : List UInt8} (h : RightIs ⟨ss, []⟩) (hka : ka < ss.length) (k : Nat) (hk : k ≤ 100) : RightIs (nowD ss ka cs k) :=
  ⟨h.secs, h.least, h.most, by show (wrL ka (cs.take k)).length ≤ 200; rw [wrL, List.length_map, List.length_take]; omega, fun w hw => by
    simp only [nowD, wrL, List.mem_map] at hw
    obtain ⟨c, -, rfl⟩ := hw
    exact ⟨by show (0 : Int) ≤ (ka : Int); omega, by show (ka : Int) < ((ss.length : Nat) : Int); omega, secB_size c⟩⟩
def lastK (ss : List ByteArray) (ka : Nat) (cs : List UInt8) (fs : List Int) (k : Nat) : ByteArray := (nowD ss ka cs k).left ka fs
theorem lastK_step (ss : List ByteArray) (ka : Nat) (cs : List UInt8) (fs : List Int) (k : Nat) (hk : k < cs.length) : lastK ss ka cs fs (k + 1) = if h : k < fs.length then fateB fs[k] (lastK ss ka cs fs k) (secB cs[k]) else lastK ss ka cs fs k := by
  show leftL ka _ (wrL ka (cs.take (k + 1))) fs = _
  have e : wrL ka (cs.take (k + 1)) = wrL ka (cs.take k) ++ [((ka : Int), secB cs[k])] := by
    unfold wrL; rw [List.take_succ_eq_append_getElem hk, List.map_append]; rfl
  have hl : (wrL ka (cs.take k)).length = k := by rw [wrL, List.length_map, List.length_take]; omega
  rw [e, leftL_snoc]
  simp only [hl]
  by_cases h : k < fs.length
  · rw [dif_pos h, dif_pos h]
    unfold stepL
    rw [if_pos rfl]; rfl
  · rw [dif_neg h, dif_neg h]; rfl
theorem lastK_size {ss : List ByteArray} {ka : Nat} {cs : List UInt8} (h : RightIs ⟨ss, []⟩) (hka : ka < ss.length) (fs : List Int) (k : Nat) (hk : k ≤ 100) : (lastK ss ka cs fs k).size = 128 := dleft_size (nowD_right h hka k hk) fs hka
theorem torn_first (s x : ByteArray) (hx : x.size = 128) : (tornB s x).extract 0 64 = x.extract 0 64 := by
  apply ByteArray.ext
  simp only [tornB, ByteArray.data_extract, ByteArray.data_append]
  have h1 : x.data.size = 128 := hx
  rw [Array.extract_append]
  simp [h1]
theorem torn_last (s x : ByteArray) (hs : s.size = 128) (hx : x.size = 128) : (tornB s x).extract 64 128 = s.extract 64 128 := by
  apply ByteArray.ext
  simp only [tornB, ByteArray.data_extract, ByteArray.data_append]
  have h1 : x.data.size = 128 := hx
  have h3 : s.size = 128 := hs
  rw [Array.extract_append]
  simp [h1, h3]
theorem halves_whole (s : ByteArray) (h : s.size = 128) : s.extract 0 64 ++ s.extract 64 128 = s := by
  apply ByteArray.ext
  simp only [ByteArray.data_append, ByteArray.data_extract]
  have h2 : s.data.size = 128 := h
  rw [Array.extract_append_extract]
  show s.data.extract 0 128 = s.data
  exact Array.extract_eq_self_of_le (by rw [h2]; exact Nat.le_refl _)
end Go.Proofs.Ytcjngaapiomkbaa
