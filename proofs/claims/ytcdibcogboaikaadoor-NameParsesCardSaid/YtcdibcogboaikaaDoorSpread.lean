/-
  The digest's spread by its contract. Conditions: a block of 64 bytes.
-/
import Derived.Test.YtcdibcogboaikaaDoorTurn
import Derived.BigRegion
import Derived.Deep.OwnRows
import Derived.Laws.Rows
import Derived.Laws.CopyOwn
namespace Go.Proofs.YtcdibcogboaikaaDoor
open Go.RowKit

def byteAt (l : List UInt8) (i : Nat) : Value := .int .u8 (l.getD i 0).toNat
def wordAt (l : List Int) (i : Nat) : Value := .int .u32 (l.getD i 0)
/-- Where spread's rows lie. -/
def SpreadRows (w : World) (l : List UInt8) (ws : List Int) (wr : World) : Prop :=
  wr.rowIs w.heap.size 66 64 (byteAt l) ∧ wr.rowIs (w.heap.size + 1) 83 64 (wordAt []) ∧ wr.rowIs (w.heap.size + 1 + 1) 83 64 (wordAt ws) ∧ Below w.heap.size w wr
def zeros64 : Array Value := #[.int .u32 0, .int .u32 0, .int .u32 0, .int .u32 0, .int .u32 0, .int .u32 0, .int .u32 0, .int .u32 0, .int .u32 0, .int .u32 0, .int .u32 0, .int .u32 0, .int .u32 0, .int .u32 0, .int .u32 0, .int .u32 0, .int .u32 0, .int .u32 0, .int .u32 0, .int .u32 0, .int .u32 0, .int .u32 0, .int .u32 0, .int .u32 0, .int .u32 0, .int .u32 0, .int .u32 0, .int .u32 0, .int .u32 0, .int .u32 0, .int .u32 0, .int .u32 0, .int .u32 0, .int .u32 0, .int .u32 0, .int .u32 0, .int .u32 0, .int .u32 0, .int .u32 0, .int .u32 0, .int .u32 0, .int .u32 0, .int .u32 0, .int .u32 0, .int .u32 0, .int .u32 0, .int .u32 0, .int .u32 0, .int .u32 0, .int .u32 0, .int .u32 0, .int .u32 0, .int .u32 0, .int .u32 0, .int .u32 0, .int .u32 0, .int .u32 0, .int .u32 0, .int .u32 0, .int .u32 0, .int .u32 0, .int .u32 0, .int .u32 0, .int .u32 0]
theorem zeros64_at : ∀ i : Fin 64, zeros64[i.1]? = some (.int .u32 0) := fun i => by
  have : ∀ i : Fin 64, zeros64.toList[i.1]?.isSome = true := by decide
  have h2 : ∀ x ∈ zeros64.toList, x = .int .u32 0 := by simp [zeros64]
  rw [← Array.getElem?_toList]
  have h3 := this i
  rw [Option.isSome_iff_exists] at h3
  obtain ⟨x, hx⟩ := h3
  rw [hx, h2 x (List.mem_of_getElem? hx)]
theorem SpreadRows.start (w : World) (l : List UInt8) (hl : l.length = 64) :
    SpreadRows w l [] (((w.alloc (.cells ((l.map fun b => Value.int .u8 b.toNat).toArray) 66)).alloc (.cells zeros64 83)).alloc (.cells zeros64 83)) := by
  have h1 := World.rowIs_alloc w ((l.map fun b => Value.int .u8 b.toNat).toArray) 66 (byteAt l) (fun i hi => by
    simp only [List.size_toArray, List.length_map] at hi
    simp [byteAt, hi])
  have hz : ∀ i, i < zeros64.size → zeros64[i]? = some (wordAt [] i) := fun i hi => zeros64_at ⟨i, hi⟩
  have e : ((l.map fun b => Value.int .u8 b.toNat).toArray).size = 64 := by simp [hl]
  rw [e] at h1
  have h2 := World.rowIs_alloc (w.alloc (.cells ((l.map fun b => Value.int .u8 b.toNat).toArray) 66)) zeros64 83 (wordAt []) hz
  have h3 := World.rowIs_alloc ((w.alloc (.cells ((l.map fun b => Value.int .u8 b.toNat).toArray) 66)).alloc (.cells zeros64 83)) zeros64 83 (wordAt []) hz
  simp only [World.size_alloc] at h2 h3
  exact ⟨(h1.alloc _).alloc _, h2.alloc _, h3, (((Below.refl _ _).alloc (Nat.le_refl _) _).alloc (by simp) _).alloc (by simp; omega) _⟩

theorem SpreadRows.drewN {w wr : World} {l : List UInt8} {ws : List Int} (h : SpreadRows w l ws wr) (n : Nat) : SpreadRows w l ws (wr.drewN n) := ⟨h.1, h.2.1, h.2.2.1, h.2.2.2.trans ⟨rfl, rfl, rfl, Nat.le_refl _, fun _ _ => rfl⟩⟩
theorem SpreadRows.set {w wr : World} {l : List UInt8} {ws : List Int} (h : SpreadRows w l ws wr) (t : Nat) (ht : ws.length = t) (v : Int) :
    SpreadRows w l (ws ++ [v]) (wr.setCell ⟨w.heap.size + 1 + 1, t, none⟩ (.int .u32 v)) := by
  obtain ⟨h1, h2, h3, hb⟩ := h
  refine ⟨(h1.setOther (show w.heap.size ≠ w.heap.size + 1 + 1 by omega) _), (h2.setOther (show w.heap.size + 1 ≠ w.heap.size + 1 + 1 by omega) _), ((h3.set t _).congr fun i _ => ?_), (hb.setCell (show w.heap.size ≤ w.heap.size + 1 + 1 by omega) _)⟩
  unfold wordAt
  rw [getD_snoc, ht]
  split <;> rfl
theorem rowIs_cells {wr : World} {b n : Nat} {t : TypeId} {f : Nat → Value} (h : wr.rowIs b t n f) (ws : List Value) (hl : ws.length = n) (hf : ∀ i, i < n → ws[i]? = some (f i)) : wr.heap[b]? = some (.cells ws.toArray t (0, 0)) := by
  obtain ⟨c, hb, hn, hc⟩ := h
  rw [hb]
  congr 2
  apply Array.ext_getElem?
  intro i
  by_cases hi : i < n
  · rw [hc i hi]; simp [hf i hi]
  · rw [Array.getElem?_eq_none (by omega), Array.getElem?_eq_none (by simp; omega)]
theorem rowIs_words {wr : World} {b n : Nat} {t : TypeId} {f : Nat → Value} (h : wr.rowIs b t n f) (ws : List Int) (hl : ws.length = n) (hf : ∀ i, i < n → f i = wordAt ws i) : wr.heap[b]? = some (.cells ((ws.map (Value.int .u32)).toArray) t (0, 0)) := by
  refine rowIs_cells h _ (by simpa using hl) (fun i hi => ?_)
  rw [hf i hi]
  have : i < ws.length := by omega
  simp [wordAt, this]
theorem info64 {C : Array Value} (h : C.size = 64) : (Tryd.prog.info? 83).map (·.size) = some C.size := by rw [h]; kernel_rfl
theorem or_add (k y i m : Nat) (hm : 2 ^ i = m) (hy : y < m) (h : k * m + y < 4294967296) : bits .or .u32 ((k * m : Nat) : Int) (y : Int) = ((k * m + y : Nat) : Int) := by
  subst hm
  rw [u32_or_nat _ _ (by omega) (by omega)]
  congr 1
  rw [← Nat.shiftLeft_eq, ← Nat.shiftLeft_add_eq_or_of_lt hy]
theorem or4 (a b c d : Nat) (ha : a < 256) (hb : b < 256) (hc : c < 256) (hd : d < 256) :
    bits .or .u32 (bits .or .u32 (bits .or .u32 ((a : Int) * 16777216) ((b : Int) * 65536)) ((c : Int) * 256)) (d : Int) = ((a * 16777216 + b * 65536 + c * 256 + d : Nat) : Int) := by
  have f1 : ((a : Int) * 16777216) = ((a * 16777216 : Nat) : Int) := by omega
  have f2 : ((b : Int) * 65536) = ((b * 65536 : Nat) : Int) := by omega
  have f3 : ((c : Int) * 256) = ((c * 256 : Nat) : Int) := by omega
  have f4 : a * 16777216 + b * 65536 = (a * 256 + b) * 65536 := by rw [Nat.add_mul]; omega
  have f5 : (a * 256 + b) * 65536 + c * 256 = ((a * 256 + b) * 256 + c) * 256 := by rw [Nat.add_mul _ c, Nat.mul_assoc _ 256 256]
  have e1 := or_add a (b * 65536) 24 16777216 (by simp) (by omega) (by omega)
  have e2 := or_add (a * 256 + b) (c * 256) 16 65536 (by simp) (by omega) (by omega)
  have e3 := or_add ((a * 256 + b) * 256 + c) d 8 256 (by simp) (by omega) (by omega)
  rw [f1, f2, f3, e1, f4, e2, f5, e3]

set_option maxRecDepth 100000 in
set_option maxHeartbeats 2000000 in
theorem spread_any (l : List UInt8) (w : World) (hl : l.length = 64) :
    Calls Tryd.prog 59 #[.agg ((l.map fun b => Value.int .u8 b.toNat).toArray)] w fun e w' => e = .returned (.agg (((sched l 48).map (Value.int .u32)).toArray)) ∧ Below w.heap.size w w' := by
  have HS := Lib.hid (SpreadRows.start w l hl)
  obtain ⟨cs, hcs⟩ : ∃ cs : Array Value, (l.map fun b => Value.int .u8 b.toNat).toArray = cs := ⟨_, rfl⟩
  have HL := Lib.hid hl
  rw [hcs] at HS ⊢
  obtain ⟨C, hC⟩ : ∃ C : Array Value, (((sched l 48).map (Value.int .u32)).toArray) = C := ⟨_, rfl⟩
  rw [hC]
  have HC := Lib.hid hC
  clear hcs hl hC
  go_enter Tryd.func59, Tryd.ntmps59
  go_wp2_with fail
  go_loopw [11] (fun i wr => ∃ t : Nat, t ≤ 16 ∧ i = .int .i64 t ∧ SpreadRows w l (words l t) wr) (fun i _ => 16 - (intOf i).toNat)
  case atStart => exact ⟨0, Nat.zero_le _, rfl, HS.out⟩
  case round =>
    obtain ⟨t, ht, rfl, hr1, hr2, hr3, hb⟩ := hrel
    by_cases hlt : t < 16
    · have c0 := hr1.cell (i := t * 4) (by omega)
      have c1 := hr1.cell (i := t * 4 + 1) (by omega)
      have c2 := hr1.cell (i := t * 4 + 2) (by omega)
      have c3 := hr1.cell (i := t * 4 + 3) (by omega)
      have d0 := hr3.cell (i := t) (by omega)
      have f0 := hr3.frozen t
      have H1 := Lib.hid hr1
      have H2 := Lib.hid hr2
      have H3 := Lib.hid hr3
      have HB := Lib.hid hb
      unfold byteAt at c0 c1 c2 c3
      clear hr1 hr2 hr3 hb HS
      obtain ⟨b0, hb0⟩ : ∃ b0, l.getD (t * 4) 0 = b0 := ⟨_, rfl⟩
      obtain ⟨b1, hb1⟩ : ∃ b1, l.getD (t * 4 + 1) 0 = b1 := ⟨_, rfl⟩
      obtain ⟨b2, hb2⟩ : ∃ b2, l.getD (t * 4 + 2) 0 = b2 := ⟨_, rfl⟩
      obtain ⟨b3, hb3⟩ : ∃ b3, l.getD (t * 4 + 3) 0 = b3 := ⟨_, rfl⟩
      rw [hb0] at c0
      rw [hb1] at c1
      rw [hb2] at c2
      rw [hb3] at c3
      have E0 := Lib.hid hb0
      have E1 := Lib.hid hb1
      have E2 := Lib.hid hb2
      have E3 := Lib.hid hb3
      clear hb0 hb1 hb2 hb3
      have l0 := b0.toNat_lt
      have l1 := b1.toNat_lt
      have l2 := b2.toNat_lt
      have l3 := b3.toNat_lt
      go_wp2_with fail
      go_region
      go_wp2_with fail
      go_roundw
      case rel =>
        refine ⟨t + 1, by omega, by go_num, ?_⟩
        rw [or4 _ _ _ _ l0 l1 l2 l3, words_succ, show word4 l t = ((b0.toNat * 16777216 + b1.toNat * 65536 + b2.toNat * 256 + b3.toNat : Nat) : Int) by rw [← E0.out, ← E1.out, ← E2.out, ← E3.out]; rfl]
        exact (SpreadRows.set ⟨H1.out, H2.out, H3.out, HB.out⟩ t (words_length l t) _).drewN 1
      case measure => simp [intOf]; omega
    · have t16 : 16 ≤ t := by omega
      have HR := Lib.hid (show SpreadRows w l (sched l 0) wr by
        obtain rfl : t = 16 := by omega
        exact ⟨hr1, hr2, hr3, hb⟩)
      clear hr1 hr2 hr3 hb HS
      go_wp2_with fail
      go_loopw [6] (fun i wr => ∃ n : Nat, 16 ≤ n ∧ n ≤ 64 ∧ i = .int .i64 n ∧ SpreadRows w l (sched l (n - 16)) wr) (fun i _ => 64 - (intOf i).toNat)
      case atStart => exact ⟨16, Nat.le_refl _, by decide, rfl, HR.out⟩
      case round =>
        clear HR
        obtain ⟨n, hn1, hn2, rfl, hr1, hr2, hr3, hb⟩ := hrel
        by_cases hlt : n < 64
        · have c0 := hr3.cell (i := n - 15) (by omega)
          have c1 := hr3.cell (i := n - 2) (by omega)
          have c2 := hr3.cell (i := n - 7) (by omega)
          have c3 := hr3.cell (i := n - 16) (by omega)
          have d0 := hr3.cell (i := n) (by omega)
          have f0 := hr3.frozen n
          have U := sched_u32 l (n - 16)
          have u0 := Lib.hid (getD_u32 U (n - 15))
          have u1 := Lib.hid (getD_u32 U (n - 2))
          have u2 := Lib.hid (getD_u32 U (n - 7))
          have u3 := Lib.hid (getD_u32 U (n - 16))
          have HR := Lib.hid (show SpreadRows w l (sched l (n - 16)) wr from ⟨hr1, hr2, hr3, hb⟩)
          have HN := Lib.hid (show nextW ((sched l (n - 16)).getD (n - 15) 0) ((sched l (n - 16)).getD (n - 2) 0) ((sched l (n - 16)).getD (n - 7) 0) ((sched l (n - 16)).getD (n - 16) 0) = next (sched l (n - 16)) n from rfl)
          unfold wordAt at c0 c1 c2 c3 d0
          clear hr1 hr2 hr3 hb U
          generalize (sched l (n - 16)).getD (n - 15) 0 = x0 at c0 u0 HN
          generalize (sched l (n - 16)).getD (n - 2) 0 = x1 at c1 u1 HN
          generalize (sched l (n - 16)).getD (n - 7) 0 = x2 at c2 u2 HN
          generalize (sched l (n - 16)).getD (n - 16) 0 = x3 at c3 u3 HN
          obtain ⟨m0, m1⟩ := u0.out
          obtain ⟨m2, m3⟩ := u1.out
          obtain ⟨m4, m5⟩ := u2.out
          obtain ⟨m6, m7⟩ := u3.out
          go_wp2_with fail
          go_quiet (fail)
          go_wp2_with fail
          refine (turned_any x0 7 _ u0.out (by decide)).mono ?_
          rintro e w2 ⟨rfl, rfl⟩
          go_wp2_with fail
          refine (turned_any x0 18 _ u0.out (by decide)).mono ?_
          rintro e w2 ⟨rfl, rfl⟩
          go_wp2_with fail
          refine (turned_any x1 17 _ u1.out (by decide)).mono ?_
          rintro e w2 ⟨rfl, rfl⟩
          go_wp2_with fail
          refine (turned_any x1 19 _ u1.out (by decide)).mono ?_
          rintro e w2 ⟨rfl, rfl⟩
          go_wp2_with fail
          go_region
          go_wp2_with fail
          go_roundw
          case rel =>
            refine ⟨n + 1, by omega, by omega, by go_num, ?_⟩
            rw [show n + 1 - 16 = n - 16 + 1 by omega, sched_succ, show 16 + (n - 16) = n by omega, ← HN.out]
            exact SpreadRows.set (HR.out.drewN (nq + 1)) n (by rw [sched_length]; omega) _
          case measure => simp [intOf]; omega
        · have n64 : 64 ≤ n := by omega
          have e48 := Lib.hid (show n - 16 = 48 by omega)
          rw [e48.out] at hr3
          have hc3 := rowIs_words hr3 (sched l 48) (by rw [sched_length]) (fun _ _ => rfl)
          have hsz : (((sched l 48).map (Value.int .u32)).toArray).size = 64 := by simp [sched_length]
          have h1 : C.all (·.oneCell') = true := by rw [← HC.out]; simp [Value.oneCell']
          rw [HC.out] at hc3 hsz
          obtain ⟨D, hD, hDs, -⟩ := hr2
          have HC3 := Lib.hid hc3
          have HC2 := Lib.hid hD
          have HSZ := Lib.hid hsz
          have HDS := Lib.hid (hDs.trans hsz.symm)
          have HB := Lib.hid hb
          have H1 := Lib.hid h1
          clear hn1 hn2 hr1 hr3 hb hc3 hsz h1 hD hDs
          go_wp2_with (first | (refine wpList_load_row rfl 83 (.tmp 3) rfl (w.heap.size + 1 + 1) rfl 83 C (0, 0) _ HC3.out Tryd.underlying83 rfl (info64 HSZ.out) ?_) | (refine wpList_store_row rfl 83 (.tmp 2) (.tmp 87) rfl (w.heap.size + 1) C rfl rfl 83 D HC2.out (info64 HSZ.out) HDS.out H1.out ?_))
          have hfin : (wr.setRow (w.heap.size + 1) C).heap[w.heap.size + 1]? = some (.cells C 83 (0, 0)) := setRow_heap wr _ _ _ _ _ HC2.out
          exact bodyPost_ret (results_cell_row (p := 2) rfl _ _ (w.heap.size + 1) 83 C (0, 0) _ rfl hfin Tryd.underlying83 rfl (info64 HSZ.out)) rfl ⟨rfl, HB.out.trans (below_setRow (Below.refl _ _) (show w.heap.size ≤ w.heap.size + 1 by omega) _)⟩
end Go.Proofs.YtcdibcogboaikaaDoor
